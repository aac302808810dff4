import PyProof.Rows.All
import Wide.All
import OpenK.AllK
import Wide.FinOn
import Lean
import PyProof.EqAt
import PyProof.EqKinds
import PyProof.TupleCall
import PyProof.NeKinds
import PySem.Challenge.RW_latticeworks_k34_short_steps
set_option Elab.async false
set_option linter.all false
set_option maxRecDepth 100000
namespace L2
open PySem PySem.Spec PyProof.Rows
noncomputable abbrev Key:=Sum Int Str
noncomputable def CZ:Key→Value→Bool
 | .inl k,v=>Value.isInt k v
 | .inr x,v=>Value.isStrOf x v
noncomputable def La(w:World):Key→Int
 | .inl k=>hashInt k
 | .inr x=>hashStr w x
theorem e8:∀ {k:Key} {v:Value},CZ k v=true→(∃i t,k=Sum.inl i∧v=Value.int i t)∨(∃x t,k=Sum.inr x∧v=Value.str x t)
 | .inl i,v,h=>by
   obtain⟨t,e⟩:=Value.isInt_shape (k:=i) (v:=v) h
   exact .inl ⟨i,t,rfl,e⟩
 | .inr x,v,h=>by
   obtain⟨t,e⟩:=Value.isStrOf_shape (x:=x) (v:=v) h
   exact .inr ⟨x,t,rfl,e⟩
theorem G_(a b:Int):decide ((Sum.inl a:Key)=Sum.inl b)=(a==b):=by
 by_cases e:a=b
 · subst e;simp
 · have h:¬(Sum.inl a:Key)=Sum.inl b:=fun q=>e (Sum.inl.inj q)
   rw[decide_eq_false h]
   exact(beq_eq_false_iff_ne.mpr e).symm
theorem GB(a b:Str):decide ((Sum.inr a:Key)=Sum.inr b)=decide (a=b):=by
 by_cases e:a=b
 · subst e;simp
 · have h:¬(Sum.inr a:Key)=Sum.inr b:=fun q=>e (Sum.inr.inj q)
   rw[decide_eq_false h,decide_eq_false e]
theorem HI(a:Int)(b:Str):decide ((Sum.inl a:Key)=Sum.inr b)=false:=decide_eq_false (fun q=>nomatch q)
theorem GZ(a:Str)(b:Int):decide ((Sum.inr a:Key)=Sum.inl b)=false:=decide_eq_false (fun q=>nomatch q)
noncomputable def xm(prog:Program)(w:World):PySem.KeyKind prog w Key where
 is:=CZ
 hash:=La w
 inj:=fun v a b ha hb=>by
  rcases e8 ha with⟨i,t,rfl,rfl⟩|⟨x,t,rfl,rfl⟩
  · rcases e8 hb with⟨j,u,rfl,e⟩|⟨y,u,rfl,e⟩
    · injection e with e1 _;rw[e1]
    · exact nomatch e
  · rcases e8 hb with⟨j,u,rfl,e⟩|⟨y,u,rfl,e⟩
    · exact nomatch e
    · injection e with e1 _;rw[e1]
 byValue:=fun k v h=>by
  rcases e8 h with⟨i,t,rfl,rfl⟩|⟨x,t,rfl,rfl⟩<;>rfl
 pyHash:=fun hv h=>by
  rcases e8 hv with⟨i,t,rfl,rfl⟩|⟨x,t,rfl,rfl⟩
  · exact wpAny_pyHash_int h
  · exact wpAny_pyHash_str h
 eqBool:=fun hu hv h=>by
  rcases e8 hu with⟨i,t,rfl,rfl⟩|⟨x,t,rfl,rfl⟩
  · rcases e8 hv with⟨j,u,rfl,rfl⟩|⟨y,u,rfl,rfl⟩
    · rw[G_]at h;exact wpAny_eqBool_int h
    · rw[HI]at h;exact SeqAt.EqAt.int_str i t y u _ _ _ _ h
  · rcases e8 hv with⟨j,u,rfl,rfl⟩|⟨y,u,rfl,rfl⟩
    · rw[GZ]at h;exact SeqAt.EqAt.str_int x t j u _ _ _ _ h
    · rw[GB]at h;exact wpAny_eqBool_str h
 «strs» :=fun k x t v h=>by
  rcases e8 h with⟨i,u,rfl,e⟩|⟨y,u,rfl,e⟩
  · exact nomatch e
  · injection e with e1 _
    subst e1
    cases v<;>rfl
end L2
namespace L2
open PySem PySem.Spec PyProof.Rows
inductive V where
 |aH|bl (b:Bool)|int (i:Int)|str (x:Str)|qg (b:Array UInt8)|qd (b:UInt64)|ref (a:Addr)|ty (n:String)
 deriving DecidableEq
noncomputable def RelV:V→Value→Prop
 | .aH,u=>u=Value.none
 | .bl b,u=>u=Value.bool b
 | .int i,u=>∃t,u=Value.int i t
 | .str x,u=>∃t,u=Value.str x t
 | .qg b,u=>∃t,u=Value.bytes b t
 | .qd b,u=>∃t,u=Value.float b t
 | .ref a,u=>u=Value.ref a
 | .ty n,u=>u=Value.type n
noncomputable abbrev Vals:List V→List Value→Prop:=Paired RelV
theorem Vals.length{xs:List V}{us:List Value}(r:Vals xs us):xs.length=us.length:=Paired.length r
theorem Vals.get:∀ {xs:List V} {us:List Value} {i:Nat} {x:V},Vals xs us→xs[i]?=some x→∃u,us[i]?=some u∧RelV x u
 |_,_,_,_,.nil,e=>by simp at e
 |_,_,0,_,.cons r _,e=>by simp at e;subst e;exact⟨_,rfl,r⟩
 |_,_,i+1,x,.cons _ t,e=>by
  obtain⟨u,h1,h2⟩:=Vals.get (i:=i) (x:=x) t (by simpa using e)
  exact⟨u,by simpa using h1,h2⟩
theorem Vals.set{x:V}{u:Value}(r:RelV x u):∀ {xs:List V} {us:List Value} (i:Nat),Vals xs us→Vals (xs.set i x) (us.set i u)
 |_,_,_,.nil=> .nil
 |_,_,0,.cons _ t=> .cons r t
 |_,_,i+1,.cons q t=> .cons q (Vals.set r i t)
theorem Vals.append:∀ {xs ys:List V} {us ws:List Value},Vals xs us→Vals ys ws→Vals (xs++ys) (us++ws)
 |_,_,_,_,.nil,s=>s
 |_,_,_,_,.cons r t,s=> .cons r (Vals.append t s)
theorem Vals.take:∀ {xs:List V} {us:List Value} (n:Nat),Vals xs us→Vals (xs.take n) (us.take n)
 |_,_,0,_=> .nil
 |_,_,_+1,.nil=> .nil
 |_,_,n+1,.cons r t=> .cons r (Vals.take n t)
theorem Vals.drop:∀ {xs:List V} {us:List Value} (n:Nat),Vals xs us→Vals (xs.drop n) (us.drop n)
 |_,_,0,r=>r
 |_,_,_+1,.nil=> .nil
 |_,_,n+1,.cons _ t=>Vals.drop n t
noncomputable def mO:Option V→Option Value→Prop
 |some v,some u=>RelV v u
 |none,none=>True
 |_,_=>False
noncomputable def KV{κ:Type}:List (κ×V)→List (κ×Value)→Prop:=Paired fun(p:κ×V) (q:κ×Value)=>p.1=q.1∧RelV p.2 q.2
noncomputable def kV:Key→V
 | .inl i=> .int i
 | .inr x=> .str x
inductive HO where
 |lst (xs:List V)
 |tup (xs:List V)
 |dK (kvs:List (Key×V))|dT (kvs:List (List Key×V))
 |set (S:Int→Bool) (n:Nat)
 |ins (C dx:Addr) (fs:List (Str×V))
 |own (x:Addr)
 |xd (fs:List (Str×V))
 |met (f x:Addr)
 |GK (lo hi:Int)
 |iO (o:Obj) (u:HO)
 |lE (ps:Array Value)
 |ext (φ:Heap→Prop)
noncomputable abbrev Hp:=Addr→Option HO
noncomputable def upd(H:Hp)(a:Addr)(o:HO):Hp:=fun b=>if b=a then some o else H b
theorem bw{H:Hp}{a:Addr}{o:HO}:upd H a o a=some o:=by unfold upd;rw[if_pos rfl]
theorem aE{H:Hp}{a b:Addr}{o:HO}(h:b≠a):upd H a o b=H b:=by unfold upd;rw[if_neg h]
theorem Fl{H:Hp}{a:Addr}{o u:HO}:upd (upd H a o) a u=upd H a u:=by
 funext b;unfold upd;split<;>rfl
theorem e7{H:Hp}{a b:Addr}{o:HO}(h:H a=some o)(h':H b=none):a≠b:=by
 intro e;subst e;rw[h]at h';cases h'
section
variable (P:Program)(w:World)
noncomputable def dS(H:Hp)(h:Heap)(a:Addr):HO→Prop
 | .lst xs=>xs.length≤sizeLine∧∃(its:List Value) (n:Nat),Vals xs its∧h.get? a=some {cls:= .type "list",data:= .seq its.toArray n}
 | .tup xs=>xs.length≤sizeLine∧∃its:List Value,Vals xs its∧IsTup h a its.toArray
 | .dK kvs=>kvs.length≤sizeLine∧(a==sysModules)=false∧∃vs,KV kvs vs∧h.DictOf (xm P w) a vs
 | .dT kvs=>kvs.length≤sizeLine∧(a==sysModules)=false∧∃xs:List (List Key×Addr×Value),
    Paired (fun(p:List Key×V) (q:List Key×Addr×Value)=>p.1=q.1∧H q.2.1=some (.tup (p.1.map kV))∧RelV p.2 q.2.2) kvs xs∧
    ∃o es ep,h.get? a=some o∧o.ExactDict∧o.data= .dict es ep∧es.toList=xs.map (entryOfKey (tupleKind (xm P w)))∧(xs.map (·.1)).Nodup
 | .set S n=>h.SetOf (intKind P w) a S n
 | .ins C dx fs=>H dx=some (.own a)∧fs.length≤1000∧dx≠a∧h.get? a=some (PySem.W.instObj C dx)∧
    ∃mA,h.Ns1 dx mA∧(∀f,mO (fs.lookup f) (mA f))∧PySem.Within mA (fs.map (·.1))
 | .own _=>∃o,h.get? a=some o
 | .xd fs=>∃mA,h.Ns1 a mA∧∀f,mO (fs.lookup f) (mA f)
 | .GK lo hi=>∃t u v,h.get? a=some {cls:= .type "range",data:= .fields #[.int lo t,.int hi u,.int 1 v]}
 | .iO o u=>h.get? a=some o∧dS H h a u
 | .lE ps=>h.get? a=some {cls:= .none,data:= .fields ps}
 | .met f x=>h.get? a=some (PySem.W.methodObj (.ref f) (.ref x))
 | .ext φ=>φ h∧(∃o,h.get? a=some o)∧∀h1 h2:Heap,φ h1→(∀o,h1.get? a=some o→h2.get? a=some o)→φ h2
noncomputable def g6(H:Hp)(h:Heap):Prop:=∀a o,H a=some o→dS P w H h a o
end
section
variable {P:Program}{w:World}{H H':Hp}{h h':Heap}{a:Addr}{o:HO}
theorem dS.lt(x:dS P w H h a o):a<h.objs.size:=by
 cases o with
 |lst xs=>obtain⟨_,_,_,_,e⟩:=x;exact Heap.lt_size e
 |tup xs=>obtain⟨_,_,_,p⟩:=x;exact p.lt
 |dK kvs=>obtain⟨_,_,_,_,o,_,_,e,_⟩:=x;exact Heap.lt_size e
 |dT kvs=>obtain⟨_,_,_,_,o,_,_,e,_⟩:=x;exact Heap.lt_size e
 |set S n=>obtain⟨o,_,_,_,e,_⟩:=x;exact Heap.lt_size e
 |ins C dx fs=>obtain⟨_,_,_,e,_⟩:=x;exact Heap.lt_size e
 |own y=>obtain⟨_,e⟩:=x;exact Heap.lt_size e
 |xd fs=>obtain⟨_,⟨_,_,_,e,_⟩,_⟩:=x;exact Heap.lt_size e
 |GK lo hi=>obtain⟨_,_,_,e⟩:=x;exact Heap.lt_size e
 |iO ob u=>obtain⟨e,_⟩:=x;exact Heap.lt_size e
 |lE ps=>exact Heap.lt_size (show h.get? a=some _ from x)
 |met f y=>exact Heap.lt_size (show h.get? a=some _ from x)
 |ext φ=>obtain⟨_,⟨_,e⟩,_⟩:=x;exact Heap.lt_size e
theorem Paired.BA{α β:Type}{F G:α→β→Prop}:∀ {l₁:List α} {l₂:List β},Paired F l₁ l₂→(∀a b,F a b→G a b)→Paired G l₁ l₂
 |_,_,.nil,_=> .nil
 |_,_,.cons r t,f=> .cons (f _ _ r) (Paired.BA t f)
theorem dS.oN(x:dS P w H h a o)(k:∀b u,(b=a∨H b=some (.own a))→h.get? b=some u→h'.get? b=some u)
 (ho:∀b,H b=some (.own a)→H' b=some (.own a)) (ht:∀b xs,H b=some (.tup xs)→H' b=some (.tup xs)):dS P w H' h' a o:=by
 induction o with
 |lst xs=>obtain⟨z,its,n,r,e⟩:=x;exact⟨z,its,n,r,k _ _ (.inl rfl) e⟩
 |tup xs=>obtain⟨z,its,r,ob,e,c⟩:=x;exact⟨z,its,r,ob,k _ _ (.inl rfl) e,c⟩
 |dK kvs=>obtain⟨z,y,vs,r,ob,es,ep,e,c⟩:=x;exact⟨z,y,vs,r,ob,es,ep,k _ _ (.inl rfl) e,c⟩
 |dT kvs=>
  obtain⟨z,y,xs,r,ob,es,ep,e,c⟩:=x
  exact⟨z,y,xs,Paired.BA r fun p q z=>⟨z.1,ht _ _ z.2.1,z.2.2⟩,ob,es,ep,k _ _ (.inl rfl) e,c⟩
 |set S n=>obtain⟨ob,es,ep,t,e,c⟩:=x;exact⟨ob,es,ep,t,k _ _ (.inl rfl) e,c⟩
 |ins C dx fs=>
  obtain⟨d,z,ne,e,mA,⟨od,es,ep,e2,c⟩,r⟩:=x
  exact⟨ho _ d,z,ne,k _ _ (.inl rfl) e,mA,⟨od,es,ep,k _ _ (.inr d) e2,c⟩,r⟩
 |own y=>obtain⟨ob,e⟩:=x;exact⟨ob,k _ _ (.inl rfl) e⟩
 |xd fs=>obtain⟨mA,⟨od,es,ep,e,c⟩,r⟩:=x;exact⟨mA,⟨od,es,ep,k _ _ (.inl rfl) e,c⟩,r⟩
 |GK lo hi=>obtain⟨t,u,v,e⟩:=x;exact⟨t,u,v,k _ _ (.inl rfl) e⟩
 |iO ob u ih=>obtain⟨e,q⟩:=x;exact⟨k _ _ (.inl rfl) e,ih q⟩
 |lE ps=>
  have e:h.get? a=some {cls:= .none,data:= .fields ps}:=x
  show h'.get? a=some {cls:= .none,data:= .fields ps}
  exact k a _ (.inl rfl) e
 |met f y=>
  have e:h.get? a=some (PySem.W.methodObj (.ref f) (.ref y)):=x
  show h'.get? a=some (PySem.W.methodObj (.ref f) (.ref y))
  exact k a _ (.inl rfl) e
 |ext φ=>obtain⟨p,⟨o,e⟩,st⟩:=x;exact⟨st _ _ p fun o q=>k _ _ (.inl rfl) q,⟨o,k _ _ (.inl rfl) e⟩,st⟩
theorem g6.lt(x:g6 P w H h)(e:H a=some o):a<h.objs.size:=(x a o e).lt
theorem g6.fresh(x:g6 P w H h)(e:h.objs.size≤a):H a=none:=by
 cases q:H a with
 |none=>rfl
 |some u=>exact absurd (Nat.lt_of_lt_of_le (x.lt q) e) (Nat.lt_irrefl _)
theorem g6.kept(x:g6 P w H h)(k:∀b u,h.get? b=some u→h'.get? b=some u):g6 P w H h':=fun a o e=>
 (x a o e).oN (fun b u _ q=>k b u q) (fun _ q=>q) fun _ _ q=>q
theorem g6.laid(x:g6 P w H h)(k:∀b u,h.get? b=some u→h'.get? b=some u)(hp:h.objs.size≤a)(new:dS P w (upd H a o) h' a o):g6 P w (upd H a o) h':=fun b u e=>by
 have hn:=x.fresh hp
 by_cases hb:b=a
 · subst hb;rw[bw]at e;cases e;exact new
 · rw[aE hb]at e
   exact(x b u e).oN (fun c v _ q=>k c v q) (fun c q=>by rw[aE (e7 q hn)];exact q) fun c xs q=>by rw[aE (e7 q hn)];exact q
end
noncomputable def Rd(H:Hp)(a:Addr)(u:HO):Prop:=H a=some u∨∃o,H a=some (.iO o u)
theorem Rd.of{H:Hp}{a:Addr}{u:HO}(h:H a=some u):Rd H a u:= .inl h
theorem Rd.ok{P:Program}{w:World}{H:Hp}{h:Heap}{a:Addr}{u:HO}(r:Rd H a u)(x:g6 P w H h):dS P w H h a u:=by
 rcases r with r|⟨o,r⟩
 · exact x a u r
 · obtain⟨_,q⟩:=x a _ r
   exact q
noncomputable def C_:Option HO→Prop
 |some (.lst _)=>True
 |some (.dK _)=>True
 |some (.dT _)=>True
 |some (.set _ _)=>True
 |some (.ins _ _ _)=>True
 |some (.ext _)=>True
 |_=>False
section
variable {P:Program}{w:World}{H:Hp}{h h':Heap}{x e:Addr}{o':HO}
theorem g6.write(ok:g6 P w H h)(mu:C_ (H x))(he:e=x∨H e=some (.own x))(k:∀b u,b≠e→h.get? b=some u→h'.get? b=some u)(heo:∃u,h'.get? e=some u)
 (new:dS P w (upd H x o') h' x o'):g6 P w (upd H x o') h':=fun b u q=>by
 have nown:∀c y,H c=some (.own y)→c≠x:=fun c y r z=>by subst z;rw[r]at mu;exact mu
 have ntup:∀c xs,H c=some (.tup xs)→c≠x:=fun c xs r z=>by subst z;rw[r]at mu;exact mu
 by_cases hb:b=x
 · subst hb;rw[bw]at q;cases q;exact new
 · rw[aE hb]at q
   by_cases hbe:b=e
   · have q':H b=some (.own x):=by
      rcases he with z|z
      · exact absurd (hbe.trans z) hb
      · rw[hbe];exact z
     rw[q]at q';cases q'
     obtain⟨v,hv⟩:=heo
     exact⟨v,by rw[hbe];exact hv⟩
   · refine(ok b u q).oN (fun c v hc r=>k c v ?_ r) (fun c r=>by rw[aE (nown c b r)];exact r) fun c xs r=>by rw[aE (ntup c xs r)];exact r
     rcases hc with rfl|hc
     · exact hbe
     · rintro rfl
       rcases he with z|z
       · exact nown c b hc z
       · rw[hc]at z;cases z;exact hb rfl
end
structure Un(fs ex:List Addr)(H H':Hp)(h h':Heap):Prop where
 keep:∀b o,h.get? b=some o→H b=none→b∉fs→b∉ex→h'.get? b=some o
 slot:∀b o,h.get? b=some o→H b=none→b∈fs→b∉ex→∃sl,h'.get? b=some {o with slots:=sl}
 free:∀b o,h.get? b=some o→H b=none→b∉ex→H' b=none
 there:∀b o,h.get? b=some o→b∉ex→∃o',h'.get? b=some o'
 ny:∀b xs,H b=some (.tup xs)→H' b=some (.tup xs)
 mI:∀b o u,H b=some (.iO o u)→H' b=some (.iO o u)
 mH:∀b ps,H b=some (.lE ps)→∃more,H' b=some (.lE (ps++more))
section
variable {fs fs' ex ex':List Addr}{H H1 H2:Hp}{h h1 h2 h':Heap}{a x e:Addr}{o:HO}
theorem Un.any(u:Un fs ex H H1 h h1){b:Addr}{ob:Obj}(q:h.get? b=some ob)(n:H b=none)(hx:b∉ex):∃sl,h1.get? b=some {ob with slots:=sl}:=by
 by_cases hb:b∈fs
 · exact u.slot b ob q n hb hx
 · exact⟨ob.slots,u.keep b ob q n hb hx⟩
theorem Un.kept(k:∀b u,h.get? b=some u→h'.get? b=some u):Un fs ex H H h h':=
 ⟨fun b ob q _ _ _=>k b ob q,fun b ob q _ _ _=>⟨ob.slots,k b ob q⟩,fun _ _ _ n _=>n,fun b ob q _=>⟨ob,k b ob q⟩,fun _ _ q=>q,fun _ _ _ q=>q,fun _ ps q=>⟨#[],by rw[q];simp⟩⟩
theorem Un.refl:Un fs ex H H h h:=Un.kept fun _ _ q=>q
theorem Un.laid(k:∀b u,h.get? b=some u→h'.get? b=some u)(hp:h.objs.size≤a)(hn:H a=none):Un fs ex H (upd H a o) h h' where
 keep:=fun b u q _ _ _=>k b u q
 slot:=fun b u q _ _ _=>⟨u.slots,k b u q⟩
 free:=fun b u q n _=>by rw[aE (Nat.ne_of_lt (Nat.lt_of_lt_of_le (Heap.lt_size q) hp))];exact n
 there:=fun b u q _=>⟨u,k b u q⟩
 ny:=fun b xs q=>by rw[aE (e7 q hn)];exact q
 mI:=fun b u xs q=>by rw[aE (e7 q hn)];exact q
 mH:=fun b ps q=>⟨#[],by rw[aE (e7 q hn),q];simp⟩
theorem Un.write(mu:C_ (H x))(he:e=x∨H e=some (.own x))(k:∀b u,b≠e→h.get? b=some u→h'.get? b=some u)(heo:∃u,h'.get? e=some u):Un fs ex H (upd H x o) h h':=by
 have hx:∀b,H b=none→b≠x:=fun b n z=>by subst z;rw[n]at mu;exact mu
 have hb:∀b,H b=none→b≠e:=fun b n z=>by
  subst z
  rcases he with r|r
  · exact hx b n r
  · rw[n]at r;cases r
 have hm:∀b u,H b=some u→¬C_ (some u)→b≠x:=fun b u q nm z=>by subst z;rw[q]at mu;exact nm mu
 refine⟨fun b u q n _ _=>k b u (hb b n) q,fun b u q n _ _=>⟨u.slots,k b u (hb b n) q⟩,fun b u q n _=>by rw[aE (hx b n)];exact n,fun b u q _=>?_,
  fun b xs q=>by rw[aE (hm b _ q fun z=>z)];exact q,fun b u xs q=>by rw[aE (hm b _ q fun z=>z)];exact q,fun b ps q=>⟨#[],by rw[aE (hm b _ q fun z=>z),q];simp⟩⟩
 by_cases hbe:b=e
 · subst hbe;exact heo
 · exact⟨u,k b u hbe q⟩
end
noncomputable def C8(h:Heap)(H:Hp):List Addr:=(List.range h.objs.size).filter fun a=>(H a).isSome
noncomputable def mL(h:Heap)(H:Hp):Heap:=PySem.W.hideAll h (C8 h H)
theorem zK(h:Heap)(H:Hp):(mL h H).objs.size=h.objs.size:=PySem.W.hideAll_size _ _
theorem nv{h:Heap}{H:Hp}{b:Addr}{o:Obj}(e:h.get? b=some o)(n:H b=none):(mL h H).get? b=some o:=
 PySem.W.hideAll_get _ e fun hm=>by
  have q:(H b).isSome=true:=(List.mem_filter.mp hm).2
  rw[n]at q;simp at q
theorem DW{h:Heap}{H:Hp}{b:Addr}{o:Obj}(e:(mL h H).get? b=some o):h.get? b=some o∧H b=none:=by
 have e':h.get? b=some o:=PySem.W.of_hideAll (C8 h H) e
 refine⟨e',?_⟩
 cases q:H b with
 |none=>rfl
 |some x=>
  have hm:b∈C8 h H:=List.mem_filter.mpr ⟨List.mem_range.mpr (Heap.lt_size e'),by simp[q]⟩
  have z:(mL h H).get? b=none:=PySem.W.hideAll_none (C8 h H) hm
  rw[z]at e;cases e
noncomputable def DC(g h:Heap)(L:Addr):List (Addr×Obj):=(List.range h.objs.size).filterMap fun a=>if a=L∨(g.get? a).isSome=true then none else(h.get? a).map fun o=>(a,o)
noncomputable def rest(g h:Heap)(L d:Addr):List (Addr×Obj):=(DC g h L).filter fun p=>decide (p.1≠d)
end L2
namespace L2
open PySem PySem.Spec PyProof.Rows
structure Mod(K:PySem.W.Frag)(mg:Str→Option Value)(base:Heap):Prop where
 AR:K.In base
 glob:base.Ns mainGlobals mg
 blt:∃mb,base.Ns builtinsNs mb∧∀x:Str,x≠"__name__"→mb x=bootBuiltins x
 nolimit:base.NoLimit
 seer:base.NoSeer
 bmain:∃bm ob,mg "__builtins__"=some (.ref bm)∧bm≠builtinsNs∧base.get? bm=some ob∧ob.cls= .type "module"∧ob.dict=some builtinsNs∧ob.data= .plain
structure Cx where
 prog:Program
 w:World
 K:PySem.W.Frag
 mg:Str→Option Value
 base:Heap
 A:Around
 N:List Str
 s₀:Shared
 H₀:Hp
 env:Env
 outer:List Env
 stack:List Env
 ex:List Addr
 fn:Str→Bool
 calm:Bool
 pn:List (Addr×Obj)
 xe:Value→Shared→Prop
noncomputable def mZ(l:List Env):List Addr:=l.filterMap (·.frame)
noncomputable abbrev Cx.fs(X:Cx):List Addr:=mZ X.outer
noncomputable def vV(sc:Scope)(x:Str):Prop:=sc.names.lookup x=some .local∨sc.names.lookup x=some .cell∨sc.names.lookup x=some .free
noncomputable def Loc(sc:Scope)(x:Str):Prop:=sc.names.lookup x=some .local∨sc.names.lookup x=some .cell
noncomputable def Look(env:Env)(h:Heap)(m:Str→Option Value)(x:Str)(u:Value):Prop:=
 (env.kindOf x=some .local∧m x=some u)∨((env.kindOf x=some .cell∨env.kindOf x=some .free)∧∃c,env.cells.lookup x=some c∧h.IsCell c (some u))
structure Cx.Ok(X:Cx):Prop where
 mod:Mod X.K X.mg X.base
 kind:X.env.scope.kind= .function
 glob:X.env.globals=mainGlobals
 blt:X.env.builtins=builtinsNs
 above:X.s₀.heap.objs.size≤X.env.locals
 inj:∀x y c,X.env.cells.lookup x=some c→X.env.cells.lookup y=some c→x=y
 has:∀x,(X.env.kindOf x=some .cell∨X.env.kindOf x=some .free)→∃c,X.env.cells.lookup x=some c
 xB:∀x c,X.fn x=true→X.env.cells.lookup x=some c→X.s₀.heap.objs.size≤c
 hd:X.calm=true→X.A.handled=none
 frames:X.A.frames=some X.stack
 z8:X.stack=X.outer∨(X.stack=X.env::X.outer∧X.env.frame=some X.env.locals)
 CF:∀b∈X.ex,b≠X.env.locals∧∀x c,X.env.cells.lookup x=some c→c≠b
 bs:∀b o,X.base.get? b=some o→X.s₀.heap.get? b=some o∧X.H₀ b=none
 rS:X.base.objs.size≤X.s₀.heap.objs.size
 sS:∀b o,X.base.get? b=some o→b∉X.ex
 sV:∀b∈X.ex,b∉X.fs
 jR:X.s₀.heap.FunFrames X.base X.outer
 t5:∀b∈X.fs,X.H₀ b=none
 gt:X.prog.given.tree=none
structure Inv(X:Cx)(pins:List (Addr×Obj))(σ:List (Option V))(H:Hp)(s:Shared):Prop where
 ok:X.Ok
 os:s.os=X.s₀.os
 bare:AllBare s.gens
 base:Un X.fs X.ex X.H₀ H X.s₀.heap s.heap
 loc:∃m,s.heap.Ns X.env.locals m∧∀(i:Nat) (x:Str) (v:V),X.N[i]?=some x→σ[i]?=some (some v)→vV X.env.scope x→∃u,RelV v u∧Look X.env s.heap m x u
 cell:∀x c,X.env.cells.lookup x=some c→∃v,s.heap.IsCell c v
 free:H X.env.locals=none
 jI:∀x c,X.env.cells.lookup x=some c→H c=none
 pin:∀p∈X.pn++pins,s.heap.get? p.1=some p.2∧H p.1=none∧p.1≠X.env.locals∧p.1∉X.fs∧∀v,p.2.data≠ .cell v
 aP:g6 X.prog X.w H s.heap
 len:σ.length=X.N.length
section
variable {X:Cx}{pins:List (Addr×Obj)}{σ:List (Option V)}{H H':Hp}{s:Shared}{h':Heap}
theorem Cx.Ok.Le(ok:X.Ok){b:Addr}{o:Obj}(e:X.base.get? b=some o):b∉X.fs:=fun hb=>by
 have:=(ok.jR.mem hb).1
 rw[e]at this;cases this
theorem Inv.bs(I:Inv X pins σ H s):∀b o,X.base.get? b=some o→s.heap.get? b=some o∧H b=none:=fun b o e=>
 ⟨I.base.keep b o (I.ok.bs b o e).1 (I.ok.bs b o e).2 (I.ok.Le e) (I.ok.sS b o e),I.base.free b o (I.ok.bs b o e).1 (I.ok.bs b o e).2 (I.ok.sS b o e)⟩
theorem Inv.bk(I:Inv X pins σ H s):∀b o,X.base.get? b=some o→s.heap.get? b=some o:=fun b o e=>(I.bs b o e).1
theorem Inv.mod(I:Inv X pins σ H s):Mod X.K X.mg X.base:=I.ok.mod
theorem Inv.gK(I:Inv X pins σ H s):X.K.In s.heap:=I.ok.mod.AR.keeps I.bk
theorem Inv.lt(I:Inv X pins σ H s):X.env.locals<s.heap.objs.size:=let⟨_,hn,_⟩:=I.loc;hn.lt
theorem Inv.sz(I:Inv X pins σ H s):X.s₀.heap.objs.size≤s.heap.objs.size:=Nat.le_trans I.ok.above (Nat.le_of_lt I.lt)
theorem Inv.K_(I:Inv X pins σ H s){a:Addr}(h:s.heap.objs.size≤a):a∉X.fs:=fun hb=>by
 obtain⟨_,o,ho,_⟩:=I.ok.jR.mem hb
 exact absurd (Nat.lt_of_lt_of_le (Heap.lt_size ho) (Nat.le_trans I.sz h)) (Nat.lt_irrefl _)
theorem Inv.wo(I:Inv X pins σ H s):∀x c,X.env.cells.lookup x=some c→c≠X.env.locals:=fun x c e z=>by
 obtain⟨v,o,ho,hd⟩:=I.cell x c e
 obtain⟨m,⟨o',es,ep,ho',hd',_⟩,_⟩:=I.loc
 rw[z,ho']at ho;cases ho;rw[hd']at hd;cases hd
theorem Inv.jR(I:Inv X pins σ H s):s.heap.FunFrames X.base X.outer:=by
 have all:∀(l:List Env),(∀b∈mZ l,b∈X.fs)→X.s₀.heap.FunFrames X.base l→s.heap.FunFrames X.base l:=by
  intro l
  induction l with
  |nil=>intro _ _;trivial
  |cons env r ih=>
   intro hs hl
   obtain⟨hk,⟨L,o,hf,hn,ho,hd⟩,hr⟩:=hl
   have hL:L∈X.fs:=hs L (by unfold mZ;rw[List.filterMap_cons,hf];exact List.mem_cons_self)
   obtain⟨sl,e⟩:=I.base.slot L o ho (I.ok.t5 L hL) hL fun z=>I.ok.sV L z hL
   exact⟨hk,⟨L,_,hf,hn,e,hd⟩,ih (fun b hb=>hs b (by unfold mZ;rw[List.filterMap_cons,hf];exact List.mem_cons_of_mem _ hb)) hr⟩
 exact all X.outer (fun _ hb=>hb) I.ok.jR
theorem Inv.stack(I:Inv X pins σ H s):s.heap.FunFrames X.base X.stack:=by
 rcases I.ok.z8 with e|⟨e,hf⟩
 · rw[e];exact I.jR
 · rw[e]
   obtain⟨m,hn,_⟩:=I.loc
   refine .cons (by rw[I.ok.kind];decide) hf hn ?_ I.jR
   exact Heap.get?_none_of_le (Nat.le_trans I.ok.rS I.ok.above)
theorem Inv.vf(I:Inv X pins σ H s):∀b∈mZ X.stack,b∈X.env.locals::X.fs:=fun b hb=>by
 rcases I.ok.z8 with e|⟨e,hf⟩
 · rw[e]at hb;exact List.mem_cons_of_mem _ hb
 · rw[e]at hb
   unfold mZ at hb
   rw[List.filterMap_cons,hf]at hb
   exact hb
theorem Inv.xT(I:Inv X pins σ H s):∀b∈mZ X.stack,H b=none:=fun b hb=>by
 rcases List.mem_cons.mp (I.vf b hb)with e|hb
 · rw[e];exact I.free
 · obtain⟨_,o,ho,_⟩:=I.ok.jR.mem hb
   exact I.base.free b o ho (I.ok.t5 b hb) fun z=>I.ok.sV b z hb
theorem Inv.step{g':Array GenState}{t':Nat}{d':Drawn}{ch:List Addr}(I:Inv X pins σ H s)
 (hch:∀b∈ch,(b∈X.ex∨X.s₀.heap.objs.size≤b)∧b≠X.env.locals∧(∀x c,X.env.cells.lookup x=some c→c≠b)∧∀p∈X.pn++pins,p.1≠b)
 (keep:∀b o,b≠X.env.locals→b∉X.fs→b∉ch→s.heap.get? b=some o→H b=none→h'.get? b=some o)
 (slot:∀b o,b≠X.env.locals→b∈X.fs→b∉ch→s.heap.get? b=some o→H b=none→∃sl,h'.get? b=some {o with slots:=sl}) (free:∀b o,b∉ch→s.heap.get? b=some o→H b=none→H' b=none)
 (there:∀b o,b∉ch→s.heap.get? b=some o→∃o',h'.get? b=some o')
 (ny:∀b xs,H b=some (.tup xs)→H' b=some (.tup xs)) (mI:∀b o u,H b=some (.iO o u)→H' b=some (.iO o u)) (mH:∀b ps,H b=some (.lE ps)→∃more,H' b=some (.lE (ps++more)))
 (ns:∀m,s.heap.Ns X.env.locals m→h'.Ns X.env.locals m) (aP:g6 X.prog X.w H' h') (hg:AllBare g'):
 Inv X pins σ H' {s with heap:=h',gens:=g',drawn:=d',toks:=t'}:=by
 have neL:∀b o,X.s₀.heap.get? b=some o→b≠X.env.locals:=fun b o e=>Nat.ne_of_lt (Nat.lt_of_lt_of_le (Heap.lt_size e) I.ok.above)
 have neC:∀b o,X.s₀.heap.get? b=some o→b∉X.ex→b∉ch:=fun b o e hx hb=>by
  rcases(hch b hb).1 with z|z
  · exact hx z
  · exact absurd (Nat.lt_of_lt_of_le (Heap.lt_size e) z) (Nat.lt_irrefl _)
 have cellK:∀x c,X.env.cells.lookup x=some c→∀v,s.heap.IsCell c v→h'.IsCell c v:=fun x c e v ⟨o,ho,hd⟩=>by
  have nch:c∉ch:=fun z=>(hch c z).2.2.1 x c e rfl
  by_cases hc:c∈X.fs
  · obtain⟨sl,q⟩:=slot c o (I.wo x c e) hc nch ho (I.jI x c e)
    exact⟨_,q,hd⟩
  · exact⟨o,keep c o (I.wo x c e) hc nch ho (I.jI x c e),hd⟩
 refine⟨I.ok,I.os,hg,⟨fun b o e n hb hx=>?_,fun b o e n hb hx=>?_,fun b o e n hx=>?_,fun b o e hx=>?_,fun b xs e=>ny b xs (I.base.ny b xs e),fun b o xs e=>mI b o xs (I.base.mI b o xs e),fun b ps e=>?_⟩,?_,fun x c e=>?_,?_,fun x c e=>?_,fun p hp=>?_,aP,I.len⟩
 · exact keep b o (neL b o e) hb (neC b o e hx) (I.base.keep b o e n hb hx) (I.base.free b o e n hx)
 · obtain⟨sl,e1⟩:=I.base.slot b o e n hb hx
   obtain⟨sl',e2⟩:=slot b _ (neL b o e) hb (neC b o e hx) e1 (I.base.free b o e n hx)
   exact⟨sl',e2⟩
 · obtain⟨o',e1⟩:=I.base.there b o e hx
   exact free b o' (neC b o e hx) e1 (I.base.free b o e n hx)
 · obtain⟨o',e1⟩:=I.base.there b o e hx
   exact there b o' (neC b o e hx) e1
 · obtain⟨m1,e1⟩:=I.base.mH b ps e
   obtain⟨m2,e2⟩:=mH b _ e1
   exact⟨m1++m2,by rw[e2,Array.append_assoc]⟩
 · obtain⟨m,hn,hl⟩:=I.loc
   refine⟨m,ns m hn,fun i x v e1 e2 e3=>?_⟩
   obtain⟨u,r,l⟩:=hl i x v e1 e2 e3
   refine⟨u,r,?_⟩
   rcases l with l|⟨k,c,e,z⟩
   · exact .inl l
   · exact .inr ⟨k,c,e,cellK x c e _ z⟩
 · obtain⟨v,z⟩:=I.cell x c e
   exact⟨v,cellK x c e v z⟩
 · obtain⟨m,⟨o,_,_,ho,_⟩,_⟩:=I.loc
   exact free _ o (fun z=>(hch _ z).2.1 rfl) ho I.free
 · obtain⟨v,o,ho,hd⟩:=I.cell x c e
   exact free c o (fun z=>(hch c z).2.2.1 x c e rfl) ho (I.jI x c e)
 · obtain⟨e,n,ne,nf,d⟩:=I.pin p hp
   have nch:p.1∉ch:=fun z=>(hch p.1 z).2.2.2 p hp rfl
   exact⟨keep p.1 p.2 ne nf nch e n,free p.1 p.2 nch e n,ne,nf,d⟩
theorem Inv.un{t':Nat}(I:Inv X pins σ H s)(u:Un X.fs [] H H' s.heap h')(aP:g6 X.prog X.w H' h'):Inv X pins σ H' {s with heap:=h',toks:=t'}:=by
 obtain⟨m,⟨o,es,ep,ho,r⟩,_⟩:=id I.loc
 obtain⟨sl,hL⟩:=u.any ho I.free (by simp)
 exact I.step (g':=s.gens) (d':=s.drawn) (ch:=[]) (fun _ z=>nomatch z) (fun b o _ hb _ e n=>u.keep b o e n hb (by simp)) (fun b o _ hb _ e n=>u.slot b o e n hb (by simp)) (fun b o _ e n=>u.free b o e n (by simp)) (fun b o _ e=>u.there b o e (by simp)) u.ny u.mI u.mH (fun m' hm=>by
  obtain⟨o',es',ep',ho',r'⟩:=hm
  rw[ho]at ho';cases ho'
  exact⟨_,es',ep',hL,r'⟩) aP I.bare
theorem Inv.call{g':Array GenState}{t':Nat}{d':Drawn}{ch:List Addr}(I:Inv X pins σ H s)(u:Un (mZ X.stack) ch H H' s.heap h')(aP:g6 X.prog X.w H' h')(hg:AllBare g')
 (hch:∀b∈ch,(b∈X.ex∨X.s₀.heap.objs.size≤b)∧b≠X.env.locals∧(∀x c,X.env.cells.lookup x=some c→c≠b)∧∀p∈X.pn++pins,p.1≠b):
 Inv X pins σ H' {s with heap:=h',gens:=g',drawn:=d',toks:=t'}:=by
 obtain⟨m,⟨o,es,ep,ho,r⟩,_⟩:=id I.loc
 obtain⟨sl,hL⟩:=u.any ho I.free fun z=>(hch _ z).2.1 rfl
 exact I.step (ch:=ch) hch (fun b o hL hb hc e n=>u.keep b o e n (fun z=>(List.mem_cons.mp (I.vf b z)).elim hL hb) hc) (fun b o _ _ hc e n=>u.any e n hc) (fun b o hc e n=>u.free b o e n hc) (fun b o hc e=>u.there b o e hc) u.ny u.mI u.mH (fun m' hm=>by
  obtain⟨o',es',ep',ho',r'⟩:=hm
  rw[ho]at ho';cases ho'
  exact⟨_,es',ep',hL,r'⟩) aP hg
theorem Inv.turned{t':Nat}{it:Addr}(I:Inv X pins σ H s)(k:∀b o,b≠it→s.heap.get? b=some o→h'.get? b=some o)(hn:H it=none)(hL:it≠X.env.locals)
 (h1:it∈X.ex∨X.s₀.heap.objs.size≤it) (h2:∀x c,X.env.cells.lookup x=some c→c≠it) (h3:∀p∈X.pn++pins,p.1≠it):Inv X pins σ H {s with heap:=h',toks:=t'}:=by
 have nit:∀b u,H b=some u→b≠it:=fun b u e z=>by rw[z,hn]at e;cases e
 refine I.step (g':=s.gens) (d':=s.drawn) (ch:=[it]) (fun b hb=>?_) (fun b o _ _ hc e _=>k b o (fun z=>hc (by simp[z])) e) (fun b o _ _ hc e _=>⟨o.slots,k b o (fun z=>hc (by simp[z])) e⟩) (fun _ _ _ _ n=>n)
  (fun b o hc e=>⟨o,k b o (fun z=>hc (by simp[z])) e⟩) (fun _ _ e=>e) (fun _ _ _ e=>e) (fun b ps e=>⟨#[],by rw[e];simp⟩) (fun m hm=>?_) (fun b u e=>?_) I.bare
 · have e:b=it:=by simpa using hb
   subst e
   exact⟨h1,hL,h2,h3⟩
 · obtain⟨o,es,ep,ho,r⟩:=hm
   exact⟨o,es,ep,k _ o (Ne.symm hL) ho,r⟩
 · refine(I.aP b u e).oN (fun c v hc q=>k c v ?_ q) (fun _ q=>q) fun _ _ q=>q
   rcases hc with z|z
   · rw[z];exact nit b u e
   · exact nit c _ z
theorem Inv.tok(I:Inv X pins σ H s)(t:Nat):Inv X pins σ H {s with toks:=t}:=I.un (h':=s.heap) (t':=t) Un.refl I.aP
theorem Inv.kept{t':Nat}(I:Inv X pins σ H s)(k:∀b u,s.heap.get? b=some u→h'.get? b=some u):Inv X pins σ H {s with heap:=h',toks:=t'}:=I.un (Un.kept k) (I.aP.kept k)
theorem Inv.laid{a:Addr}{o:HO}{t':Nat}(I:Inv X pins σ H s)(k:∀b u,s.heap.get? b=some u→h'.get? b=some u)(hp:s.heap.objs.size≤a)(new:dS X.prog X.w (upd H a o) h' a o):
 Inv X pins σ (upd H a o) {s with heap:=h',toks:=t'}:=I.un (Un.laid k hp (I.aP.fresh hp)) (I.aP.laid k hp new)
theorem Inv.write{x e:Addr}{o:HO}{t':Nat}(I:Inv X pins σ H s)(mu:C_ (H x))(he:e=x∨H e=some (.own x))(k:∀b u,b≠e→s.heap.get? b=some u→h'.get? b=some u)(heo:∃u,h'.get? e=some u)
 (new:dS X.prog X.w (upd H x o) h' x o):Inv X pins σ (upd H x o) {s with heap:=h',toks:=t'}:=I.un (Un.write mu he k heo) (I.aP.write mu he k heo new)
theorem Inv.xo{pins':List (Addr×Obj)}(I:Inv X pins σ H s)(h:∀p∈pins',s.heap.get? p.1=some p.2∧H p.1=none∧p.1≠X.env.locals∧p.1∉X.fs∧∀v,p.2.data≠ .cell v):Inv X pins' σ H s:=
 ⟨I.ok,I.os,I.bare,I.base,I.loc,I.cell,I.free,I.jI,fun p hp=>(List.mem_append.mp hp).elim (fun z=>I.pin p (List.mem_append_left _ z)) (h p),I.aP,I.len⟩
theorem u7{N:List Str}(hN:N.Nodup){i j:Nat}{x:Str}(a:N[i]?=some x)(b:N[j]?=some x):i=j:=by
 obtain⟨h1,e1⟩:=List.getElem?_eq_some_iff.mp a
 obtain⟨h2,e2⟩:=List.getElem?_eq_some_iff.mp b
 exact(List.getElem_inj hN).mp (e1.trans e2.symm)
theorem tM{M:Model}{A:Around}{E:Value→Shared→Prop}{i:Nat}{x:Str}{v:V}{u:Value}{Q:Unit→Shared→Prop}(I:Inv X pins σ H s)(hN:X.N.Nodup)(hi:X.N[i]?=some x)(hx:Loc X.env.scope x)(r:RelV v u)
 (h:∀s',Inv X pins (σ.set i (some v)) H s'→(∃a,Heap.SameBut a s.heap s'.heap∧(a=X.env.locals∨X.env.cells.lookup x=some a))→Q () s') (hf:X.fn x=true∨X.env.scope.names.lookup x=some .local:=by first|exact .inl rfl|exact .inr rfl|assumption):wpAny M A (storeName X.env x u) Q E s:=by
 obtain⟨m,hn,hl⟩:=id I.loc
 have hcls:(X.env.scope.kind== .class||(X.env.scope.kind== .module&&X.env.locals != X.env.globals))=false:=by rw[I.ok.kind];rfl
 have hiσ:i<σ.length:=by rw[I.len];exact(List.getElem?_eq_some_iff.mp hi).1
 have wo:=I.wo
 have tracked:∀ {a:Addr} {h':Heap},(∃o,s.heap.get? a=some o∧H a=none)→Heap.SameBut a s.heap h'→g6 X.prog X.w H h':=fun{a h'} ha hs b ob e=>by
  obtain⟨_,_,hfree⟩:=ha
  refine(I.aP b ob e).oN (fun c w' hc q=>(hs.2 c ?_).trans q) (fun _ q=>q) fun _ _ q=>q
  rintro rfl
  rcases hc with rfl|hc
  · rw[hfree]at e;cases e
  · rw[hfree]at hc;cases hc
 rcases hx with hk|hk
 · refine wpAny_storeName_local hk hn (fun h' hn' hs=>?_) hcls
   obtain⟨oL,_,_,hoL,_⟩:=id hn
   refine h _ ⟨I.ok,I.os,I.bare,⟨fun b o e n hb hx=>?_,fun b o e n hb hx=>?_,I.base.free,fun b o e hx=>?_,I.base.ny,I.base.mI,I.base.mH⟩,⟨_,hn',fun j y v' e1 e2 e3=>?_⟩,fun y c e=>?_,I.free,I.jI,fun p hp=>?_,tracked ⟨oL,hoL,I.free⟩ hs,by simpa using I.len⟩ ⟨_,hs,.inl rfl⟩
   · exact(hs.2 b (Nat.ne_of_lt (Nat.lt_of_lt_of_le (Heap.lt_size e) I.ok.above))).trans (I.base.keep b o e n hb hx)
   · obtain⟨sl,e1⟩:=I.base.slot b o e n hb hx
     exact⟨sl,(hs.2 b (Nat.ne_of_lt (Nat.lt_of_lt_of_le (Heap.lt_size e) I.ok.above))).trans e1⟩
   · obtain⟨o',e1⟩:=I.base.there b o e hx
     exact⟨o',(hs.2 b (Nat.ne_of_lt (Nat.lt_of_lt_of_le (Heap.lt_size e) I.ok.above))).trans e1⟩
   · by_cases hj:j=i
     · subst hj
       rw[hi]at e1;cases e1
       rw[List.getElem?_set_self hiσ]at e2
       cases e2
       exact⟨u,r,.inl ⟨hk,by simp⟩⟩
     · rw[List.getElem?_set_ne (Ne.symm hj)]at e2
       obtain⟨u',r',q⟩:=hl j y v' e1 e2 e3
       refine⟨u',r',?_⟩
       rcases q with⟨k,e⟩|⟨k,c,e,z⟩
       · refine .inl ⟨k,?_⟩
         have:y≠x:=fun e=>hj (u7 hN e1 (e▸hi))
         simp[this,e]
       · exact .inr ⟨k,c,e,z.sameBut hs (wo y c e)⟩
   · obtain⟨w',z⟩:=I.cell y c e
     exact⟨w',z.sameBut hs (wo y c e)⟩
   · obtain⟨e,n,ne,nf,d⟩:=I.pin p hp
     exact⟨(hs.2 p.1 ne).trans e,n,ne,nf,d⟩
 · have hfn:X.fn x=true:=by
    rcases hf with z|z
    · exact z
    · rw[z]at hk;cases hk
   obtain⟨c,hc⟩:=I.ok.has x (.inl hk)
   obtain⟨w',z⟩:=I.cell x c hc
   refine wpAny_storeName_cell I.ok.kind hk hc z (fun h' hc' hs=>?_)
   obtain⟨oc,hoc,hocd⟩:=id z
   refine h {s with heap:=h'} ⟨I.ok,I.os,I.bare,⟨fun b o e n hb hx=>?_,fun b o e n hb hx=>?_,I.base.free,fun b o e hx=>?_,I.base.ny,I.base.mI,I.base.mH⟩,⟨m,hn.sameBut hs (Ne.symm (wo x c hc)),fun j y v' e1 e2 e3=>?_⟩,fun y c' e=>?_,I.free,I.jI,fun p hp=>?_,tracked ⟨oc,hoc,I.jI x c hc⟩ hs,by simpa using I.len⟩ ⟨c,hs,.inr hc⟩
   · exact(hs.2 b (Nat.ne_of_lt (Nat.lt_of_lt_of_le (Heap.lt_size e) (I.ok.xB x c hfn hc)))).trans (I.base.keep b o e n hb hx)
   · obtain⟨sl,e1⟩:=I.base.slot b o e n hb hx
     exact⟨sl,(hs.2 b (Nat.ne_of_lt (Nat.lt_of_lt_of_le (Heap.lt_size e) (I.ok.xB x c hfn hc)))).trans e1⟩
   · obtain⟨o',e1⟩:=I.base.there b o e hx
     exact⟨o',(hs.2 b (Nat.ne_of_lt (Nat.lt_of_lt_of_le (Heap.lt_size e) (I.ok.xB x c hfn hc)))).trans e1⟩
   · by_cases hj:j=i
     · subst hj
       rw[hi]at e1;cases e1
       rw[List.getElem?_set_self hiσ]at e2
       cases e2
       exact⟨u,r,.inr ⟨.inl hk,c,hc,hc'⟩⟩
     · rw[List.getElem?_set_ne (Ne.symm hj)]at e2
       obtain⟨u',r',q⟩:=hl j y v' e1 e2 e3
       refine⟨u',r',?_⟩
       rcases q with q|⟨k,c',e,z'⟩
       · exact .inl q
       · refine .inr ⟨k,c',e,z'.sameBut hs ?_⟩
         rintro rfl
         exact hj (u7 hN e1 (I.ok.inj _ _ _ e hc▸hi))
   · by_cases hcc:c'=c
     · subst hcc;exact⟨_,hc'⟩
     · obtain⟨w2,z2⟩:=I.cell y c' e
       exact⟨w2,z2.sameBut hs hcc⟩
   · obtain⟨e,n,ne,nf,d⟩:=I.pin p hp
     refine⟨(hs.2 p.1 ?_).trans e,n,ne,nf,d⟩
     intro q
     rw[q,hoc]at e
     have q':oc=p.2:=Option.some.inj e
     exact d w' (by rw[←q'];exact hocd)
theorem lz{M:Model}{A:Around}{E:Value→Shared→Prop}{i:Nat}{x:Str}{v:V}{u:Value}{Q:Unit→Shared→Prop}(I:Inv X pins σ H s)(hN:X.N.Nodup)(hi:X.N[i]?=some x)(hx:Loc X.env.scope x)(r:RelV v u)
 (h:∀s',Inv X pins (σ.set i (some v)) H s'→Q () s') (hf:X.fn x=true∨X.env.scope.names.lookup x=some .local:=by first|exact .inl rfl|exact .inr rfl|assumption):wpAny M A (storeName X.env x u) Q E s:=
 tM I hN hi hx r (fun s' I' _=>h s' I') hf
theorem Inv.CU{s':Shared}{ch:List Addr}(I:Inv X pins σ H s)(ho:s'.os=s.os)(u:Un (mZ X.stack) ch H H' s.heap s'.heap)(aP:g6 X.prog X.w H' s'.heap)(hg:AllBare s'.gens)
 (hch:∀b∈ch,(b∈X.ex∨X.s₀.heap.objs.size≤b)∧b≠X.env.locals∧(∀x c,X.env.cells.lookup x=some c→c≠b)∧∀p∈X.pn++pins,p.1≠b):Inv X pins σ H' s':=by
 obtain⟨h',g',d',t',o'⟩:=s'
 have e:o'=s.os:=ho
 subst e
 exact I.call (g':=g') (t':=t') (d':=d') u aP hg hch
end
noncomputable abbrev XK:=Value→Option Addr→Hp→Prop
noncomputable abbrev St:=List (Option V)
noncomputable abbrev VK:=V→Hp→Prop
noncomputable abbrev TE:=St→Hp→VK→Prop
noncomputable abbrev TT:=St→Hp→(Bool→Hp→Prop)→Prop
noncomputable abbrev TA:=St→Hp→(List V→Hp→Prop)→Prop
structure Ends where
 nx:St→Hp→Prop
 rt:VK
 bk:St→Hp→Prop:=fun _ _=>False
 ct:St→Hp→Prop:=fun _ _=>False
noncomputable abbrev TS:=Ends→St→Hp→Prop
noncomputable def EP(X:Cx)(pins:List (Addr×Obj))(σ:St)(Q:VK)(u:Value)(s':Shared):Prop:=∃v H',Inv X pins σ H' s'∧RelV v u∧Q v H'
noncomputable def TP(X:Cx)(pins:List (Addr×Obj))(σ:St)(Q:Bool→Hp→Prop)(b:Bool)(s':Shared):Prop:=∃H',Inv X pins σ H' s'∧Q b H'
noncomputable def AP(X:Cx)(pins:List (Addr×Obj))(σ:St)(Q:List V→Hp→Prop)(us:List Value)(s':Shared):Prop:=∃vs H',Inv X pins σ H' s'∧Vals vs us∧Q vs H'
noncomputable def SP(X:Cx)(pins:List (Addr×Obj))(D:Ends)(f:Flow)(s':Shared):Prop:=
 match f with
 | .next=>∃σ' H',Inv X pins σ' H' s'∧D.nx σ' H'
 | .brk=>∃σ' H',Inv X pins σ' H' s'∧D.bk σ' H'
 | .cont=>∃σ' H',Inv X pins σ' H' s'∧D.ct σ' H'
 | .ret u=>∃v σ' H',Inv X pins σ' H' s'∧RelV v u∧D.rt v H'
noncomputable def PE(X:Cx)(e:Expr)(t:TE):Prop:=
 ∀(pins:List (Addr×Obj)) (s:Shared) (σ:St) (H:Hp) (Q:VK),Inv X pins σ H s→t σ H Q→wpAny (model X.prog X.w) X.A (eval e X.env) (EP X pins σ Q) X.xe s
noncomputable def PT(X:Cx)(e:Expr)(t:TT):Prop:=
 ∀(pins:List (Addr×Obj)) (s:Shared) (σ:St) (H:Hp) (Q:Bool→Hp→Prop),Inv X pins σ H s→t σ H Q→wpAny (model X.prog X.w) X.A (isTrue e X.env (eval e X.env)) (TP X pins σ Q) X.xe s
noncomputable def PW(X:Cx)(e:Expr)(t:TT):Prop:=
 ∀(whole:Sem Value) (pins:List (Addr×Obj)) (s:Shared) (σ:St) (H:Hp) (Q:Bool→Hp→Prop),Inv X pins σ H s→t σ H Q→wpAny (model X.prog X.w) X.A (isTrue e X.env whole) (TP X pins σ Q) X.xe s
theorem PW.pt{X:Cx}{e:Expr}{t:TT}(h:PW X e t):PT X e t:=h _
noncomputable def PA(X:Cx)(es:List Expr)(t:TA):Prop:=
 ∀(pos:Pos) (pins:List (Addr×Obj)) (s:Shared) (σ:St) (H:Hp) (Q:List V→Hp→Prop),Inv X pins σ H s→t σ H Q→wpAny (model X.prog X.w) X.A (spliced (backTo pos (starEach es X.env))) (AP X pins σ Q) X.xe s
noncomputable def PS(X:Cx)(st:Stmt)(t:TS):Prop:=
 ∀(pins:List (Addr×Obj)) (s:Shared) (σ:St) (H:Hp) (D:Ends),Inv X pins σ H s→t D σ H→wpAny (model X.prog X.w) X.A (exec st X.env) (SP X pins D) X.xe s
noncomputable def gL(X:Cx)(st:List Stmt)(t:TS):Prop:=
 ∀(pins:List (Addr×Obj)) (s:Shared) (σ:St) (H:Hp) (D:Ends),Inv X pins σ H s→t D σ H→wpAny (model X.prog X.w) X.A (execs st X.env) (SP X pins D) X.xe s
theorem bD{α:Type}{t:Sem α}{Q Q':α→Shared→Prop}{M:Model}{A:Around}{E:Value→Shared→Prop}{s:Shared}(h:wpAny M A t Q E s)(hQ:∀a s,Q a s→Q' a s):wpAny M A t Q' E s:=wpAny_mono h hQ fun _ _ x=>x
end L2
namespace L2
open PySem PySem.Spec PyProof.Rows
section
variable {X:Cx}
noncomputable def FJ(i:Nat):TE:=fun σ H Q=>∃v,σ[i]?=some (some v)∧Q v H
noncomputable def tC(v:V):TE:=fun _ H Q=>Q v H
theorem FL{i:Nat}{x:Str}{pos:Pos}(hN:X.N[i]?=some x)(hv:vV X.env.scope x)(hd:(x==("__debug__":Str))=false:=by decide)(hcd:(x==("__classdict__":Str))=false:=by decide):PE X (.Name x pos) (FJ i):=by
 intro pins s σ H Q I h
 obtain⟨v,e,h⟩:=h
 obtain⟨m,hn,hl⟩:=I.loc
 obtain⟨u,r,l⟩:=hl i x v hN e hv
 have fin:EP X pins σ Q u s:=⟨v,H,I,r,h⟩
 rcases l with⟨hk,hm⟩|⟨hk,c,hc,hcell⟩
 · exact wpAny_Name (wpAny_loadName_local I.ok.kind hk hn hm fin) hd
 · rcases hk with hk|hk
   · exact wpAny_Name (wpAny_loadName_cell I.ok.kind hk hc hcell fin) hd
   · exact wpAny_Name (wpAny_loadName_free I.ok.kind hk hc hcell fin hcd) hd
theorem Gf{i j pos}:PE X (.Constant (.int i) j pos) (tC (.int i)):=fun _ _ _ H _ I h=>wpAny_Constant_int ⟨.int i,H,I.tok _,⟨_,rfl⟩,h⟩
theorem JR{b j pos}:PE X (.Constant (.bool b) j pos) (tC (.bl b)):=fun _ _ _ H _ I h=>Constant_bool ⟨.bl b,H,I,rfl,h⟩
theorem Gx{j pos}:PE X (.Constant .none j pos) (tC .aH):=fun _ _ _ H _ I h=>Constant_none ⟨.aH,H,I,rfl,h⟩
noncomputable def Gl(X:Cx)(x:Str):Prop:=X.env.kindOf x=some .globalImplicit
theorem xS{E:Value→Shared→Prop}{pins:List (Addr×Obj)}{s:Shared}{σ:St}{H:Hp}{x:Str}{u:Value}{pos:Pos}{Q:Value→Shared→Prop}(I:Inv X pins σ H s)(hg:Gl X x)(hm:X.mg x=some u)(h:Q u s)
 (hd:(x==("__debug__":Str))=false:=by decide):wpAny (model X.prog X.w) X.A (eval (.Name x pos) X.env) Q E s:=
 Calls.Name_function_global I.ok.kind hg (Calls.loadGlobal_global (by rw[I.ok.glob];exact I.mod.glob.keeps I.bk) hm h) hd
theorem kq{E:Value→Shared→Prop}{pins:List (Addr×Obj)}{s:Shared}{σ:St}{H:Hp}{x:Str}{u:Value}{pos:Pos}{Q:Value→Shared→Prop}(I:Inv X pins σ H s)(hg:Gl X x)(hm:X.mg x=none)(hv:bootBuiltins x=some u)(h:Q u s)
 (hn:x≠"__name__":=by decide) (hd:(x==("__debug__":Str))=false:=by decide):wpAny (model X.prog X.w) X.A (eval (.Name x pos) X.env) Q E s:=by
 obtain⟨mb,h1,h2⟩:=I.mod.blt
 exact Calls.Name_function_global I.ok.kind hg (Calls.loadGlobal_builtin (by rw[I.ok.glob];exact I.mod.glob.keeps I.bk) hm (by rw[I.ok.blt];exact h1.keeps I.bk) ((h2 x hn).trans hv) h) hd
theorem EH{x:Str}{v:V}{u:Value}{pos:Pos}(hg:Gl X x)(hm:X.mg x=none)(hv:bootBuiltins x=some u)(r:RelV v u)(hn:x≠"__name__":=by decide)(hd:(x==("__debug__":Str))=false:=by decide):PE X (.Name x pos) (tC v):=
 fun _ _ _ H _ I h=>kq I hg hm hv ⟨v,H,I,r,h⟩ hn hd
variable {a b:Expr}{ta tb:TE}{pos:Pos}
noncomputable def tB(t:TE):TT:=fun σ H Q=>t σ H fun x H1=>∃c,x= .bl c∧Q c H1
theorem Gh{e:Expr}{t:TE}(h:PE X e t)(he:∀whole,isTrue e X.env whole=(do let v ←whole;standAt e.pos;holding [v] (truthy v)):=by intro _;rfl):PT X e (tB t):=by
 intro pins s σ H Q I hw
 refine isTrue_plain (bD (h pins s σ H _ I hw) fun v s1 ⟨x,H1,I1,r1,q1⟩=>?_) (he _)
 obtain⟨d,rfl,q⟩:=q1
 cases r1
 exact wpAny_truthy_bool ⟨H1,I1,q⟩
variable {tA tB':TT}{rest:List Expr}
noncomputable def Hf(t u:TT):TT:=fun σ H Q=>t σ H fun c H1=>if c=true then u σ H1 Q else Q false H1
noncomputable def Ku(t u:TT):TT:=fun σ H Q=>t σ H fun c H1=>if c=true then Q true H1 else u σ H1 Q
noncomputable def Ld(t:TT):TT:=fun σ H Q=>t σ H fun c H1=>Q (!c) H1
theorem pw_and1(ha:PT X a tA):PW X (.BoolOp .And [a] pos) tA:=by
 intro wh pins s σ H Q I h
 refine isTrue_and (bD (ha pins s σ H Q I h) fun c s1 e=>?_)
 cases c with
 |true=>exact isTrue_and_nil e
 |false=>exact e
theorem pw_or1(ha:PT X a tA):PW X (.BoolOp .Or [a] pos) tA:=by
 intro wh pins s σ H Q I h
 refine isTrue_or (bD (ha pins s σ H Q I h) fun c s1 e=>?_)
 cases c with
 |false=>exact isTrue_or_nil e
 |true=>exact e
theorem pw_and(ha:PT X a tA)(hb:PW X (.BoolOp .And (b::rest) pos) tB'):PW X (.BoolOp .And (a::b::rest) pos) (Hf tA tB'):=by
 intro wh pins s σ H Q I h
 refine isTrue_and (bD (ha pins s σ H _ I h) fun c s1 ⟨H1,I1,q1⟩=>?_)
 cases c with
 |true=>exact hb wh pins s1 σ H1 Q I1 q1
 |false=>exact⟨H1,I1,q1⟩
theorem pw_or(ha:PT X a tA)(hb:PW X (.BoolOp .Or (b::rest) pos) tB'):PW X (.BoolOp .Or (a::b::rest) pos) (Ku tA tB'):=by
 intro wh pins s σ H Q I h
 refine isTrue_or (bD (ha pins s σ H _ I h) fun c s1 ⟨H1,I1,q1⟩=>?_)
 cases c with
 |true=>exact⟨H1,I1,q1⟩
 |false=>exact hb wh pins s1 σ H1 Q I1 q1
theorem F_(ha:PT X a tA):PT X (.UnaryOp .Not a pos) (Ld tA):=by
 intro pins s σ H Q I h
 exact isTrue_not (ha pins s σ H (fun c H1=>Q (!c) H1) I h)
noncomputable def Jv(ta tb:TE):TE:=fun σ H Q=>ta σ H fun x H1=>∃c,x= .bl c∧if c=true then tb σ H1 Q else Q (.bl false) H1
noncomputable def Ju(ta:TE):TE:=fun σ H Q=>ta σ H fun x H1=>∃c,x= .bl c∧Q (.bl (!c)) H1
theorem FI{op}{t:TE}(h:PE X a t):PE X (.BoolOp op [a] pos) t:=fun pins s σ H Q I hw=>BoolOp_one (h pins s σ H Q I hw)
theorem HN(ha:PE X a ta)(hb:PE X (.BoolOp .And (b::rest) pos) tb):PE X (.BoolOp .And (a::b::rest) pos) (Jv ta tb):=by
 intro pins s σ H Q I h
 refine BoolOp_and (bD (ha pins s σ H _ I h) fun v s1 ⟨x,H1,I1,r1,q1⟩=>?_)
 obtain⟨c,rfl,q1⟩:=q1
 cases r1
 refine wpAny_truthy_bool ?_
 cases c with
 |true=>exact hb pins s1 σ H1 Q I1 q1
 |false=>exact⟨.bl false,H1,I1,rfl,q1⟩
theorem HQ(ha:PE X a ta):PE X (.UnaryOp .Not a pos) (Ju ta):=by
 intro pins s σ H Q I h
 refine UnaryOp_ (bD (ha pins s σ H _ I h) fun v s1 ⟨x,H1,I1,r1,q1⟩=>?_)
 obtain⟨c,rfl,q1⟩:=q1
 cases r1
 exact not_of (wpAny_truthy_bool ⟨.bl (!c),H1,I1,rfl,q1⟩)
noncomputable def LL(t:TT)(ta tb:TE):TE:=fun σ H Q=>t σ H fun c H1=>if c=true then ta σ H1 Q else tb σ H1 Q
theorem Cf{c:Expr}(hc:PT X c tA)(ha:PE X a ta)(hb:PE X b tb):PE X (.IfExp c a b pos) (LL tA ta tb):=by
 intro pins s σ H Q I h
 refine wpAny_IfExp (bD (hc pins s σ H _ I h) fun d s1 ⟨H1,I1,q1⟩=>?_)
 cases d with
 |true=>exact ha pins s1 σ H1 Q I1 q1
 |false=>exact hb pins s1 σ H1 Q I1 q1
end
end L2
namespace L2
open PySem PySem.Spec PyProof.Rows
noncomputable def kA(K:PySem.W.Frag)(H:Hp)(a:Addr)(xs:List V):Prop:=
 Rd H a (.lst xs)∨
  ∃(o:Obj) (its:Array Value) (n:Nat),K.lookup a=some o∧o.cls= .type "list"∧o.dict=none∧o.data= .seq its n∧its.size≤sizeLine∧Vals xs its.toList
noncomputable def ia(K:PySem.W.Frag)(H:Hp)(a:Addr)(xs:List V):Prop:=
 Rd H a (.tup xs)∨
  ∃(o:Obj) (its:Array Value) (n:Nat),K.lookup a=some o∧o.cls= .type "tuple"∧o.data= .seq its n∧its.size≤sizeLine∧Vals xs its.toList
noncomputable def K6:Value→Option V
 | .none=>some .aH
 | .bool b=>some (.bl b)
 | .int i _=>some (.int i)
 | .str x _=>some (.str x)
 | .bytes b _=>some (.qg b)
 | .float b _=>some (.qd b)
 | .ref a=>some (.ref a)
 | .type n=>some (.ty n)
 |_=>none
theorem RelV.abs{x:V}{u:Value}(r:RelV x u):K6 u=some x:=by
 cases x with
 |aH=>cases r;rfl
 |bl _=>cases r;rfl
 |int _=>obtain⟨t,rfl⟩:=r;rfl
 |str _=>obtain⟨t,rfl⟩:=r;rfl
 |qg _=>obtain⟨t,rfl⟩:=r;rfl
 |qd _=>obtain⟨t,rfl⟩:=r;rfl
 |ref _=>cases r;rfl
 |ty _=>cases r;rfl
theorem RelV.inj{x y:V}{u:Value}(r:RelV x u)(q:RelV y u):x=y:=Option.some.inj (r.abs.symm.trans q.abs)
theorem Vals.inj:∀ {xs ys:List V} {us:List Value},Vals xs us→Vals ys us→xs=ys
 |_,_,_,.nil,.nil=>rfl
 |_,_,_,.cons r t,.cons r' t'=>by rw[r.inj r',Vals.inj t t']
section
variable {X:Cx}{pins:List (Addr×Obj)}{σ:St}{H:Hp}{s:Shared}{a:Addr}{xs ys:List V}
theorem kA.of{K:PySem.W.Frag}(h:H a=some (.lst xs)):kA K H a xs:= .inl (.inl h)
theorem ia.of{K:PySem.W.Frag}(h:H a=some (.tup xs)):ia K H a xs:= .inl (.inl h)
theorem Inv.list(I:Inv X pins σ H s)(h:kA X.K H a xs):∃its:List Value,Vals xs its∧PlainL s.heap a its.toArray∧xs.length≤sizeLine:=by
 rcases h with h|⟨o,its,n,hk,hc,hd,hs,hz,r⟩
 · obtain⟨z,its,n,r,e⟩:=h.ok I.aP
   exact⟨its,r,⟨_,n,e,rfl,rfl,rfl⟩,z⟩
 · refine⟨its.toList,r,⟨o,n,I.gK a o hk,hc,hd,by simpa using hs⟩,?_⟩
   have e:=r.length
   simp only[Array.length_toList]at e
   omega
theorem Inv.tuple(I:Inv X pins σ H s)(h:ia X.K H a xs):∃its:List Value,Vals xs its∧IsTup s.heap a its.toArray∧xs.length≤sizeLine:=by
 rcases h with h|⟨o,its,n,hk,hc,hs,hz,r⟩
 · obtain⟨z,its,r,p⟩:=h.ok I.aP
   exact⟨its,r,p,z⟩
 · refine⟨its.toList,r,⟨o,I.gK a o hk,hc,n,by simpa using hs⟩,?_⟩
   have e:=r.length
   simp only[Array.length_toList]at e
   omega
theorem Inv.u9(I:Inv X pins σ H s)(h:kA X.K H a xs)(h':kA X.K H a ys):xs=ys:=by
 obtain⟨its,r,⟨o,n,e,_,_,d⟩,_⟩:=I.list h
 obtain⟨its',r',⟨o',n',e',_,_,d'⟩,_⟩:=I.list h'
 rw[e]at e';cases e'
 rw[d]at d'
 injection d' with d1 _
 have:its=its':=by simpa using congrArg Array.toList d1
 subst this
 exact r.inj r'
theorem Inv.tN(I:Inv X pins σ H s)(h:ia X.K H a xs)(h':ia X.K H a ys):xs=ys:=by
 obtain⟨its,r,⟨o,e,_,n,d⟩,_⟩:=I.tuple h
 obtain⟨its',r',⟨o',e',_,n',d'⟩,_⟩:=I.tuple h'
 rw[e]at e';cases e'
 rw[d]at d'
 injection d' with d1 _
 have:its=its':=by simpa using congrArg Array.toList d1
 subst this
 exact r.inj r'
end
noncomputable abbrev Cx.mM(X:Cx)(E:Value→Shared→Prop):Cx:={X with xe:=E}
noncomputable abbrev Cx.xr(X:Cx):Cx:=X.mM fun _ _=>False
theorem Cx.Ok.mM{X:Cx}(ok:X.Ok)(E:Value→Shared→Prop):(X.mM E).Ok:=
 ⟨ok.mod,ok.kind,ok.glob,ok.blt,ok.above,ok.inj,ok.has,ok.xB,ok.hd,ok.frames,ok.z8,ok.CF,ok.bs,ok.rS,ok.sS,ok.sV,ok.jR,ok.t5,ok.gt⟩
theorem Cx.Ok.ki{X:Cx}{E:Value→Shared→Prop}(ok:(X.mM E).Ok):X.Ok:=
 ⟨ok.mod,ok.kind,ok.glob,ok.blt,ok.above,ok.inj,ok.has,ok.xB,ok.hd,ok.frames,ok.z8,ok.CF,ok.bs,ok.rS,ok.sS,ok.sV,ok.jR,ok.t5,ok.gt⟩
section
variable {X:Cx}{pins:List (Addr×Obj)}{σ:St}{H:Hp}{s:Shared}{E:Value→Shared→Prop}
theorem Inv.mM(I:Inv X pins σ H s)(E:Value→Shared→Prop):Inv (X.mM E) pins σ H s:=⟨I.ok.mM E,I.os,I.bare,I.base,I.loc,I.cell,I.free,I.jI,I.pin,I.aP,I.len⟩
theorem Inv.ki(I:Inv (X.mM E) pins σ H s):Inv X pins σ H s:=⟨I.ok.ki,I.os,I.bare,I.base,I.loc,I.cell,I.free,I.jI,I.pin,I.aP,I.len⟩
theorem SP.ki{D:Ends}{f:Flow}{s':Shared}(h:SP (X.mM E) pins D f s'):SP X pins D f s':=by
 cases f with
 |next=>obtain⟨σ',H',I,q⟩:=h;exact⟨σ',H',I.ki,q⟩
 |brk=>obtain⟨σ',H',I,q⟩:=h;exact⟨σ',H',I.ki,q⟩
 |cont=>obtain⟨σ',H',I,q⟩:=h;exact⟨σ',H',I.ki,q⟩
 |ret u=>obtain⟨v,σ',H',I,r,q⟩:=h;exact⟨v,σ',H',I.ki,r,q⟩
theorem gL.xr{st:List Stmt}{t:TS}(h:gL X.xr st t):gL X st t:=fun pins s σ H D I hw=>
 wpAny_mono (h pins s σ H D (I.mM _) hw) (fun _ _ q=>q.ki) fun _ _ z=>False.elim z
end
section
variable {X:Cx}{st:Stmt}{rest:List Stmt}{t u:TS}{e:Expr}{te:TE}{pos:Pos}
noncomputable def JM:TS:=fun D σ H=>D.nx σ H
noncomputable def Lh(t u:TS):TS:=fun D σ H=>t {D with nx:=u D} σ H
theorem EE:gL X [] JM:=fun _ _ σ H _ I h=>wpAny_execs_nil ⟨σ,H,I,h⟩
theorem Cg(h1:PS X st t)(h2:gL X rest u):gL X (st::rest) (Lh t u):=by
 intro pins s σ H D I h
 refine wpAny_execs_cons (bD (h1 pins s σ H {D with nx:=u D} I h) fun f s1 q=>?_)
 cases f with
 |next=>
  obtain⟨σ',H',I',q⟩:=q
  exact h2 pins s1 σ' H' D I' q
 |ret v=>exact q
 |brk=>exact q
 |cont=>exact q
theorem E7(h1:PS X st t):gL X [st] t:=by
 intro pins s σ H D I h
 refine wpAny_execs_cons (bD (h1 pins s σ H D I h) fun f s1 q=>?_)
 cases f with
 |next=>exact wpAny_execs_nil q
 |ret v=>exact q
 |brk=>exact q
 |cont=>exact q
noncomputable def IS:TS:=fun D σ H=>D.ct σ H
theorem wA:PS X (.Continue pos) IS:=fun _ _ σ H _ I h=>wpAny_Continue ⟨σ,H,I,h⟩
theorem Inv.quiet{pins:List (Addr×Obj)}{σ:St}{H:Hp}{s:Shared}(I:Inv X pins σ H s):interactive X.env=false:=by simp[interactive,I.ok.kind]
noncomputable def Jq(te:TE):TS:=fun D σ H=>te σ H fun _ H1=>D.nx σ H1
theorem EW(he:PE X e te)(hs:swapsWith e none pos.line X.env=pure false:=by rfl):PS X (.Expr e pos) (Jq te):=by
 intro pins s σ H D I h
 exact wpAny_Expr_any (bD (he pins s σ H _ I h) fun v s1 ⟨x,H1,I1,r1,q1⟩=>⟨σ,H1,I1,q1⟩) I.quiet hs
noncomputable def KS(te:TE):TS:=fun D σ H=>te σ H D.rt
theorem HC(he:PE X e te):PS X (.Return (some e) pos) (KS te):=by
 intro pins s σ H D I h
 exact wpAny_Return_some (bD (he pins s σ H _ I h) fun v s1 ⟨x,H1,I1,r1,q1⟩=>⟨x,σ,H1,I1,r1,q1⟩)
noncomputable def JV:TS:=fun D _ H=>D.rt .aH H
theorem EK:PS X (.Return none pos) JV:=fun _ _ σ H _ I h=>wpAny_Return_none ⟨.aH,σ,H,I,rfl,h⟩
noncomputable def K4(c:TT)(t u:TS):TS:=fun D σ H=>c σ H fun b H1=>if b=true then t D σ H1 else u D σ H1
theorem J9{c:Expr}{a b:List Stmt}{tc:TT}(hc:PT X c tc)(ha:gL X a t)(hb:gL X b u):PS X (.If c a b pos) (K4 tc t u):=by
 intro pins s σ H D I h
 refine wpAny_If (bD (hc pins s σ H _ I h) fun d s1 ⟨H1,I1,q1⟩=>?_)
 cases d with
 |true=>exact ha pins s1 σ H1 D I1 q1
 |false=>exact hb pins s1 σ H1 D I1 q1
end
noncomputable abbrev TG:=V→St→Hp→(St→Hp→Prop)→Prop
noncomputable abbrev u0:=List V→St→Hp→(St→Hp→Prop)→Prop
noncomputable def PG(X:Cx)(target:Expr)(t:TG):Prop:=
 ∀(pins:List (Addr×Obj)) (s:Shared) (σ:St) (H:Hp) (v:V) (u:Value) (Q:St→Hp→Prop),Inv X pins σ H s→RelV v u→t v σ H Q→
  wpAny (model X.prog X.w) X.A (assign target X.env u) (fun _ s'=>∃σ' H',Inv X pins σ' H' s'∧Q σ' H') X.xe s
noncomputable def Dh(X:Cx)(ts:List Expr)(t:u0):Prop:=
 ∀(pins:List (Addr×Obj)) (s:Shared) (σ:St) (H:Hp) (vs:List V) (us:List Value) (Q:St→Hp→Prop),Inv X pins σ H s→Vals vs us→t vs σ H Q→
  wpAny (model X.prog X.w) X.A (assignInOrder ((assignEach ts X.env).map (·.2)) us) (fun _ s'=>∃σ' H',Inv X pins σ' H' s'∧Q σ' H') X.xe s
noncomputable abbrev uP:=V→V→V→Hp→(Hp→Prop)→Prop
noncomputable def BM(X:Cx)(t:uP):Prop:=
 ∀(pins:List (Addr×Obj)) (s:Shared) (σ:St) (H:Hp) (o i v:V) (ov iv u:Value) (Q:Hp→Prop),Inv X pins σ H s→RelV o ov→RelV i iv→RelV v u→t o i v H Q→
  wpAny (model X.prog X.w) X.A (setItem ov iv u) (fun _ s'=>∃H',Inv X pins σ H' s'∧Q H') X.xe s
noncomputable abbrev yc:=V→V→Hp→VK→Prop
noncomputable def vK(X:Cx)(op:Operator)(t:yc):Prop:=
 ∀(pins:List (Addr×Obj)) (s:Shared) (σ:St) (H:Hp) (x y:V) (v u:Value) (Q:VK),Inv X pins σ H s→RelV x v→RelV y u→t x y H Q→
  wpAny (model X.prog X.w) X.A (inplaceOp op v u) (EP X pins σ Q) X.xe s
section
variable {X:Cx}{pos:Pos}
noncomputable def i9(i:Nat):TG:=fun v σ H Q=>Q (σ.set i (some v)) H
theorem kZ{i:Nat}{x:Str}(hN:X.N.Nodup)(hi:X.N[i]?=some x)(hx:Loc X.env.scope x)(hf:X.fn x=true∨X.env.scope.names.lookup x=some .local:=by first|exact .inl rfl|exact .inr rfl|assumption):PG X (.Name x pos) (i9 i):=by
 intro pins s σ H v u Q I r h
 exact wpAny_assign_Name (lz I hN hi hx r (fun s' I'=>⟨_,H,I',h⟩) hf)
noncomputable def By:u0:=fun vs σ H Q=>vs=[]∧Q σ H
noncomputable def pC(t:TG)(u:u0):u0:=fun vs σ H Q=>∃v r,vs=v::r∧t v σ H fun σ' H'=>u r σ' H' Q
theorem x6:Dh X [] By:=by
 intro pins s σ H vs us Q I r h
 obtain⟨e,h⟩:=h
 subst e
 cases r
 exact assignInOrder_nil ⟨σ,H,I,h⟩
theorem lx{e:Expr}{es:List Expr}{t:TG}{u:u0}(h1:PG X e t)(h2:Dh X es u)
 (hs:(assignEach (e::es) X.env).map (·.2)=assign e X.env::(assignEach es X.env).map (·.2):=by rfl):Dh X (e::es) (pC t u):=by
 intro pins s σ H vs us Q I r h
 obtain⟨v,vr,e1,h⟩:=h
 subst e1
 cases r with
 |cons r rr=>
  rw[hs]
  refine assignInOrder_cons (bD (h1 pins s σ H _ _ _ I r h) fun _ s1 ⟨σ1,H1,I1,q1⟩=>?_)
  exact h2 pins s1 σ1 H1 _ _ Q I1 rr q1
noncomputable def Cz(K:PySem.W.Frag)(n:Nat)(t:u0):TG:=fun v σ H Q=>∃a xs,v= .ref a∧ia K H a xs∧xs.length=n∧t xs σ H Q
theorem zB{es:List Expr}{k:Nat}{t:u0}{n:Nat}(hc:X.calm=true)(h:Dh X es t)
 (hn:(assignEach es X.env).length=n:=by rfl) (hst:(assignEach es X.env).findIdx? (·.1)=none:=by rfl):PG X (.Tuple es k pos) (Cz X.K n t):=by
 intro pins s σ H v u Q I r hw
 obtain⟨a,xs,e1,hq,hl,hw⟩:=hw
 subst e1
 cases r
 obtain⟨its,rv,ht,hz⟩:=I.tuple hq
 refine assign_Tuple_tuple (I.ok.hd hc) ht (by simp[hn,←hl,rv.length]) hst fun h' hx=>?_
 have I1:Inv X pins σ H {s with heap:=h'}:=I.kept (t':=s.toks) fun b o e=>hx b o (Nat.ne_of_lt (Heap.lt_size e)) e
 exact h pins _ σ H xs _ Q I1 (by simpa using rv) hw
noncomputable def yY(to ti:TE)(t:uP):TG:=fun v σ H Q=>to σ H fun o H1=>ti σ H1 fun i H2=>t o i v H2 fun H3=>Q σ H3
theorem Ie{o i:Expr}{to ti:TE}{t:uP}(ho:PE X o to)(hi:PE X i ti)(hs:BM X t)
 (ha:∀v,assign (.Subscript o i pos) X.env v=(do
   let ov ←holding [v] (eval o X.env)
   let iv ←holding [v,ov] (eval i X.env)
   standAt pos
   holding [v,ov,iv] (setItem ov iv v)
   release [v,ov,iv] []):=by intro _;rfl):PG X (.Subscript o i pos) (yY to ti t):=by
 intro pins s σ H v u Q I r h
 rw[ha]
 refine wpAny_bind (wpAny_holding (bD (ho pins s σ H _ I h) fun ov s1 ⟨x,H1,I1,r1,q1⟩=>?_))
 refine wpAny_bind (wpAny_holding (bD (hi pins s1 σ H1 _ I1 q1) fun iv s2 ⟨y,H2,I2,r2,q2⟩=>?_))
 refine wpAny_bind (wpAny_standAt (wpAny_bind (wpAny_holding (bD (hs pins s2 σ H2 x y v ov iv u _ I2 r1 r2 r q2) fun _ s3 ⟨H3,I3,q3⟩=>?_))))
 exact wpAny_release ⟨σ,H3,I3,q3⟩
noncomputable def mN(te:TE)(g:TG):TS:=fun D σ H=>te σ H fun x H1=>g x σ H1 D.nx
theorem As{tg e:Expr}{te:TE}{g:TG}(he:PE X e te)(hg:PG X tg g)(hs:swapsWithSole [tg] e pos.line X.env=pure false:=by rfl)(hw:swappedStores [tg] e X.env=pure none:=by rfl)
 (h1:(assignEach [tg] X.env).map (·.2)=[assign tg X.env]:=by rfl):PS X (.Assign [tg] e pos) (mN te g):=by
 intro pins s σ H D I h
 refine wpAny_Assign_stores (bD (he pins s σ H _ I h) fun v s1 ⟨x,H1,I1,r1,q1⟩=>?_) hs hw
 rw[h1]
 exact bD (hg pins s1 σ H1 x v _ I1 r1 q1) fun _ s2 q=>q
theorem AX{i:Nat}{x:Str}{e:Expr}{te:TE}{pos':Pos}(hN:X.N.Nodup)(hi:X.N[i]?=some x)(hx:Loc X.env.scope x)(he:PE X e te)(hs:swapsWith e (some (.Name x pos')) pos.line X.env=pure false:=by rfl)(hf:X.fn x=true∨X.env.scope.names.lookup x=some .local:=by first|exact .inl rfl|exact .inr rfl|assumption):
 PS X (.Assign [.Name x pos'] e pos) (mN te (i9 i)):=by
 intro pins s σ H D I h
 refine wpAny_Assign_Name (bD (he pins s σ H _ I h) fun v s1 ⟨y,H1,I1,r1,q1⟩=>?_) hs
 exact lz I1 hN hi hx r1 (fun s2 I2=>⟨_,H1,I2,q1⟩) hf
noncomputable def Gn(i j:Nat)(ta:TA):TS:=fun D σ H=>ta σ H fun vs H1=>∃v w,vs=[v,w]∧D.nx ((σ.set i (some v)).set j (some w)) H1
theorem Hu{i j:Nat}{x y:Str}{a b:Expr}{ta:TA}{px py pt:Pos}{kt k2 pt2}(hc:X.calm=true)(hN:X.N.Nodup)(hi:X.N[i]?=some x)(hj:X.N[j]?=some y)(hij:i≠j)
 (hx:X.env.scope.names.lookup x=some .local) (hy:X.env.scope.names.lookup y=some .local) (ha:PA X [a,b] ta)
 (hw:swappedStores [.Tuple [.Name x px,.Name y py] kt pt] (.Tuple [a,b] k2 pt2) X.env=pure (some [x,y]))
 (hs:swapsWithSole [.Tuple [.Name x px,.Name y py] kt pt] (.Tuple [a,b] k2 pt2) pos.line X.env=pure false:=by rfl):
 PS X (.Assign [.Tuple [.Name x px,.Name y py] kt pt] (.Tuple [a,b] k2 pt2) pos) (Gn i j ta):=by
 intro pins s σ H D I h
 rw[exec_Assign_arm]
 refine wpAny_bind (wpAny_standAt ?_)
 rw[hs]
 refine wpAny_bind (wpAny_pure ?_)
 rw[if_neg (by decide)]
 refine wpAny_bind (Tuple_ (bD (ha _ pins s σ H _ I h) fun us s1 ⟨vs,H1,I1,r1,q1⟩=>?_))
 obtain⟨v,w,e1,q1⟩:=q1
 subst e1
 obtain⟨u1,u2,rfl,rv,rw'⟩:∃u1 u2,us=[u1,u2]∧RelV v u1∧RelV w u2:=by
  cases r1 with
  |cons p q=>
   cases q with
   |cons p' q'=>
    cases q'
    exact⟨_,_,rfl,p,p'⟩
 refine wpAny_newObj_type ?_ (by show 2≤sizeLine;decide)
 have I2:Inv X pins σ H1 {s1 with heap:=s1.heap.push {cls:= .type "tuple",data:= .seq [u1,u2].toArray}}:=I1.kept (t':=s1.toks) fun b o e=>Heap.get?_push_of_some _ e
 rw[hw]
 refine wpAny_bind (wpAny_pure ?_)
 show wpAny (model X.prog X.w) X.A (do rule "assign.swapped-stores";let items ←unpackItems (.ref s1.heap.objs.size) 2 none;assignInOrder [fun v=>bindName X.env y v,fun v=>bindName X.env x v] items.reverse;pure Flow.next) _ _ _
 refine wpAny_bind (wpAny_rule (wpAny_bind (unpackItems_tuple (items:= #[u1,u2]) (I.ok.hd hc) (IsTup.new s1.heap _) fun h' hx'=>?_)))
 have I3:=I2.kept (h':=h') (t':=s1.toks) fun b o e=>hx' b o (Nat.ne_of_lt (Heap.lt_size e)) e
 show wpAny _ _ (assignInOrder [fun v=>bindName X.env y v,fun v=>bindName X.env x v] [u2,u1] >>= fun _=>pure Flow.next) _ _ _
 refine wpAny_bind (assignInOrder_cons (wpAny_bindName (lz I3 hN hj (.inl hy) rw' (fun s2 I4=>?_) (.inr hy))))
 refine assignInOrder_cons (wpAny_bindName (lz I4 hN hi (.inl hx) rv (fun s3 I5=>assignInOrder_nil (wpAny_pure ?_)) (.inr hx)))
 rw[List.set_comm _ _ (Ne.symm hij)]at I5
 exact⟨_,H1,I5,q1⟩
noncomputable def H_(i:Nat)(te:TE)(ti:yc):TS:=fun D σ H=>∃x,σ[i]?=some (some x)∧te σ H fun y H1=>ti x y H1 fun z H2=>D.nx (σ.set i (some z)) H2
theorem Ho{i:Nat}{x:Str}{e:Expr}{te:TE}{op:Operator}{ti:yc}{pos':Pos}(hN:X.N.Nodup)(hi:X.N[i]?=some x)(hx:Loc X.env.scope x)(he:PE X e te)(ho:vK X op ti)(hf:X.fn x=true∨X.env.scope.names.lookup x=some .local:=by first|exact .inl rfl|exact .inr rfl|assumption):
 PS X (.AugAssign (.Name x pos') op e pos) (H_ i te ti):=by
 intro pins s σ H D I h
 obtain⟨v,e1,h⟩:=h
 obtain⟨m,hn,hl⟩:=I.loc
 have vis:vV X.env.scope x:=by rcases hx with k|k;exact .inl k;exact .inr (.inl k)
 obtain⟨u,r,l⟩:=hl i x v hi e1 vis
 refine wpAny_AugAssign_Name ?_
 have go:wpAny (model X.prog X.w) X.A (eval e X.env) (fun w s₂=>wpAny (model X.prog X.w) X.A (inplaceOp op u w) (fun r s₃=>wpAny (model X.prog X.w) X.A (storeName X.env x r) (fun _=>SP X pins D .next) X.xe s₃) X.xe s₂) X.xe s:=by
  refine bD (he pins s σ H _ I h) fun w s1 ⟨y,H1,I1,r1,q1⟩=>?_
  refine bD (ho pins s1 σ H1 v y u w _ I1 r r1 q1) fun z s2 ⟨zv,H2,I2,r2,q2⟩=>?_
  exact lz I2 hN hi hx r2 (fun s3 I3=>⟨_,H2,I3,q2⟩) hf
 rcases l with⟨hk,hm⟩|⟨hk,c,hc,hcell⟩
 · exact wpAny_loadName_local I.ok.kind hk hn hm go
 · rcases hk with hk|hk
   · exact wpAny_loadName_cell I.ok.kind hk hc hcell go
   · rcases hx with k|k
     · have:X.env.scope.names.lookup x=some .free:=hk
       rw[k]at this;cases this
     · have:X.env.scope.names.lookup x=some .free:=hk
       rw[k]at this;cases this
noncomputable def Jb(to ti te:TE)(tget:V→V→Hp→VK→Prop)(tip:yc)(tset:uP):TS:=fun D σ H=>to σ H fun o H1=>ti σ H1 fun i H2=>tget o i H2 fun x H3=>te σ H3 fun y H4=>tip x y H4 fun z H5=>tset o i z H5 fun H6=>D.nx σ H6
noncomputable def GO(X:Cx)(t:V→V→Hp→VK→Prop):Prop:=
 ∀(pins:List (Addr×Obj)) (s:Shared) (σ:St) (H:Hp) (o i:V) (ov iv:Value) (Q:VK),Inv X pins σ H s→RelV o ov→RelV i iv→t o i H Q→
  wpAny (model X.prog X.w) X.A (getItem ov iv) (EP X pins σ Q) X.xe s
theorem DM{o i e:Expr}{to ti te:TE}{tget:V→V→Hp→VK→Prop}{tip:yc}{tset:uP}{op:Operator}{tpos:Pos}(ho:PE X o to)(hi:PE X i ti)(hg:GO X tget)(he:PE X e te)(hp:vK X op tip)(hs:BM X tset)
 (ha:∀ov iv new,augStore i ov iv new=(do holding [new,ov,iv] (setItem ov iv new);release [new,ov,iv] [];pure .next):=by intros;rfl):PS X (.AugAssign (.Subscript o i tpos) op e pos) (Jb to ti te tget tip tset):=by
 intro pins s σ H D I h
 refine wpAny_AugAssign_SubscriptAny (bD (ho pins s σ H _ I h) fun ov s1 ⟨x1,H1,I1,r1,q1⟩=>?_) ha
 refine bD (hi pins s1 σ H1 _ I1 q1) fun iv s2 ⟨x2,H2,I2,r2,q2⟩=>?_
 refine bD (hg pins s2 σ H2 x1 x2 ov iv _ I2 r1 r2 q2) fun old s3 ⟨x3,H3,I3,r3,q3⟩=>?_
 refine bD (he pins s3 σ H3 _ I3 q3) fun v s4 ⟨x4,H4,I4,r4,q4⟩=>?_
 refine bD (hp pins s4 σ H4 x3 x4 old v _ I4 r3 r4 q4) fun new s5 ⟨x5,H5,I5,r5,q5⟩=>?_
 exact bD (hs pins s5 σ H5 x1 x2 x5 ov iv new _ I5 r1 r2 r5 q5) fun _ s6 ⟨H6,I6,q6⟩=>⟨σ,H6,I6,q6⟩
noncomputable def xN(f:Int→Int→Int):yc:=fun x y H Q=>∃i j,x= .int i∧y= .int j∧Q (.int (f i j)) H
theorem Gp:vK X .Add (xN fun i j=>i+j):=by
 intro pins s σ H x y v u Q I r1 r2 h
 obtain⟨i,j,e1,e2,q⟩:=h
 subst e1;subst e2
 obtain⟨t,rfl⟩:=r1
 obtain⟨t',rfl⟩:=r2
 exact iadd_int ⟨.int _,H,I.tok _,⟨_,rfl⟩,q⟩
theorem HX:vK X .Sub (xN fun i j=>i-j):=by
 intro pins s σ H x y v u Q I r1 r2 h
 obtain⟨i,j,e1,e2,q⟩:=h
 subst e1;subst e2
 obtain⟨t,rfl⟩:=r1
 obtain⟨t',rfl⟩:=r2
 exact isub_int ⟨.int _,H,I.tok _,⟨_,rfl⟩,q⟩
end
section
variable {X:Cx}{pos:Pos}
noncomputable def Ae(c:TT)(tb:TS):TS:=fun D σ H=>∃W:Nat→St→Hp→Prop,(∃m,W m σ H)∧∀m σ H,W m σ H→
 c σ H fun b H1=>if b=true then∃N:St→Hp→Prop,(∀σ' H',N σ' H'→∃m',m'<m∧W m' σ' H')∧tb {D with nx:=N,ct:=N,bk:=D.nx} σ H1 else D.nx σ H1
theorem Bm{c:Expr}{body:List Stmt}{tc:TT}{tb:TS}(hp:PassesOwn (model X.prog X.w) X.A X.env X.xe)(hc:PT X c tc)(hb:gL X body tb):PS X (.While c body [] pos) (Ae tc tb):=by
 intro pins s σ H D I h
 obtain⟨W,⟨m0,w0⟩,turn⟩:=h
 refine wpAny_While (codeAny_whileLoop (fun n s'=>∃σ' H',Inv X pins σ' H' s'∧W n σ' H') ?_ m0 ⟨σ,H,I,w0⟩)
 rintro n s1 ⟨σ1,H1,I1,w1⟩
 refine wpAny_passesOwn hp (bD (hc pins s1 σ1 H1 _ I1 (turn n σ1 H1 w1)) fun b s2 ⟨H2,I2,q2⟩=>?_)
 cases b with
 |true=>
  obtain⟨N,hN,q2⟩:=q2
  rw[if_pos rfl]
  refine wpAny_passesOwn hp (bD (hb pins s2 σ1 H2 _ I2 q2) fun f s3 q3=>?_)
  cases f with
  |next=>
   obtain⟨σ3,H3,I3,n3⟩:=q3
   obtain⟨m',hm,w3⟩:=hN σ3 H3 n3
   exact⟨m',hm,σ3,H3,I3,w3⟩
  |cont=>
   obtain⟨σ3,H3,I3,n3⟩:=q3
   obtain⟨m',hm,w3⟩:=hN σ3 H3 n3
   exact⟨m',hm,σ3,H3,I3,w3⟩
  |brk=>exact q3
  |ret v=>exact q3
 |false=>
  rw[if_neg Bool.false_ne_true]
  exact wpAny_execs_nil ⟨σ1,H2,I2,q2⟩
end
structure It where
 go:Nat→Hp→Prop
 mj:Nat→Hp→V→Hp→Prop
 stop:Nat→Hp→Prop
noncomputable def j5(X:Cx)(pins:List (Addr×Obj))(H:Hp)(b:Addr):Prop:=
 H b=none∧b≠X.env.locals∧b∉X.fs∧(b∈X.ex∨X.s₀.heap.objs.size≤b)∧(∀x c,X.env.cells.lookup x=some c→c≠b)∧∀p∈X.pn++pins,p.1≠b
theorem Inv.qz{X:Cx}{pins:List (Addr×Obj)}{σ:St}{H H':Hp}{s:Shared}{b:Addr}(I:Inv X pins σ H s)(hb:s.heap.objs.size≤b)(hn:H' b=none):j5 X pins H' b:=by
 refine⟨hn,Nat.ne_of_gt (Nat.lt_of_lt_of_le I.lt hb),I.K_ hb,.inr (Nat.le_trans I.sz hb),fun x c e z=>?_,fun p hp z=>?_⟩
 · obtain⟨v,q⟩:=I.cell x c e
   exact absurd (Nat.lt_of_lt_of_le q.lt (by rw[z];exact hb)) (Nat.lt_irrefl _)
 · exact absurd (Nat.lt_of_lt_of_le (Heap.lt_size (I.pin p hp).1) (by rw[z];exact hb)) (Nat.lt_irrefl _)
structure Turn(P:Program)(w:World)(K:PySem.W.Frag)(tg:Expr)(J:It)(fp:List Addr)(it:Addr)(tn:Nat→Heap→Prop):Prop where
 mem:it∈fp
 obj:∀i h,tn i h→∀b∈fp,∃o,h.get? b=some o∧∀v,o.data≠ .cell v
 keep:∀i h h',tn i h→(∀b∈fp,∀o,h.get? b=some o→h'.get? b=some o)→tn i h'
 item:∀(X:Cx),X.prog=P→X.w=w→X.K=K→X.calm=true→∀(i:Nat) (pins:List (Addr×Obj)) (s:Shared) (σ:St) (H:Hp) (E:Value→Shared→Prop),Inv X pins σ H s→(∀b∈fp,j5 X pins H b)→tn i s.heap→J.go i H→
  wpAny (model P w) X.A (pyNext (.ref it)) (fun r s1=>∃u,r=some u∧
   wpAny (model P w) X.A (letOwnedTupleGo tg (.ref it) u) (fun _ s2=>∃x H',Inv X pins σ H' s2∧RelV x u∧J.mj i H x H'∧tn (i+1) s2.heap∧∀b∈fp,H' b=none) E s1) E s
 done:∀(X:Cx),X.prog=P→X.w=w→X.K=K→X.calm=true→∀(i:Nat) (pins:List (Addr×Obj)) (s:Shared) (σ:St) (H:Hp) (E:Value→Shared→Prop),Inv X pins σ H s→(∀b∈fp,j5 X pins H b)→tn i s.heap→J.stop i H→
  wpAny (model P w) X.A (pyNext (.ref it)) (fun r s1=>r=none∧Inv X pins σ H s1) E s
 self:∀(A:Around) (i:Nat) (s:Shared) (Q:Value→Shared→Prop) (E:Value→Shared→Prop),tn i s.heap→Q (.ref it) s→wpAny (model P w) A (pyIter (.ref it)) Q E s
noncomputable abbrev TI:=St→Hp→(It→Hp→Prop)→Prop
noncomputable def CC(X:Cx)(pins:List (Addr×Obj))(σ:St)(tg:Expr)(R:It→Hp→Prop)(itv:Value)(s2:Shared):Prop:=
 ∃(it:Addr) (fp:List Addr) (tn:Nat→Heap→Prop) (J:It) (H':Hp),itv= .ref it∧Inv X pins σ H' s2∧Turn X.prog X.w X.K tg J fp it tn∧tn 0 s2.heap∧(∀b∈fp,j5 X pins H' b)∧R J H'
noncomputable def PI(X:Cx)(tg iter:Expr)(wi:TI):Prop:=
 ∀(pins:List (Addr×Obj)) (s:Shared) (σ:St) (H:Hp) (R:It→Hp→Prop),Inv X pins σ H s→wi σ H R→
  wpAny (model X.prog X.w) X.A (eval iter X.env) (fun v s1=>wpAny (model X.prog X.w) X.A (pyIter v) (CC X pins σ tg R) X.xe s1) X.xe s
theorem uq{M:Model}{A:Around}{E:Value→Shared→Prop}{s:Shared}{tg:Expr}{it:Addr}{u:Value}{o:Obj}{n:String}{vs:Array Value}{Q:Unit→Shared→Prop}(ho:s.heap.get? it=some o)(hc:o.cls= .type n)(hd:o.data= .fields vs)
 (hn: ["enumerate","zip","dict_itemiterator","dict_reverseitemiterator","odict_iterator","itertools.zip_longest","itertools.pairwise"].contains n=false) (hQ:Q () s):wpAny M A (letOwnedTupleGo tg (.ref it) u) Q E s:=by
 unfold letOwnedTupleGo
 cases tg<;>first
  |exact wpAny_pure hQ
  |(cases u<;>first
     |exact wpAny_pure hQ
     |(refine wpAny_bind (wpAny_load ho ?_)
       rw[hc,hd]
       show wpAny M A (if(["enumerate","zip","dict_itemiterator","dict_reverseitemiterator","odict_iterator","itertools.zip_longest","itertools.pairwise"].contains n&&vs[0]?==some (rawInt _))=true then _ else _) Q E s
       rw[if_neg (by intro h;rw[hn,Bool.false_and]at h;cases h)]
       exact wpAny_pure hQ))
noncomputable def FO(K:PySem.W.Frag)(a:Addr):It:=
 ⟨fun i H=>∃xs x,kA K H a xs∧xs[i]?=some x,fun i H x H'=>H'=H∧∀xs,kA K H a xs→xs[i]?=some x,fun i H=>∃xs,kA K H a xs∧xs.length≤i⟩
noncomputable def HV(K:PySem.W.Frag)(a:Addr):It:=
 ⟨fun i H=>∃xs x,ia K H a xs∧xs[i]?=some x,fun i H x H'=>H'=H∧∀xs,ia K H a xs→xs[i]?=some x,fun i H=>∃xs,ia K H a xs∧xs.length≤i⟩
noncomputable def tj(lo:Int)(n:Nat):It:=⟨fun i _=>i<n,fun i H x H'=>H'=H∧x= .int (lo+i),fun i _=>n≤i⟩
theorem A3{P:Program}{w:World}{K:PySem.W.Frag}{tg:Expr}(a it:Addr):Turn P w K tg (FO K a) [it] it (fun i h=>h.IsListIter it a i) where
 mem:=by simp
 obj:=fun i h st b hb=>by
  have e:b=it:=by simpa using hb
  subst e
  obtain⟨o,e,c,d⟩:=st
  exact⟨o,e,fun v z=>by rw[d]at z;cases z⟩
 keep:=fun i h h' st k=>st.at fun o e=>k it (by simp) o e
 item:=by
  intro X hP hw hK hc i pins s σ H E I hf st hg
  subst hP hw hK
  obtain⟨xs,x,hq,hx⟩:=hg
  obtain⟨its,rv,p,hz⟩:=I.list hq
  obtain⟨u,hu,ru⟩:=rv.get hx
  obtain⟨f0,f1,f2,f3,f4,f5⟩:=hf it (by simp)
  refine wpAny_pyNext_list_item st p.isList (x:=u) (by simpa using hu) fun h' st' sb=>?_
  have I1:Inv X pins σ H {s with heap:=h'}:=I.turned (t':=s.toks) (fun b o hb e=>(sb.2 b hb).trans e) f0 f1 f3 f4 f5
  obtain⟨o,e,c,d⟩:=id st'
  exact⟨u,rfl,uq (s:={s with heap:=h'}) e c d (by decide) ⟨x,H,I1,ru,⟨rfl,fun ys hy=>by rw[I.u9 hy hq];exact hx⟩,st',fun b hb=>(hf b hb).1⟩⟩
 done:=by
  intro X hP hw hK hc i pins s σ H E I hf st hg
  subst hP hw hK
  obtain⟨xs,hq,hx⟩:=hg
  obtain⟨its,rv,p,hz⟩:=I.list hq
  obtain⟨f0,f1,f2,f3,f4,f5⟩:=hf it (by simp)
  have hl:=rv.length
  exact wpAny_pyNext_list_end (I.ok.hd hc) st p.isList (by simp;omega) fun h' eb=>⟨rfl,I.turned (t':=s.toks) (fun b o hb e=>eb b o hb e) f0 f1 f3 f4 f5⟩
 self:=fun _ _ _ _ _ st h=>wpAny_pyIter_listiter st h
theorem zc{P:Program}{w:World}{K:PySem.W.Frag}{tg:Expr}(a it:Addr):Turn P w K tg (HV K a) [it] it (fun i h=>h.IsTupleIter it a i) where
 mem:=by simp
 obj:=fun i h st b hb=>by
  have e:b=it:=by simpa using hb
  subst e
  obtain⟨o,e,c,d⟩:=st
  exact⟨o,e,fun v z=>by rw[d]at z;cases z⟩
 keep:=fun i h h' st k=>st.at fun o e=>k it (by simp) o e
 item:=by
  intro X hP hw hK hc i pins s σ H E I hf st hg
  subst hP hw hK
  obtain⟨xs,x,hq,hx⟩:=hg
  obtain⟨its,rv,p,hz⟩:=I.tuple hq
  obtain⟨u,hu,ru⟩:=rv.get hx
  obtain⟨f0,f1,f2,f3,f4,f5⟩:=hf it (by simp)
  refine wpAny_pyNext_tuple_item st (show s.heap.IsTuple a its.toArray from p) (x:=u) (by simpa using hu) fun h' st' sb=>?_
  have I1:Inv X pins σ H {s with heap:=h'}:=I.turned (t':=s.toks) (fun b o hb e=>(sb.2 b hb).trans e) f0 f1 f3 f4 f5
  obtain⟨o,e,c,d⟩:=id st'
  exact⟨u,rfl,uq (s:={s with heap:=h'}) e c d (by decide) ⟨x,H,I1,ru,⟨rfl,fun ys hy=>by rw[I.tN hy hq];exact hx⟩,st',fun b hb=>(hf b hb).1⟩⟩
 done:=by
  intro X hP hw hK hc i pins s σ H E I hf st hg
  subst hP hw hK
  obtain⟨xs,hq,hx⟩:=hg
  obtain⟨its,rv,p,hz⟩:=I.tuple hq
  obtain⟨f0,f1,f2,f3,f4,f5⟩:=hf it (by simp)
  have hl:=rv.length
  exact wpAny_pyNext_tuple_end (I.ok.hd hc) st (show s.heap.IsTuple a its.toArray from p) (by simp;omega) fun h' eb=>⟨rfl,I.turned (t':=s.toks) (fun b o hb e=>eb b o hb e) f0 f1 f3 f4 f5⟩
 self:=fun _ _ _ _ _ st h=>wpAny_pyIter_tupleiter st h
theorem yH{P:Program}{w:World}{K:PySem.W.Frag}{tg:Expr}(it:Addr)(lo:Int)(n:Nat):Turn P w K tg (tj lo n) [it] it (fun i h=>IsRangeIter h it (lo+(i:Nat)*1) ((n:Int)-(i:Nat)) 1) where
 mem:=by simp
 obj:=fun i h st b hb=>by
  have e:b=it:=by simpa using hb
  subst e
  exact⟨_,st,fun v z=>by
   have z':Data.fields _=Data.cell v:=z
   cases z'⟩
 keep:=fun i h h' st k=>k it (by simp) _ st
 item:=by
  intro X hP hw hK hc i pins s σ H E I hf st hg
  subst hP hw hK
  obtain⟨f0,f1,f2,f3,f4,f5⟩:=hf it (by simp)
  have W:=Walks.range (prog:=X.prog) (w:=X.w) (I.ok.hd hc) it lo 1 n
  refine W.item i s _ _ hg st fun v h' tk hv st' kk=>?_
  obtain⟨t,rfl⟩:=hv
  have I1:Inv X pins σ H {s with heap:=h',toks:=tk}:=I.turned (fun b o hb e=>kk b o (by simpa using hb) e) f0 f1 f3 f4 f5
  refine⟨_,rfl,uq (s:={s with heap:=h',toks:=tk}) (n:="range_iterator") st' rfl rfl (by decide) ⟨.int (lo+i),H,I1,⟨t,?_⟩,⟨rfl,rfl⟩,st',fun b hb=>(hf b hb).1⟩⟩
  rw[Int.mul_one]
 done:=by
  intro X hP hw hK hc i pins s σ H E I hf st hg
  subst hP hw hK
  obtain⟨f0,f1,f2,f3,f4,f5⟩:=hf it (by simp)
  exact wpAny_pyNext_range_end (I.ok.hd hc) st (by have:n≤i:=hg;omega) fun h' eb=>⟨rfl,I.turned (t':=s.toks) (fun b o hb e=>eb b o hb e) f0 f1 f3 f4 f5⟩
 self:=fun _ _ _ _ _ st h=>wpAny_pyIter_rangeiter st h
end L2
namespace L2
open PySem PySem.Spec PyProof.Rows
section
variable {X:Cx}{tg:Expr}
theorem vE{pins:List (Addr×Obj)}{σ:St}{H:Hp}{s:Shared}{R:It→Hp→Prop}{E:Value→Shared→Prop}{lo hi:Int}{t u v:Tok}{tk:Nat}(I:Inv X pins σ H s)(h1: -(2^62)≤lo)(h2:lo<2^62)(h3: -(2^62)≤hi)(h4:hi<2^62)
 (q:R (tj lo (hi-lo).toNat) H):wpAny (model X.prog X.w) X.A (pyIter (.ref s.heap.objs.size)) (CC X pins σ tg R) E {s with heap:=s.heap.push {cls:= .type "range",data:= .fields #[.int lo t,.int hi u,.int 1 v]},toks:=tk}:=by
 refine wpAny_pyIter_range (IsRange.new ..) (small_one h1 h2 h3 h4) ?_
 have I1:Inv X pins σ H {s with heap:=s.heap.push {cls:= .type "range",data:= .fields #[.int lo t,.int hi u,.int 1 v]},toks:=tk}:=I.kept fun b o e=>Heap.get?_push_of_some _ e
 refine⟨(s.heap.push {cls:= .type "range",data:= .fields #[.int lo t,.int hi u,.int 1 v]}).objs.size,[(s.heap.push {cls:= .type "range",data:= .fields #[.int lo t,.int hi u,.int 1 v]}).objs.size],_,_,H,rfl,
  I1.kept (t':=tk) fun b o e=>Heap.get?_push_of_some _ e,yH _ lo (hi-lo).toNat,?_,fun b hb=>?_,q⟩
 · have e1:lo+((0:Nat):Int)*1=lo:=by simp
   have e2:(((hi-lo).toNat:Nat):Int)-((0:Nat):Int)=Builtin.Range.rangeSize lo hi 1:=by rw[rangeSize_one];split<;>omega
   show IsRangeIter _ _ (lo+((0:Nat):Int)*1) ((((hi-lo).toNat:Nat):Int)-((0:Nat):Int)) 1
   rw[e1,e2]
   exact Heap.get?_push_size _ rfl
 · have e:b=(s.heap.push {cls:= .type "range",data:= .fields #[.int lo t,.int hi u,.int 1 v]}).objs.size:=by simpa using hb
   subst e
   exact I1.qz (Nat.le_refl _) (I1.aP.fresh (Nat.le_refl _))
noncomputable def y6(ta:TA):TI:=fun σ H R=>ta σ H fun vs H1=>∃j:Int,vs=[.int j]∧ -(2^62)≤j∧j<2^62∧R (tj 0 j.toNat) H1
noncomputable def yL(ta:TA):TI:=fun σ H R=>ta σ H fun vs H1=>∃i j:Int,vs=[.int i,.int j]∧(-(2^62)≤i∧i<2^62∧ -(2^62)≤j∧j<2^62)∧R (tj i (j-i).toNat) H1
theorem AF{a:Expr}{ta:TA}{p pos:Pos}(hg:Gl X "range")(hm:X.mg "range"=none)(ha:PA X [a] ta)(hs:starEach [a] X.env=[(false,eval a X.env)]:=by rfl):PI X tg (.Call (.Name "range" p) [a] [] pos) (y6 ta):=by
 intro pins s σ H R I h
 refine Call_ (kq I hg hm boot_range (PyProof.Rows.callWith_type1 (bD (ha pos pins s σ H _ I h) fun us s1 ⟨vs,H1,I1,r1,q1⟩=>?_) hs rfl))
 obtain⟨j,e,q1,q2,q⟩:=q1
 subst e
 cases r1 with
 |cons r rr=>
  cases rr
  obtain⟨t,rfl⟩:=r
  exact call_range_1 (vE I1 (by omega) (by omega) q1 q2 (by simpa using q))
theorem A6{a b:Expr}{ta:TA}{p pos:Pos}(hg:Gl X "range")(hm:X.mg "range"=none)(ha:PA X [a,b] ta)(hs:starEach [a,b] X.env=[(false,eval a X.env),(false,eval b X.env)]:=by rfl)(hs2:starEach [b] X.env=[(false,eval b X.env)]:=by rfl):
 PI X tg (.Call (.Name "range" p) [a,b] [] pos) (yL ta):=by
 intro pins s σ H R I h
 refine Call_ (kq I hg hm boot_range (PyProof.Rows.callWith_type1 (bD (ha pos pins s σ H _ I h) fun us s1 ⟨vs,H1,I1,r1,q1⟩=>?_) (by rw[hs,hs2]) (by rw[hs2];rfl)))
 obtain⟨i,j,e,⟨q1,q2,q3,q4⟩,q⟩:=q1
 subst e
 cases r1 with
 |cons r rr=>
  cases rr with
  |cons r' rr=>
   cases rr
   obtain⟨t,rfl⟩:=r
   obtain⟨t',rfl⟩:=r'
   exact call_range_2 (vE I1 q1 q2 q3 q4 q)
noncomputable def Ge(wi:TI)(g:TG)(tb:TS):TS:=fun D σ H=>wi σ H fun J H1=>∃W:Nat→Nat→St→Hp→Prop,(∃m,W 0 m σ H1)∧∀i m σ H,W i m σ H→
 (J.stop i H∧D.nx σ H)∨(J.go i H∧∃N:St→Hp→Prop,(∀σ' H',N σ' H'→∃m',m'<m∧W (i+1) m' σ' H')∧∀x H',J.mj i H x H'→g x σ H' fun σ2 H2=>tb {D with nx:=N,ct:=N,bk:=D.nx} σ2 H2)
noncomputable def oX(fp:List Addr)(h:Heap):List (Addr×Obj):=fp.filterMap fun b=>(h.get? b).map fun o=>(b,o)
theorem kP{fp:List Addr}{h:Heap}{b:Addr}{o:Obj}(hb:b∈fp)(e:h.get? b=some o):(b,o)∈oX fp h:=List.mem_filterMap.mpr ⟨b,hb,by rw[e];rfl⟩
theorem zF{fp:List Addr}{h:Heap}{p:Addr×Obj}(hp:p∈oX fp h):p.1∈fp∧h.get? p.1=some p.2:=by
 obtain⟨b,hb,e⟩:=List.mem_filterMap.mp hp
 cases q:h.get? b with
 |none=>rw[q]at e;cases e
 |some o=>
  rw[q]at e
  have e':(b,o)=p:=Option.some.inj e
  subst e'
  exact⟨hb,q⟩
theorem Inv.pinned{pins:List (Addr×Obj)}{σ:St}{H:Hp}{s:Shared}{fp:List Addr}(I:Inv X pins σ H s)(hf:∀b∈fp,j5 X pins H b)(ho:∀b∈fp,∃o,s.heap.get? b=some o∧∀v,o.data≠ .cell v):Inv X (pins++oX fp s.heap) σ H s:=
 I.xo fun p hp=>(List.mem_append.mp hp).elim (fun z=>I.pin p (List.mem_append_right _ z)) fun z=>by
  obtain⟨hb,e⟩:=zF z
  obtain⟨f0,f1,f2,_⟩:=hf p.1 hb
  obtain⟨o,e',d⟩:=ho p.1 hb
  rw[e]at e';cases e'
  exact⟨e,f0,f1,f2,d⟩
theorem Inv.nk{pins pl:List (Addr×Obj)}{σ:St}{H:Hp}{s:Shared}(I:Inv X (pins++pl) σ H s):Inv X pins σ H s:=I.xo fun p hp=>I.pin p (List.mem_append_right _ (List.mem_append_left _ hp))
theorem HD{iter:Expr}{body:List Stmt}{wi:TI}{g:TG}{tb:TS}{pos:Pos}(hp:PassesOwn (model X.prog X.w) X.A X.env X.xe)(hc:X.calm=true)(hi:PI X tg iter wi)(hg:PG X tg g)(hb:gL X body tb)
 (hs:∀x,foldedSetIterable iter X.env x=pure x:=by intro _;rfl):PS X (.For tg iter body [] pos) (Ge wi g tb):=by
 intro pins s σ H D I h
 refine wpAny_For (bD (hi pins s σ H _ I h) fun v s1 h1=>bD h1 fun itv s2 h2=>?_) hs
 obtain⟨it,fp,tn,J,H2,e,I2,T,st2,f2,W,⟨m0,w0⟩,turn⟩:=h2
 subst e
 have stat:∀ {H':Hp},(∀b∈fp,H' b=none)→∀b∈fp,j5 X pins H' b:=fun hn b hb=>⟨hn b hb,(f2 b hb).2⟩
 refine codeAny_forLoop_any (fun n s'=>∃i σ' H',Inv X pins σ' H' s'∧tn i s'.heap∧(∀b∈fp,H' b=none)∧W i n σ' H') ?_ m0 ⟨0,σ,H2,I2,st2,fun b hb=>(f2 b hb).1,w0⟩
 rintro n s3 ⟨i,σ3,H3,I3,st3,fr3,w3⟩
 rcases turn i n σ3 H3 w3 with⟨stop,qn⟩|⟨go,N,hN,step⟩
 · refine wpAny_passesOwn hp (bD (T.done X rfl rfl rfl hc i pins s3 σ3 H3 X.xe I3 (stat fr3) st3 stop) fun r s4 ⟨hr,I4⟩=>?_)
   subst hr
   exact wpAny_execs_nil ⟨σ3,H3,I4,qn⟩
 · refine wpAny_passesOwn hp (bD (T.item X rfl rfl rfl hc i pins s3 σ3 H3 X.xe I3 (stat fr3) st3 go) fun r s4 ⟨u,hr,h4⟩=>?_)
   subst hr
   refine wpAny_passesOwn hp (bD h4 fun _ s5 ⟨x,H5,I5,r5,y5,st5,fr5⟩=>?_)
   have I5':=I5.pinned (stat fr5) (T.obj _ _ st5)
   refine wpAny_passesOwn hp (bD (hg _ s5 σ3 H5 x u _ I5' r5 (step x H5 y5)) fun _ s6 ⟨σ6,H6,I6,q6⟩=>?_)
   refine wpAny_passesOwn hp (bD (hb _ s6 σ6 H6 _ I6 q6) fun f s7 q7=>?_)
   have again:∀ {σ7:St} {H7:Hp},Inv X (pins++oX fp s5.heap) σ7 H7 s7→N σ7 H7→∃m,m<n∧∃i σ' H',Inv X pins σ' H' s7∧tn i s7.heap∧(∀b∈fp,H' b=none)∧W i m σ' H':=fun{σ7 H7} I7 n7=>by
    obtain⟨m',hm,w7⟩:=hN σ7 H7 n7
    refine⟨m',hm,i+1,σ7,H7,I7.nk,T.keep _ _ _ st5 fun b hb o e=>(I7.pin (b,o) (List.mem_append_right _ (List.mem_append_right _ (kP hb e)))).1,fun b hb=>?_,w7⟩
    obtain⟨o,e,d⟩:=T.obj _ _ st5 b hb
    exact(I7.pin (b,o) (List.mem_append_right _ (List.mem_append_right _ (kP hb e)))).2.1
   cases f with
   |next=>obtain⟨σ7,H7,I7,n7⟩:=q7;exact again I7 n7
   |cont=>obtain⟨σ7,H7,I7,n7⟩:=q7;exact again I7 n7
   |brk=>obtain⟨σ7,H7,I7,q7⟩:=q7;exact⟨σ7,H7,I7.nk,q7⟩
   |ret v=>obtain⟨x7,σ7,H7,I7,r7,q7⟩:=q7;exact⟨x7,σ7,H7,I7.nk,r7,q7⟩
end
theorem ib{lo:Int}{n:Nat}{g:TG}{tb:TS}{D:Ends}{σ:St}{H:Hp}(Pv:Nat→St→Hp→Prop)(h0:Pv 0 σ H)
 (hs:∀i σ H,i<n→Pv i σ H→g (.int (lo+i)) σ H fun σ2 H2=>tb {D with nx:=Pv (i+1),ct:=Pv (i+1),bk:=D.nx} σ2 H2) (hd:∀σ H,Pv n σ H→D.nx σ H):
 ∃W:Nat→Nat→St→Hp→Prop,(∃m,W 0 m σ H)∧∀i m σ H,W i m σ H→
  ((tj lo n).stop i H∧D.nx σ H)∨((tj lo n).go i H∧∃N:St→Hp→Prop,(∀σ' H',N σ' H'→∃m',m'<m∧W (i+1) m' σ' H')∧∀x H',(tj lo n).mj i H x H'→g x σ H' fun σ2 H2=>tb {D with nx:=N,ct:=N,bk:=D.nx} σ2 H2):=by
 refine⟨fun i m σ H=>m=n-i∧i≤n∧Pv i σ H,⟨n,by simp,Nat.zero_le _,h0⟩,?_⟩
 rintro i m σ H ⟨rfl,hi,p⟩
 by_cases hlt:i<n
 · refine .inr ⟨hlt,Pv (i+1),fun σ' H' p'=>⟨n-(i+1),by omega,rfl,hlt,p'⟩,fun x H' y=>?_⟩
   obtain⟨e,y⟩:=y
   subst e y
   exact hs i σ _ hlt p
 · have e:i=n:=by omega
   subst e
   exact .inl ⟨Nat.le_refl _,hd σ H p⟩
end L2
namespace L2
open PySem PySem.Spec PyProof.Rows
noncomputable abbrev R2:=V→V→Hp→VK→Prop
noncomputable def cc(X:Cx)(f:Value→Value→Sem Value)(r:R2):Prop:=
 ∀(pins:List (Addr×Obj)) (s:Shared) (σ:St) (H:Hp) (x y:V) (v u:Value) (Q:VK),Inv X pins σ H s→RelV x v→RelV y u→r x y H Q→
  wpAny (model X.prog X.w) X.A (f v u) (EP X pins σ Q) X.xe s
noncomputable def ya(X:Cx)(f:Value→Sem Value)(r:V→Hp→VK→Prop):Prop:=
 ∀(pins:List (Addr×Obj)) (s:Shared) (σ:St) (H:Hp) (x:V) (v:Value) (Q:VK),Inv X pins σ H s→RelV x v→r x H Q→
  wpAny (model X.prog X.w) X.A (f v) (EP X pins σ Q) X.xe s
noncomputable def bJ(X:Cx)(f:Value)(r:List V→Hp→VK→Prop):Prop:=
 ∀(pins:List (Addr×Obj)) (s:Shared) (σ:St) (H:Hp) (xs:List V) (us:List Value) (Q:VK),Inv X pins σ H s→Vals xs us→r xs H Q→
  wpAny (model X.prog X.w) X.A (call f us) (EP X pins σ Q) X.xe s
noncomputable def AW(r:R2)(ta tb:TE):TE:=fun σ H Q=>ta σ H fun x H1=>tb σ H1 fun y H2=>r x y H2 Q
noncomputable def Kk(r:V→Hp→VK→Prop)(ta:TE):TE:=fun σ H Q=>ta σ H fun x H1=>r x H1 Q
noncomputable def rI(C:Int→Int→Prop)(g:Int→Int→V):R2:=fun x y H Q=>∃i j,x= .int i∧y= .int j∧C i j∧Q (g i j) H
noncomputable def tD(g:Int→Int→V):R2:=fun x y H Q=>∃i j,x= .int i∧y= .int j∧Q (g i j) H
noncomputable def rU(g:Int→V):V→Hp→VK→Prop:=fun x H Q=>∃i,x= .int i∧Q (g i) H
section
variable {X:Cx}{a b c:Expr}{ta tb tc:TE}{pos:Pos}
theorem BF(ha:PE X a ta)(hb:PE X b tb){pins:List (Addr×Obj)}{s:Shared}{σ:St}{H:Hp}{R:V→V→Hp→Prop}(I:Inv X pins σ H s)
 (h:ta σ H fun x H1=>tb σ H1 fun y H2=>R x y H2) {Q:Value→Shared→Prop} {f:Value→Value→Sem Value}
 (hf:∀v u s2 x y H2,Inv X pins σ H2 s2→RelV x v→RelV y u→R x y H2→wpAny (model X.prog X.w) X.A (f v u) Q X.xe s2):
 wpAny (model X.prog X.w) X.A (eval a X.env) (fun v s₁=>wpAny (model X.prog X.w) X.A (eval b X.env) (fun u s₂=>wpAny (model X.prog X.w) X.A (f v u) Q X.xe s₂) X.xe s₁) X.xe s:=by
 refine bD (ha pins s σ H _ I h) fun v s1 ⟨x,H1,I1,r1,q1⟩=>?_
 refine bD (hb pins s1 σ H1 _ I1 q1) fun u s2 ⟨y,H2,I2,r2,q2⟩=>?_
 exact hf v u s2 x y H2 I2 r1 r2 q2
theorem JZ{op:Operator}{r:R2}(ho:cc X (binaryOp op) r)(ha:PE X a ta)(hb:PE X b tb):PE X (.BinOp a op b pos) (AW r ta tb):=by
 intro pins s σ H Q I h
 exact wpAny_BinOp (BF ha hb I h fun v u s2 x y H2 I2 rx ry q=>ho pins s2 σ H2 x y v u Q I2 rx ry q)
theorem Iz{op:UnaryOp}{r:V→Hp→VK→Prop}(ho:ya X (unaryOp op) r)(ha:PE X a ta):PE X (.UnaryOp op a pos) (Kk r ta):=by
 intro pins s σ H Q I h
 exact UnaryOp_ (bD (ha pins s σ H _ I h) fun v s1 ⟨x,H1,I1,r1,q1⟩=>ho pins s1 σ H1 x v Q I1 r1 q1)
theorem CD{f:Value→Value→Sem Value}{C:Int→Int→Prop}{g:Int→Int→Int}
 (rule:∀(i j:Int) (t u:Tok) (s:Shared) (Q:Value→Shared→Prop) (E:Value→Shared→Prop),C i j→Q (.int (g i j) s.toks) {s with toks:=s.toks+1}→wpAny (model X.prog X.w) X.A (f (.int i t) (.int j u)) Q E s):
 cc X f (rI C fun i j=> .int (g i j)):=by
 intro pins s σ H x y v u Q I rx ry h
 obtain⟨i,j,rfl,rfl,hc,q⟩:=h
 obtain⟨t,rfl⟩:=rx
 obtain⟨t',rfl⟩:=ry
 exact rule i j t t' s _ _ hc ⟨.int (g i j),H,I.tok _,⟨_,rfl⟩,q⟩
theorem Gd{f:Value→Value→Sem Value}{g:Int→Int→Int}
 (rule:∀(i j:Int) (t u:Tok) (s:Shared) (Q:Value→Shared→Prop) (E:Value→Shared→Prop),Q (.int (g i j) s.toks) {s with toks:=s.toks+1}→wpAny (model X.prog X.w) X.A (f (.int i t) (.int j u)) Q E s):
 cc X f (tD fun i j=> .int (g i j)):=by
 intro pins s σ H x y v u Q I rx ry h
 obtain⟨i,j,rfl,rfl,q⟩:=h
 obtain⟨t,rfl⟩:=rx
 obtain⟨t',rfl⟩:=ry
 exact rule i j t t' s _ _ ⟨.int (g i j),H,I.tok _,⟨_,rfl⟩,q⟩
theorem BY{f:Value→Value→Sem Value}{g:Int→Int→Bool}
 (rule:∀(i j:Int) (t u:Tok) (s:Shared) (Q:Value→Shared→Prop) (E:Value→Shared→Prop),Q (.bool (g i j)) s→wpAny (model X.prog X.w) X.A (f (.int i t) (.int j u)) Q E s):
 cc X f (tD fun i j=> .bl (g i j)):=by
 intro pins s σ H x y v u Q I rx ry h
 obtain⟨i,j,rfl,rfl,q⟩:=h
 obtain⟨t,rfl⟩:=rx
 obtain⟨t',rfl⟩:=ry
 exact rule i j t t' s _ _ ⟨.bl (g i j),H,I,rfl,q⟩
noncomputable def Ci(i j:Int):Prop:=0≤j∧j≤1000000∧i.natAbs<2^64
theorem GA:cc X (binaryOp .Add) (tD fun i j=> .int (i+j)):=Gd fun _ _ _ _ _ _ _ q=>add_int q
theorem Gs:cc X (binaryOp .Sub) (tD fun i j=> .int (i-j)):=Gd fun _ _ _ _ _ _ _ q=>sub_int q
theorem E6:cc X (binaryOp .Mod) (rI (fun _ j=>j≠0) fun i j=> .int (i.fmod j)):=CD fun _ _ _ _ _ _ _ hc q=>mod_int' hc q
theorem FX:cc X (binaryOp .Pow) (rI Ci fun i j=> .int (i^j.toNat)):=CD fun _ _ _ _ _ _ _ hc q=>pow_int_small hc.1 hc.2.1 hc.2.2 q
theorem LJ{f:Value→Sem Value}{g:Int→Int}
 (rule:∀(i:Int) (t:Tok) (s:Shared) (Q:Value→Shared→Prop) (E:Value→Shared→Prop),Q (.int (g i) s.toks) {s with toks:=s.toks+1}→wpAny (model X.prog X.w) X.A (f (.int i t)) Q E s):
 ya X f (rU fun i=> .int (g i)):=by
 intro pins s σ H x v Q I rx h
 obtain⟨i,rfl,q⟩:=h
 obtain⟨t,rfl⟩:=rx
 exact rule i t s _ _ ⟨.int (g i),H,I.tok _,⟨_,rfl⟩,q⟩
theorem GR:ya X (unaryOp .USub) (rU fun i=> .int (-i)):=LJ fun _ _ _ _ _ q=>neg_int q
end
noncomputable def KR:V→V→Bool
 | .aH,.aH=>true| .aH,.int _=>true| .int _,.aH=>true| .aH,.bl _=>true| .bl _,.aH=>true| .aH,.str _=>true| .str _,.aH=>true
 | .int _,.int _=>true| .bl _,.bl _=>true| .str _,.str _=>true| .qg _,.qg _=>true
 | .int _,.str _=>true| .str _,.int _=>true| .bl _,.str _=>true| .str _,.bl _=>true
 |_,_=>false
noncomputable def Ly:R2:=fun x y H Q=>KR x y=true∧Q (.bl (!decide (x=y))) H
theorem Ew{i j:Int}:decide (V.int i=V.int j)=(i==j):=by
 rw[Bool.eq_iff_iff]
 simp
theorem Gj{i j:Bool}:decide (V.bl i=V.bl j)=(i==j):=by
 rw[Bool.eq_iff_iff]
 simp
theorem Ef{i j:Str}:decide (V.str i=V.str j)=(i==j):=by
 rw[Bool.eq_iff_iff]
 simp
theorem DQ{i j:Array UInt8}:decide (V.qg i=V.qg j)=(i.toList==j.toList):=by
 rw[Bool.eq_iff_iff]
 cases i
 cases j
 simp
section
variable {X:Cx}{a b c:Expr}{ta tb tc:TE}{pos:Pos}
theorem fB{pins:List (Addr×Obj)}{σ:St}{H:Hp}{s:Shared}{Q:VK}{k k':Bool}(I:Inv X pins σ H s)(q:Q (.bl k) H)(e:k=k'):EP X pins σ Q (.bool k') s:=by
 subst e
 exact⟨.bl k,H,I,rfl,q⟩
theorem Jz:cc X (compareOp .NotEq) Ly:=by
 intro pins s σ H x y v u Q I rx ry h
 obtain⟨hs,q⟩:=h
 cases x with
 |aH=>
  cases rx
  cases y with
  |aH=>cases ry;exact PySem.EqNone.ne_none_none (fB I q (by simp))
  |bl j=>cases ry;exact PySem.EqNone.ne_none_bool (fB I q (by simp))
  |int j=>obtain⟨t',rfl⟩:=ry;exact PySem.EqNone.ne_none_int (fB I q (by simp))
  |str j=>obtain⟨t',rfl⟩:=ry;exact PySem.EqNone.ne_none_str (fB I q (by simp))
  |_=>exact absurd (show false=true from hs) Bool.false_ne_true
 |bl i=>
  cases rx
  cases y with
  |aH=>cases ry;exact PySem.EqNone.ne_bool_none (fB I q (by simp))
  |bl j=>cases ry;exact ne_bool (fB I q (congrArg not Gj))
  |str j=>obtain⟨t',rfl⟩:=ry;exact PySem.EqMixed.ne_bool_str (fB I q (by simp))
  |_=>exact absurd (show false=true from hs) Bool.false_ne_true
 |int i=>
  obtain⟨t,rfl⟩:=rx
  cases y with
  |aH=>cases ry;exact PySem.EqNone.ne_int_none (fB I q (by simp))
  |int j=>obtain⟨t',rfl⟩:=ry;exact ne_int (fB I q (congrArg not Ew))
  |str j=>obtain⟨t',rfl⟩:=ry;exact PySem.EqMixed.ne_int_str (fB I q (by simp))
  |_=>exact absurd (show false=true from hs) Bool.false_ne_true
 |str i=>
  obtain⟨t,rfl⟩:=rx
  cases y with
  |aH=>cases ry;exact PySem.EqNone.ne_str_none (fB I q (by simp))
  |bl j=>cases ry;exact PySem.EqMixed.ne_str_bool (fB I q (by simp))
  |int j=>obtain⟨t',rfl⟩:=ry;exact PySem.EqMixed.ne_str_int (fB I q (by simp))
  |str j=>obtain⟨t',rfl⟩:=ry;exact ne_str (fB I q (congrArg not Ef))
  |_=>exact absurd (show false=true from hs) Bool.false_ne_true
 |qg i=>
  obtain⟨t,rfl⟩:=rx
  cases y with
  |qg j=>obtain⟨t',rfl⟩:=ry;exact PySem.W.ne_bytes (fB I q (congrArg not DQ))
  |_=>exact absurd (show false=true from hs) Bool.false_ne_true
 |_=>cases y<;>exact absurd (show false=true from hs) Bool.false_ne_true
theorem JP:cc X (compareOp .Lt) (tD fun i j=> .bl (decide (i<j))):=BY fun _ _ _ _ _ _ _ q=>lt_int q
theorem IJ:cc X (compareOp .Gt) (tD fun i j=> .bl (decide (j<i))):=BY fun _ _ _ _ _ _ _ q=>gt_int q
theorem II:cc X (compareOp .GtE) (tD fun i j=> .bl (decide (j≤i))):=BY fun _ _ _ _ _ _ _ q=>ge_int q
theorem Hb:cc X (compareOp .Is) (fun x y H Q=>y= .aH∧Q (.bl (decide (x= .aH))) H):=by
 intro pins s σ H x y v u Q I rx ry h
 obtain⟨rfl,q⟩:=h
 cases ry
 refine is_none_gen (fB I q ?_)
 cases x<;>first
  |(cases rx;rfl)
  |(obtain⟨t,rfl⟩:=rx;rfl)
theorem cF(b:Expr){op:CmpOp}(h:op≠ .In:=by decide)(h2:op≠ .NotIn:=by decide):behindInMarks op b=false:=by
 have e1:(op==CmpOp.In)=false:=by cases op<;>first|rfl|exact absurd rfl h
 have e2:(op==CmpOp.NotIn)=false:=by cases op<;>first|rfl|exact absurd rfl h2
 cases b<;>simp[behindInMarks,e1,e2]
theorem Es{op:CmpOp}{r:R2}(ho:cc X (compareOp op) r)(ha:PE X a ta)(hb:PE X b tb)(hm:behindInMarks op b=false):PE X (.Compare a [op] [b] pos) (AW r ta tb):=by
 intro pins s σ H Q I h
 exact wpAny_Compare1 (BF ha hb I h fun v u s2 x y H2 I2 rx ry q=>ho pins s2 σ H2 x y v u Q I2 rx ry q) hm
noncomputable def Ji(t:TE):TT:=fun σ H Q=>t σ H fun x H'=>∃k,x= .bl k∧Q k H'
theorem DL{op:CmpOp}{r:R2}(ho:cc X (compareOp op) r)(ha:PE X a ta)(hb:PE X b tb)(hm:behindInMarks op b=false):PT X (.Compare a [op] [b] pos) (Ji (AW r ta tb)):=by
 intro pins s σ H Q I h
 refine wpAny_isTrue_Compare1 (bD (ha pins s σ H _ I h) fun v s1 ⟨x,H1,I1,r1,q1⟩=>bD (hb pins s1 σ H1 _ I1 q1) fun u s2 ⟨y,H2,I2,r2,q2⟩=>
  bD (ho pins s2 σ H2 x y v u _ I2 r1 r2 q2) fun c s3 ⟨z,H3,I3,r3,k,e,q3⟩=>?_) hm
 subst e
 cases r3
 exact wpAny_truthy_bool ⟨H3,I3,q3⟩
theorem mV:(sizeLine:Nat)<2^63:=by rw[sizeLine_eq];decide
theorem yV:cc X (binaryOp .Add) (fun x y H Q=>∃i j,x= .str i∧y= .str j∧i.length+j.length≤sizeLine∧Q (.str (i++j)) H):=by
 intro pins s σ H x y v u Q I rx ry h
 obtain⟨i,j,rfl,rfl,hz,q⟩:=h
 obtain⟨t,rfl⟩:=rx
 obtain⟨t',rfl⟩:=ry
 exact add_str (fun t' tk=>⟨.str (i++j),H,I.tok _,⟨_,rfl⟩,q⟩) hz
theorem vals1{x:V}{us:List Value}(r:Vals [x] us):∃u,us=[u]∧RelV x u:=by
 cases r with
 |cons r1 r2=>cases r2;exact⟨_,rfl,r1⟩
theorem vals2{x y:V}{us:List Value}(r:Vals [x,y] us):∃u w',us=[u,w']∧RelV x u∧RelV y w':=by
 cases r with
 |cons r1 r2=>
  cases r2 with
  |cons r3 r4=>cases r4;exact⟨_,_,rfl,r1,r3⟩
theorem B0:bJ X (.builtin "abs") (fun xs H Q=>∃i,xs=[.int i]∧Q (.int (if i<0 then-i else i)) H):=by
 intro pins s σ H xs us Q I r h
 obtain⟨i,rfl,q⟩:=h
 obtain⟨u,rfl,t,rfl⟩:=vals1 r
 exact call_abs_int fun u tk=>⟨.int (if i<0 then-i else i),H,I.tok _,⟨_,rfl⟩,q⟩
theorem AK(hc:X.calm=true):bJ X (.builtin "max") (fun xs H Q=>∃i j,xs=[.int i,.int j]∧Q (.int (if j>i then j else i)) H):=by
 intro pins s σ H xs us Q I r h
 obtain⟨i,j,rfl,q⟩:=h
 obtain⟨u,w',rfl,⟨t,rfl⟩,⟨t',rfl⟩⟩:=vals2 r
 refine max_two_ints (I.ok.hd hc) fun h' tk k=>⟨_,H,I.kept k,?_,q⟩
 by_cases hj:j>i
 · rw[if_pos hj,if_pos hj];exact⟨_,rfl⟩
 · rw[if_neg hj,if_neg hj];exact⟨_,rfl⟩
theorem zH:bJ X (.type "int") (fun xs H Q=>(∃i,xs=[.int i]∧Q (.int i) H)∨∃k,xs=[.bl k]∧Q (.int (if k then 1 else 0)) H):=by
 intro pins s σ H xs us Q I r h
 rcases h with⟨i,rfl,q⟩|⟨k,rfl,q⟩
 · obtain⟨u,rfl,t,rfl⟩:=vals1 r
   exact call_int_int ⟨.int i,H,I,⟨_,rfl⟩,q⟩
 · obtain⟨u,rfl,r1⟩:=vals1 r
   cases r1
   exact call_int_bool ⟨.int (if k then 1 else 0),H,I.tok _,⟨_,rfl⟩,q⟩
end
end L2
namespace L2
open PySem PySem.Spec PyProof.Rows
structure qt(h:Heap)(x dx C:Addr)(mA:Str→Option Value):Prop where
 obj:h.get? x=some (PySem.W.instObj C dx)
 ns:h.Ns1 dx mA
 ne:dx≠x
theorem AL{h:Heap}{dx:Addr}{mA:Str→Option Value}(n:h.Ns1 dx mA):∃od,h.get? dx=some od∧∀name,PySem.W.lookIn name od=some (mA name):=by
 obtain⟨o,es,ep,ho,hd,hk,_,hm⟩:=n
 refine⟨o,ho,fun name=>?_⟩
 have e:=hm name
 unfold nsFind findBy at e
 rw[←Array.find?_toList]at e
 unfold PySem.W.lookIn
 rw[hd]
 dsimp only
 split
 · rename_i y q
   rw[q]at e
   exact congrArg some e
 · rename_i q
   rw[q]at e
   have a:es.toList.any (·.refKey)=false:=by
    rw[List.any_eq_false]
    intro y hy
    obtain⟨z,t,hkey⟩:=hk y (Array.mem_toList_iff.mp hy)
    simp[DictEntry.refKey,hkey]
   have a':¬es.toList.any (·.refKey)=true:=by rw[a];exact Bool.false_ne_true
   rw[if_neg a']
   exact congrArg some e
theorem qt.look{h:Heap}{x dx C:Addr}{mA:Str→Option Value}(I:qt h x dx C mA):∃od,PySem.W.InstAt h x (PySem.W.instObj C dx) C (some od)∧∀name,PySem.W.lookIn name od=some (mA name):=
 let⟨od,ho,hl⟩:=AL I.ns
 ⟨od,⟨I.obj,rfl,rfl,ho⟩,hl⟩
section
variable {prog:Program}{w:World}{A:Around}{E:Value→Shared→Prop}{s:Shared}{K:PySem.W.Frag}{x dx C f:Addr}{mA:Str→Option Value}{name:Str}{v:Value}
theorem get_map{expr:Bool}{Q:Value→Shared→Prop}(X:K.In s.heap)(I:qt s.heap x dx C mA)(hg:PySem.W.plainGet K C name=true)(hh:PySem.W.hasDictIn K C=true)
 (ha:PySem.W.findIn K (.ref C) name=some none) (hv:mA name=some v) (hv':PySem.W.handedIn v=true) (h:Q v {s with toks:=s.toks+1}):
 wpAny (model prog w) A (getAttr (.ref x) name expr) Q E s:=by
 obtain⟨od,J,hl⟩:=I.look
 exact PySem.W.get_value X J (PySem.W.plainGet_of hg).1 (PySem.W.findObj_own hh ha rfl (by rw[hl,hv])) hv' h
theorem Bw{pl:Sem Bool}{Q:Value×List Value→Shared→Prop}(X:K.In s.heap)(I:qt s.heap x dx C mA)(hg:PySem.W.plainGet K C name=true)
 (hf:PySem.W.findIn K (.ref C) name=some (some (.ref f))) (ht:PySem.W.isFn K (.ref f)=true) (hv:mA name=none) (h:Q (.ref f,[.ref x]) s):
 wpAny (model prog w) A (getMethod (.ref x) name pl) Q E s:=by
 obtain⟨od,J,hl⟩:=I.look
 exact PySem.W.method_fn X J (PySem.W.plainGet_of hg).1 (PySem.W.plainGet_of hg).2 hf (beq_iff_eq.mp ht) (by show(PySem.W.lookIn name od).map (·.isSome)=some false;rw[hl,hv];rfl) h
theorem jX{ns:List Str}{Q:Unit→Shared→Prop}(X:K.In s.heap)(I:qt s.heap x dx C mA)
 (hs:PySem.W.findIn K (.ref C) "__setattr__"=some (some (.builtin "object.__setattr__"))) (hp:PySem.W.plainOver K C=true) (ht:PySem.W.takerIn K C name=some none) (hh:PySem.W.hasDictIn K C=true)
 (hw:PySem.Within mA ns) (hsz:ns.length≤sizeLine)
 (h:∀h',qt h' x dx C (fun y=>if y=name then some v else mA y)→Heap.SameBut dx s.heap h'→Q () {s with heap:=h',toks:=s.toks+2}):
 wpAny (model prog w) A (setAttr (.ref x) name v) Q E s:=by
 obtain⟨od,J,hl⟩:=I.look
 refine PySem.W.set_plain X J hs (PySem.W.osa_open (s:={s with toks:=s.toks+1}) (r:=none) X J hp ht fun b=>?_)
 obtain⟨cd,hc,hd'⟩:=PySem.W.any_some hh
 have hx:s.heap.get? x=some ⟨.ref C,some dx,.plain,#[]⟩:=I.obj
 refine wpAny_bind (wpAny_pure (wpAny_bind (wpAny_bind (wpAny_loadPart hx (wpAny_bind (PySem.W.Looks.here (s:={s with toks:=s.toks+1}) (PySem.W.looks_clsIn X hc) ?_))))))
 rw[hd']
 refine wpAny_pure (a:=some dx) (wpAny_bind (wpAny_pure (wpAny_bind ?_)))
 refine wpAny_nsSet1 (s:={s with toks:=s.toks+1}) I.ns fun h' hn2 hs2=>?_
 obtain⟨oD,esD,epD,hoD,hdD,hcD⟩:=hn2.count (PySem.Within.cons name v hw)
 refine wpAny_bind (wpAny_lookBehind hoD (by rw[hdD];exact pastItsLine_dict (Nat.le_trans hcD (by rw[List.length_cons];omega))) ?_)
 exact wpAny_pure (h _ ⟨(hs2.2 _ (Ne.symm I.ne)).trans I.obj,hn2,I.ne⟩ hs2)
theorem CA{R:Result→Shared→Prop}{vs:List Value}{kw:List (Str×Value)}(X:K.In s.heap)(hm:PySem.W.makesIn K C=true)
 (hi:PySem.W.findIn K (.ref C) "__init__"=some (some (.ref f))) (hf:PySem.W.typeIn K (.ref f)=some (.type "function"))
 (h:codeAny (model prog w) (A.under (.builtin "type.__call__" ⟨.ref C::vs,kw⟩)) (.call (.ref f) ⟨.ref (s.heap.objs.size+1)::vs,kw⟩) (PySem.W.InitBack (s.heap.objs.size+1) R)
   {s with heap:=(s.heap.push PySem.W.emptyDict).push (PySem.W.instObj C s.heap.objs.size)}):
 codeAny (model prog w) A (.call (.ref C) ⟨vs,kw⟩) R s:=by
 obtain⟨hh,g,d,t,os⟩:=s
 exact PySem.W.make_core (PySem.W.makes_of X hm) (PySem.W.looks_findIn X hi) (fun self=>PySem.W.bind_fn X self hf) (.inl rfl) h
end
noncomputable def gG(f:Str)(v:V):List (Str×V)→List (Str×V)
 | []=>[(f,v)]
 |(g,x)::r=>if g=f then(g,v)::r else(g,x)::gG f v r
theorem qj(f g:Str)(v:V):∀fs:List (Str×V),(gG f v fs).lookup g=if g=f then some v else fs.lookup g
 | []=>by
   show List.lookup g [(f,v)]=_
   by_cases h:g=f
   · have hb:(g==f)=true:=beq_iff_eq.mpr h
     simp only[List.lookup,hb,if_pos h]
   · have hb:(g==f)=false:=beq_eq_false_iff_ne.mpr h
     simp only[List.lookup,hb,if_neg h]
 |(k,x)::r=>by
  have ih:=qj f g v r
  rw[show gG f v ((k,x)::r)=(if k=f then(k,v)::r else(k,x)::gG f v r)from rfl]
  by_cases hk:k=f
  · rw[if_pos hk]
    by_cases h:g=k
    · have hb:(g==k)=true:=beq_iff_eq.mpr h
      simp only[List.lookup,hb,if_pos (h.trans hk)]
    · have hb:(g==k)=false:=beq_eq_false_iff_ne.mpr h
      simp only[List.lookup,hb,if_neg (fun e:g=f=>h (e.trans hk.symm))]
  · rw[if_neg hk]
    by_cases h:g=k
    · have hb:(g==k)=true:=beq_iff_eq.mpr h
      simp only[List.lookup,hb,if_neg (fun e:g=f=>hk (h.symm.trans e))]
    · have hb:(g==k)=false:=beq_eq_false_iff_ne.mpr h
      simp only[List.lookup,hb]
      exact ih
theorem pj(f:Str)(v:V):∀fs:List (Str×V),f∈(gG f v fs).map (·.1)∧∀g,g∈fs.map (·.1)→g∈(gG f v fs).map (·.1)
 | []=>⟨by simp[gG],fun g h=>by simp at h⟩
 |(k,x)::r=>by
  obtain⟨i1,i2⟩:=pj f v r
  rw[show gG f v ((k,x)::r)=(if k=f then(k,v)::r else(k,x)::gG f v r)from rfl]
  by_cases hk:k=f
  · rw[if_pos hk]
    subst hk
    exact⟨by simp,fun g h=>by simpa using h⟩
  · rw[if_neg hk]
    refine⟨?_,fun g h=>?_⟩
    · rw[List.map_cons]
      exact List.mem_cons_of_mem _ i1
    · rw[List.map_cons]at h⊢
      rcases List.mem_cons.mp h with e|e
      · exact List.mem_cons.mpr (.inl e)
      · exact List.mem_cons_of_mem _ (i2 g e)
theorem qi(f:Str)(v:V):∀fs:List (Str×V),(gG f v fs).length≤fs.length+1
 | []=>by simp[gG]
 |(k,x)::r=>by
  have ih:=qi f v r
  rw[show gG f v ((k,x)::r)=(if k=f then(k,v)::r else(k,x)::gG f v r)from rfl]
  by_cases hk:k=f
  · rw[if_pos hk,List.length_cons,List.length_cons];omega
  · rw[if_neg hk,List.length_cons,List.length_cons];omega
theorem mO.some_of{v:V}{o:Option Value}(r:mO (some v) o):∃u,o=some u∧RelV v u:=by
 cases o with
 |none=>exact(show False from r).elim
 |some u=>exact⟨u,rfl,r⟩
theorem mO.none_of{o:Option Value}(r:mO none o):o=none:=by
 cases o with
 |none=>rfl
 |some u=>exact(show False from r).elim
theorem Ar{v:V}{u:Value}(r:RelV v u):PySem.W.handedIn u=true:=by
 cases v with
 |aH=>cases (show u=Value.none from r);rfl
 |bl b=>cases (show u=Value.bool b from r);rfl
 |int i=>obtain⟨t,e⟩:=(show∃t,u=Value.int i t from r);cases e;rfl
 |str x=>obtain⟨t,e⟩:=(show∃t,u=Value.str x t from r);cases e;rfl
 |qg b=>obtain⟨t,e⟩:=(show∃t,u=Value.bytes b t from r);cases e;rfl
 |qd b=>obtain⟨t,e⟩:=(show∃t,u=Value.float b t from r);cases e;rfl
 |ref a=>cases (show u=Value.ref a from r);rfl
 |ty n=>cases (show u=Value.type n from r);rfl
section
variable {P:Program}{w:World}{H H':Hp}{h h':Heap}{a C dx:Addr}{fs fs':List (Str×V)}
theorem pL(aP:g6 P w H h)(e:H a=some (.ins C dx fs)):∃mA,qt h a dx C mA∧(∀f,mO (fs.lookup f) (mA f))∧PySem.Within mA (fs.map (·.1))∧fs.length≤1000∧H dx=some (.own a):=by
 obtain⟨d,z,ne,ob,mA,n,r,q⟩:=(show dS P w H h a (.ins C dx fs)from aP a _ e)
 exact⟨mA,⟨ob,n,ne⟩,r,q,z,d⟩
end
structure ku(K:PySem.W.Frag)(C:Addr):Prop where
 pg:PySem.W.plainGet K C Str.empty=true
 hd:PySem.W.hasDictIn K C=true
 po:PySem.W.plainOver K C=true
 sa:PySem.W.findIn K (.ref C) "__setattr__"=some (some (.builtin "object.__setattr__"))
theorem ku.get{K:PySem.W.Frag}{C:Addr}(c:ku K C)(f:Str):PySem.W.plainGet K C f=true:=c.pg
noncomputable def fS(K:PySem.W.Frag)(C:Addr)(f:Str):Prop:=PySem.W.findIn K (.ref C) f=some none
theorem fS.JQ{K:PySem.W.Frag}{C:Addr}{f:Str}(n:fS K C f):PySem.W.takerIn K C f=some none:=by
 unfold PySem.W.takerIn
 rw[show PySem.W.findIn K (.ref C) f=some none from n]
 rfl
structure Meth(K:PySem.W.Frag)(C:Addr)(m:Str)(f:Addr):Prop where
 at_:PySem.W.findIn K (.ref C) m=some (some (.ref f))
 fn:PySem.W.isFn K (.ref f)=true
 kp:PySem.W.keepIn K (.ref f)=true
section
variable {X:Cx}{pins:List (Addr×Obj)}{σ:St}{H:Hp}{s:Shared}{a C dx:Addr}{fs:List (Str×V)}{f:Str}{v:V}{A:Around}{E:Value→Shared→Prop}
theorem y0{b:Bool}{Q:Value→Shared→Prop}(I:Inv X pins σ H s)(e:H a=some (.ins C dx fs))(c:ku X.K C)(n:fS X.K C f)(l:fs.lookup f=some v)
 (h:∀u s',Inv X pins σ H s'→RelV v u→Q u s'):wpAny (model X.prog X.w) A (getAttr (.ref a) f b) Q E s:=by
 obtain⟨mA,O,r,_,_,_⟩:=pL I.aP e
 obtain⟨u,hu,ru⟩:=mO.some_of (v:=v) (o:=mA f) (by rw[←l];exact r f)
 exact get_map I.gK O (c.get f) c.hd n hu (Ar ru) (h u _ (I.tok _) ru)
theorem qW{m:Str}{g:Addr}{pl:Sem Bool}{Q:Value×List Value→Shared→Prop}(I:Inv X pins σ H s)(e:H a=some (.ins C dx fs))(c:ku X.K C)(k:Meth X.K C m g)(l:fs.lookup m=none)
 (h:Q (.ref g,[.ref a]) s):wpAny (model X.prog X.w) A (getMethod (.ref a) m pl) Q E s:=by
 obtain⟨mA,O,r,_,_,_⟩:=pL I.aP e
 have hn:mA m=none:=mO.none_of (by rw[←l];exact r m)
 exact Bw I.gK O (c.get m) k.at_ k.fn hn h
theorem yG{y:V}{u:Value}{Q:Unit→Shared→Prop}(I:Inv X pins σ H s)(e:H a=some (.ins C dx fs))(c:ku X.K C)(n:fS X.K C f)(hl:fs.length<1000)(ry:RelV y u)
 (h:∀s',Inv X pins σ (upd H a (.ins C dx (gG f y fs))) s'→Q () s'):wpAny (model X.prog X.w) A (setAttr (.ref a) f u) Q E s:=by
 obtain⟨mA,O,r,wi,_,ho⟩:=pL I.aP e
 have hz:(fs.map (·.1)).length≤sizeLine:=by rw[List.length_map,sizeLine_eq];omega
 refine jX I.gK O c.sa c.po n.JQ c.hd wi hz fun h' O' sb=>h _ ?_
 have hd:∃o,h'.get? dx=some o:=let⟨o,_,_,e',_⟩:=O'.ns;⟨o,e'⟩
 refine I.write (x:=a) (e:=dx) (by rw[e];exact True.intro) (.inr ho) (fun b q hb z=>(sb.2 b hb).trans z) hd ?_
 refine⟨by rw[aE O.ne];exact ho,?_,O.ne,O'.obj,_,O'.ns,fun g=>?_,fun g hg=>?_⟩
 · have:=qi f y fs;omega
 · show mO ((gG f y fs).lookup g) (if g=f then some u else mA g)
   rw[qj]
   by_cases q:g=f
   · rw[if_pos q,if_pos q];exact ry
   · rw[if_neg q,if_neg q];exact r g
 · by_cases q:g=f
   · rw[q];exact(pj f y fs).1
   · refine(pj f y fs).2 g (wi g fun z=>hg ?_)
     show(if g=f then some u else mA g)=none
     rw[if_neg q];exact z
theorem Inv.made(I:Inv X pins σ H s):Inv X pins σ (upd (upd H s.heap.objs.size (.own (s.heap.objs.size+1))) (s.heap.objs.size+1) (.ins C s.heap.objs.size []))
 {s with heap:=(s.heap.push PySem.W.emptyDict).push (PySem.W.instObj C s.heap.objs.size)}:=by
 have e1:(s.heap.push PySem.W.emptyDict).get? s.heap.objs.size=some PySem.W.emptyDict:=Heap.get?_push_size s.heap rfl
 have e2:((s.heap.push PySem.W.emptyDict).push (PySem.W.instObj C s.heap.objs.size)).get? (s.heap.objs.size+1)=some (PySem.W.instObj C s.heap.objs.size):=by
  have:=Heap.get?_push_size (s.heap.push PySem.W.emptyDict) (o:=PySem.W.instObj C s.heap.objs.size) rfl
  rwa [Heap.size_push]at this
 have e3:(s.heap.push PySem.W.emptyDict).Ns s.heap.objs.size (fun _=>none):=⟨PySem.W.emptyDict,#[],_,e1,rfl,(fun e he=>absurd he (by simp)),fun _=>rfl⟩
 have I1:=I.laid (a:=s.heap.objs.size) (o:= .own (s.heap.objs.size+1)) (h':=s.heap.push PySem.W.emptyDict) (t':=s.toks) (fun b u q=>Heap.get?_push_of_some _ q) (Nat.le_refl _) ⟨_,e1⟩
 refine I1.laid (a:=s.heap.objs.size+1) (o:= .ins C s.heap.objs.size []) (t':=s.toks) (fun b u q=>Heap.get?_push_of_some _ q) (Nat.le_of_eq (Heap.size_push _ _)) ?_
 have ne:s.heap.objs.size≠s.heap.objs.size+1:=Nat.ne_of_lt (Nat.lt_succ_self _)
 refine⟨by rw[aE ne,bw],Nat.zero_le _,ne,e2,fun _=>none,(Heap.Ns1.of_empty e3).at fun o q=>Heap.get?_push_of_some _ q,fun _=>True.intro,fun y hy=>absurd rfl hy⟩
theorem E4{prog:Program}{w:World}{env:Env}{e:Expr}{f:Str}{pos:Pos}{s:Shared}{Q:Value→Shared→Prop}(hb:attributeBase e f env (eval e env)=eval e env)
 (h:wpAny (model prog w) A (eval e env) (fun o s₁=>wpAny (model prog w) A (getAttr o f true) Q E s₁) E s):wpAny (model prog w) A (eval (.Attribute e f pos) env) Q E s:=
 Attribute_any_ h (by rw[arm_eval_Attribute,hb])
end
noncomputable def KG(K:PySem.W.Frag)(ta:TE)(f:Str):TE:=fun σ H Q=>ta σ H fun x H1=>∃a C dx fs v,x= .ref a∧H1 a=some (.ins C dx fs)∧ku K C∧fS K C f∧fs.lookup f=some v∧Q v H1
noncomputable def Lm(K:PySem.W.Frag)(ta tv:TE)(f:Str):TS:=fun D σ H=>tv σ H fun y H1=>ta σ H1 fun x H2=>∃a C dx fs,x= .ref a∧H2 a=some (.ins C dx fs)∧ku K C∧fS K C f∧fs.length<1000∧
 D.nx σ (upd H2 a (.ins C dx (gG f y fs)))
section
variable {X:Cx}{o e value:Expr}{f:Str}{pos pos' tpos:Pos}{ta tv:TE}
theorem HJ(he:PE X e ta)(hb:attributeBase e f X.env (eval e X.env)=eval e X.env):PE X (.Attribute e f pos) (KG X.K ta f):=by
 intro pins s σ H Q I h
 refine E4 hb (bD (he pins s σ H _ I h) fun u s1 ⟨x,H1,I1,rx,a,C,dx,fs,v,ex,ea,c,n,l,q⟩=>?_)
 subst ex
 obtain rfl:u=Value.ref a:=rx
 exact y0 I1 ea c n l fun u' s2 I2 ru=>⟨v,H1,I2,ru,q⟩
theorem GG(ha:PE X o ta)(hv:PE X value tv)(hs:swapsWith value (some (.Attribute o f pos')) pos.line X.env=pure false):PS X (.Assign [.Attribute o f pos'] value pos) (Lm X.K ta tv f):=by
 intro pins s σ H D I h
 refine plainObj_wpAny_Assign_Attribute (bD (hv pins s σ H _ I h) fun u s1 ⟨y,H1,I1,ry,q⟩=>bD (ha pins s1 σ H1 _ I1 q) fun ov s2 ⟨x,H2,I2,rx,a,C,dx,fs,ex,ea,c,n,l,q2⟩=>?_) hs
 subst ex
 obtain rfl:ov=Value.ref a:=rx
 exact yG I2 ea c n l ry fun s3 I3=>⟨σ,_,I3,q2⟩
end
section
variable {X:Cx}{pins:List (Addr×Obj)}{σ:St}{H:Hp}{s:Shared}{A:Around}{E:Value→Shared→Prop}{Q:Value→Shared→Prop}{c:Value}{b:Bool}
inductive iP(K:PySem.W.Frag)(H:Hp):V→Value→Prop where
 |aH:iP K H .aH (.type "NoneType")
 |bl (x:Bool):iP K H (.bl x) (.type "bool")
 |int (i:Int):iP K H (.int i) (.type "int")
 |str (x:Str):iP K H (.str x) (.type "str")
 |qd (x:UInt64):iP K H (.qd x) (.type "float")
 |lst {a:Addr} {xs:List V} (e:H a=some (.lst xs)):iP K H (.ref a) (.type "list")
 |iO {a:Addr} {o:Obj} {xs:List V} (e:H a=some (.iO o (.lst xs))):iP K H (.ref a) (.type "list")
 |tup {a:Addr} {xs:List V} (e:H a=some (.tup xs)):iP K H (.ref a) (.type "tuple")
 |dK {a:Addr} {kvs:List (Key×V)} (e:H a=some (.dK kvs)):iP K H (.ref a) (.type "dict")
 |dT {a:Addr} {kvs:List (List Key×V)} (e:H a=some (.dT kvs)):iP K H (.ref a) (.type "dict")
 |ins {a C dx:Addr} {fs:List (Str×V)} (e:H a=some (.ins C dx fs)) (cl:ku K C) (ha:PySem.W.findIn K (.ref C) "__class__"=some (some (.builtin "object.__class__")))
   (hn:PySem.W.specialIn K (.builtin "object.__class__") "__get__"=some (some (.builtin "getset_descriptor.__get__"))) (htk:PySem.W.takesIn K (.builtin "object.__class__")=some true)
   (hm:PySem.W.mroIn K C (.type "object")=some true):iP K H (.ref a) (.ref C)
theorem zX{x:V}{u t:Value}(I:Inv X pins σ H s)(rx:RelV x u)(ty:iP X.K H x t)(e:PySem.W.kitOne X.K t c=some b)(h:∀tk,Q (.bool b) {s with toks:=tk}):
 wpAny (model X.prog X.w) A (call (.builtin "isinstance") [u,c]) Q E s:=by
 cases ty with
 |aH=>cases (show u=Value.none from rx);exact PySem.W.kia_one PySem.W.kitx_none I.gK True.intro e (fun z=>nomatch z) h
 |bl y=>cases (show u=Value.bool y from rx);exact PySem.W.kia_one PySem.W.kitx_bool I.gK True.intro e (fun z=>nomatch z) h
 |int i=>obtain⟨t,q⟩:=(show∃t,u=Value.int i t from rx);cases q;exact PySem.W.kia_one PySem.W.kitx_int I.gK True.intro e (fun z=>nomatch z) h
 |str y=>obtain⟨t,q⟩:=(show∃t,u=Value.str y t from rx);cases q;exact PySem.W.kia_one PySem.W.kitx_str I.gK True.intro e (fun z=>nomatch z) h
 |qd y=>obtain⟨t,q⟩:=(show∃t,u=Value.float y t from rx);cases q;exact PySem.W.kia_one PySem.W.kitx_float I.gK True.intro e (fun z=>nomatch z) h
 | @lst a xs ea=>
   cases (show u=Value.ref a from rx)
   obtain⟨_,_,n,_,h1⟩:=(show dS X.prog X.w H s.heap a (.lst xs)from I.aP a _ ea)
   exact PySem.W.kia_one PySem.W.kitx_list I.gK ⟨_,h1,rfl⟩ e (fun z=>nomatch z) h
 | @iO a ob xs ea=>
   cases (show u=Value.ref a from rx)
   obtain⟨_,_,_,n,_,h1⟩:=(show dS X.prog X.w H s.heap a (.iO ob (.lst xs))from I.aP a _ ea)
   exact PySem.W.kia_one PySem.W.kitx_list I.gK ⟨_,h1,rfl⟩ e (fun z=>nomatch z) h
 | @tup a xs ea=>
   cases (show u=Value.ref a from rx)
   obtain⟨_,_,_,p⟩:=(show dS X.prog X.w H s.heap a (.tup xs)from I.aP a _ ea)
   obtain⟨o,h1,h2,_⟩:=p
   exact PySem.W.kia_one PySem.W.kitx_tuple I.gK ⟨o,h1,h2⟩ e (fun z=>nomatch z) h
 | @dK a kvs ea=>
   cases (show u=Value.ref a from rx)
   obtain⟨_,_,vs,_,p⟩:=(show dS X.prog X.w H s.heap a (.dK kvs)from I.aP a _ ea)
   obtain⟨o,es,ep,h1,h2,_⟩:=p
   exact PySem.W.kia_one PySem.W.kitx_dict I.gK ⟨o,h1,h2.1⟩ e (fun z=>nomatch z) h
 | @dT a kvs ea=>
   cases (show u=Value.ref a from rx)
   obtain⟨_,_,xs,_,o,es,ep,h1,h2,_⟩:=(show dS X.prog X.w H s.heap a (.dT kvs)from I.aP a _ ea)
   exact PySem.W.kia_one PySem.W.kitx_dict I.gK ⟨o,h1,h2.1⟩ e (fun z=>nomatch z) h
 | @ins a C dx fs ea cl ha hn htk hm=>
   cases (show u=Value.ref a from rx)
   obtain⟨mA,O,_⟩:=pL I.aP ea
   obtain⟨od,J,_⟩:=O.look
   exact PySem.W.kia_one (PySem.W.kitx_own (cl.get _) cl.hd ha hn htk hm) I.gK J e (fun z=>nomatch z) h
end
end L2
namespace L2
open PySem PySem.Spec PyProof.Rows
structure dj(k:Nat)(A:Around):Prop where
 hd:A.handled=none
 dp:A.depth+3*k+105<recursionLimit
 un:A.units+16*k+200<cLine
theorem dj.mono{j k:Nat}{A:Around}(r:dj k A)(h:j≤k):dj j A:=⟨r.hd,by have:=r.dp;omega,by have:=r.un;omega⟩
theorem dj.deeper{k:Nat}{A:Around}(r:dj (k+1) A)(env:Env):dj k (A.deeper env):=
 ⟨r.hd,by have:=r.dp;show A.depth+1+3*k+105<_;omega,by have:=r.un;show A.units+3+16*k+200<_;omega⟩
theorem y_{A:Around}{C:Addr}{us:List Value}{kw:List (Str×Value)}:(A.under (.builtin "type.__call__" ⟨.ref C::us,kw⟩)).depth=A.depth+1:=by
 first|rfl|simp[Around.under,Code.weight,Code.isCreation,Code.isGuard,Code.isCaller,Code.frames,Code.isFrame,guardIds]
theorem yM{A:Around}{C:Addr}{us:List Value}{kw:List (Str×Value)}:(A.under (.builtin "type.__call__" ⟨.ref C::us,kw⟩)).units=A.units+1:=by
 first|rfl|simp[Around.under,Code.cUnits,Code.frames,Code.isFrame]
theorem dj.make{k:Nat}{A:Around}(r:dj (k+1) A)(C:Addr)(us:List Value)(kw:List (Str×Value)):dj k (A.under (.builtin "type.__call__" ⟨.ref C::us,kw⟩)):=
 ⟨r.hd,by have:=r.dp;rw[y_];omega,by have:=r.un;rw[yM];omega⟩
theorem dj.depth{k:Nat}{A:Around}(r:dj k A):A.depth<recursionLimit:=by have:=r.dp;omega
theorem dj.units{k:Nat}{A:Around}(r:dj k A):A.units+64<cLine:=by have:=r.un;omega
noncomputable def FQ:TA:=fun _ H Q=>Q [] H
noncomputable def IM(ta:TE)(tr:TA):TA:=fun σ H Q=>ta σ H fun x H1=>tr σ H1 fun xs H2=>Q (x::xs) H2
section
variable {X:Cx}{e:Expr}{es:List Expr}{te:TE}{t:TA}{pos:Pos}
theorem GC:PA X [] FQ:=fun _ _ _ _ H Q I h=>Calls.spliced_nil ⟨[],H,I,.nil,h⟩
theorem E9(ha:PE X e te)(hr:PA X es t)(hs:starEach (e::es) X.env=(false,eval e X.env)::starEach es X.env:=by rfl):PA X (e::es) (IM te t):=by
 intro pos pins s σ H Q I h
 rw[hs]
 show wpAny _ _ (spliced ((false,eval e X.env)::backTo pos (starEach es X.env))) _ _ s
 refine Calls.spliced_cons (bD (ha pins s σ H _ I h) fun u s1 ⟨x,H1,I1,r1,q1⟩=>?_)
 exact bD (hr pos pins s1 σ H1 _ I1 q1) fun us s2 ⟨xs,H2,I2,r2,q2⟩=>⟨x::xs,H2,I2,.cons r1 r2,q2⟩
noncomputable def K1(t:TA):TE:=fun σ H Q=>t σ H fun xs H1=>xs.length≤sizeLine∧∀p,H1 p=none→Q (.ref p) (upd H1 p (.tup xs))
noncomputable def KH(t:TA):TE:=fun σ H Q=>t σ H fun xs H1=>xs.length≤sizeLine∧∀p,H1 p=none→Q (.ref p) (upd H1 p (.lst xs))
theorem FN{x1}(h:PA X es t):PE X (.Tuple es x1 pos) (K1 t):=by
 intro pins s σ H Q I hq
 refine wpAny_Tuple_spliced (bD (h pos pins s σ H _ I hq) fun us s1 ⟨xs,H1,I1,r,z,q⟩=>⟨by rw[←r.length];exact z,?_⟩)
 have hf:H1 s1.heap.objs.size=none:=I1.aP.fresh (Nat.le_refl _)
 refine⟨.ref s1.heap.objs.size,upd H1 s1.heap.objs.size (.tup xs),I1.laid (t':=s1.toks) (fun b u e=>Heap.get?_push_of_some _ e) (Nat.le_refl _) ?_,rfl,q _ hf⟩
 exact⟨z,us,r,⟨_,Heap.get?_push_size _ rfl,rfl,_,rfl⟩⟩
theorem AZ(h:PA X es t):PE X (.List es pos) (KH t):=by
 intro pins s σ H Q I hq
 refine wpAny_List_spliced (bD (h pos pins s σ H _ I hq) fun us s1 ⟨xs,H1,I1,r,z,q⟩=>⟨by rw[←r.length];exact z,?_⟩)
 have hf:H1 s1.heap.objs.size=none:=I1.aP.fresh (Nat.le_refl _)
 refine⟨.ref s1.heap.objs.size,upd H1 s1.heap.objs.size (.lst xs),I1.laid (t':=s1.toks) (fun b u e=>Heap.get?_push_of_some _ e) (Nat.le_refl _) ?_,rfl,q _ hf⟩
 exact⟨z,us,0,r,Heap.get?_push_size _ rfl⟩
end
noncomputable abbrev Sp:=List V→Hp→VK→XK→Prop
noncomputable abbrev qf:=List Env→Hp→Shared→XK→Value→Shared→Prop
structure qF(P:Program)(w:World)(K:PySem.W.Frag)(mg:Str→Option Value)(base:Heap)(A:Around)(outer:List Env)(s:Shared)(H:Hp):Prop where
 frames:A.frames=some outer
 mod:Mod K mg base
 bs:∀b o,base.get? b=some o→s.heap.get? b=some o∧H b=none
 rS:base.objs.size≤s.heap.objs.size
 jR:s.heap.FunFrames base outer
 t5:∀b∈mZ outer,H b=none
 aP:g6 P w H s.heap
 bare:AllBare s.gens
 gt:P.given.tree=none
noncomputable def CE(outer:List Env)(P:Program)(w:World)(H:Hp)(s:Shared)(Q:VK)(u:Value)(s':Shared):Prop:=
 ∃v H',s'.os=s.os∧AllBare s'.gens∧Un (mZ outer) [] H H' s.heap s'.heap∧g6 P w H' s'.heap∧RelV v u∧Q v H'
noncomputable def CR(CX:qf)(outer:List Env)(P:Program)(w:World)(H:Hp)(s:Shared)(Q:VK)(E:XK)(r:Result)(s':Shared):Prop:=
 match r with
 | .ok (.ret u)=>CE outer P w H s Q u s'
 | .ok _=>False
 | .error e=>CX outer H s E e s'
structure ay(P:Program)(w:World)(K:PySem.W.Frag)(mg:Str→Option Value)(base:Heap)(CX:qf)(k:Nat)(f:Addr)(fd:FuncData)(ps:List Str)(sp:Sp):Prop where
 len:∀vs H Q E,sp vs H Q E→vs.length=ps.length
 run:∀(A:Around) (outer:List Env) (s:Shared) (H:Hp) (args:Args) (us:List Value) (vs:List V) (Q:VK) (E:XK),dj k A→qF P w K mg base A outer s H→BindsTo s fd args (ps.zip us)→Vals vs us→sp vs H Q E→
  codeAny (model P w) A (.call (.ref f) args) (CR CX outer P w H s Q E) s
theorem ay.imp{P:Program}{w:World}{K:PySem.W.Frag}{mg:Str→Option Value}{base:Heap}{CX:qf}{k:Nat}{f:Addr}{fd:FuncData}{ps:List Str}{sp sp':Sp}(F:ay P w K mg base CX k f fd ps sp)
 (h:∀vs H Q E,sp' vs H Q E→sp vs H Q E):ay P w K mg base CX k f fd ps sp':=
 ⟨fun vs H Q E q=>F.len vs H Q E (h _ _ _ _ q),fun A outer s H args us vs Q E hr he hb hv hs=>F.run A outer s H args us vs Q E hr he hb hv (h _ _ _ _ hs)⟩
theorem qF.make{P:Program}{w:World}{K:PySem.W.Frag}{mg:Str→Option Value}{base:Heap}{A:Around}{outer:List Env}{s:Shared}{H:Hp}(e:qF P w K mg base A outer s H)(C:Addr)(us:List Value)(kw:List (Str×Value)):
 qF P w K mg base (A.under (.builtin "type.__call__" ⟨.ref C::us,kw⟩)) outer s H:=⟨by first|exact e.frames|(simpa[Around.under,Code.envs,Code.isFrame,pushEnvs]using e.frames),e.mod,e.bs,e.rS,e.jR,e.t5,e.aP,e.bare,e.gt⟩
section
variable {X:Cx}{pins:List (Addr×Obj)}{σ:St}{H:Hp}{s s':Shared}
theorem Inv.Fp(I:Inv X pins σ H s):qF X.prog X.w X.K X.mg X.base X.A X.stack s H:=
 ⟨I.ok.frames,I.ok.mod,I.bs,Nat.le_trans I.ok.rS I.sz,I.stack,I.xT,I.aP,I.bare,I.ok.gt⟩
theorem Inv.after{Q:VK}{u:Value}(I:Inv X pins σ H s)(h:CE X.stack X.prog X.w H s Q u s'):EP X pins σ Q u s':=by
 obtain⟨v,H',os,bare,un,aP,r,q⟩:=h
 obtain⟨hh,g,d,t,os'⟩:=s'
 obtain rfl:os'=s.os:=os
 exact⟨v,H',I.call (h':=hh) (g':=g) (d':=d) (t':=t) (ch:=[]) un aP bare (fun b z=>absurd z (by simp)),r,q⟩
end
noncomputable def Dl(sp:Sp)(dvs:List V)(E:XK)(t:TA):TE:=fun σ H Q=>t σ H fun vs H1=>sp (vs++dvs) H1 Q E
noncomputable def zj(C:Addr)(m:Str)(sp:Sp)(dvs:List V)(E:XK)(ta:TE)(t:TA):TE:=fun σ H Q=>ta σ H fun x H1=>∃a dx fs,x= .ref a∧H1 a=some (.ins C dx fs)∧fs.lookup m=none∧
 t σ H1 fun vs H2=>sp (x::(vs++dvs)) H2 Q E
noncomputable def Dj(C:Addr)(sp:Sp)(dvs:List V)(E:XK)(t:TA):TE:=fun σ H Q=>t σ H fun vs H1=>∀x dx,H1 x=none→H1 dx=none→dx≠x→
 sp (.ref x::(vs++dvs)) (upd (upd H1 dx (.own x)) x (.ins C dx [])) (fun v H2=>v= .aH∧Q (.ref x) H2) E
noncomputable def Binds(K:PySem.W.Frag)(fd:FuncData)(ps:List Str)(ds:List Value):Prop:=
 ∀(s:Shared) (us:List Value),K.In s.heap→(us++ds).length=ps.length→BindsTo s fd ⟨us,[]⟩ (ps.zip (us++ds))
theorem Binds.all{K:PySem.W.Frag}{fd:FuncData}{ps:List Str}(h:∀us:List Value,us.length=ps.length→bindArgs fd ⟨us,[]⟩=pure (ps.zip us)):Binds K fd ps []:=fun s us _ hl=>by
 rw[List.append_nil]at hl⊢
 exact .of_eq (h us hl)
noncomputable def Passes(CX:qf)(X:Cx)(E:XK):Prop:=∀(pins:List (Addr×Obj)) (σ:St) (H:Hp) (s:Shared) (e:Value) (s':Shared),Inv X pins σ H s→CX X.stack H s E e s'→X.xe e s'
section
variable {X:Cx}{CX:qf}{k:Nat}{f C:Addr}{fd:FuncData}{ps:List Str}{sp:Sp}{dvs:List V}{ds:List Value}{E:XK}{x m:Str}{p pos apos:Pos}{e o:Expr}{es:List Expr}{ta:TE}{t:TA}
theorem vT{pins:List (Addr×Obj)}{σ:St}{H:Hp}{s:Shared}{Q:VK}{us:List Value}{vs:List V}(F:ay X.prog X.w X.K X.mg X.base CX k f fd ps sp)(hr:dj k X.A)(hb:Binds X.K fd ps ds)(hd:Vals dvs ds)(hx:Passes CX X E)
 (I:Inv X pins σ H s) (r:Vals vs us) (h:sp (vs++dvs) H Q E):wpAny (model X.prog X.w) X.A (call (.ref f) us) (EP X pins σ Q) X.xe s:=by
 have r2:Vals (vs++dvs) (us++ds):=r.append hd
 have hl:(us++ds).length=ps.length:=by rw[←r2.length];exact F.len _ _ _ _ h
 refine wpAny_call (codeAny_mono (F.run X.A X.stack s H ⟨us,[]⟩ (us++ds) (vs++dvs) Q E hr I.Fp (hb s us I.gK hl) r2 h) fun r s' hq=>?_)
 cases r with
 |error e=>exact hx pins σ H s e s' I hq
 |ok fl=>
  cases fl with
  |ret u=>exact I.after hq
  |next=>exact False.elim hq
  |brk=>exact False.elim hq
  |cont=>exact False.elim hq
theorem Ek(F:ay X.prog X.w X.K X.mg X.base CX k f fd ps sp)(hr:dj k X.A)(hg:Gl X x)(hm:X.mg x=some (.ref f))(hk:PySem.W.keepIn X.K (.ref f)=true)(hb:Binds X.K fd ps ds)(hd:Vals dvs ds)(hx:Passes CX X E)
 (ha:PA X (e::es) t) (hdb:(x==("__debug__":Str))=false:=by decide) (he:starEach (e::es) X.env=(false,eval e X.env)::starEach es X.env:=by rfl) (hpl:(backTo pos (starEach es X.env)).any (·.1)=false:=by rfl):
 PE X (.Call (.Name x p) (e::es) [] pos) (Dl sp dvs E t):=by
 intro pins s σ H Q I h
 refine wpAny_Call_Name_kw (xS I hg hm ?_ hdb)
 refine PySem.W.callWith_K (h₀:=X.base) I.ok.mod.AR hk (bD (ha pos pins s σ H _ I h) fun us s1 ⟨vs,H1,I1,r,q⟩=>⟨I1.gK,?_⟩) he hpl
 exact vT F hr hb hd hx I1 r q
theorem Er{pl:Sem Bool}(he:PE X o ta)(c:ku X.K C)(hm:Meth X.K C m f)(F:ay X.prog X.w X.K X.mg X.base CX k f fd ps sp)(hr:dj k X.A)(hb:Binds X.K fd ps ds)(hd:Vals dvs ds)(hx:Passes CX X E)(ha:PA X (e::es) t)
 (hst:starEach (e::es) X.env=(false,eval e X.env)::starEach es X.env:=by rfl) (hpl:(backTo pos (starEach es X.env)).any (·.1)=false:=by rfl)
 (ht:eval (.Call (.Attribute o m apos) (e::es) [] pos) X.env=(do
   let ov ←eval o X.env
   standAt apos.atName
   let(f,first) ←holding [ov] (getMethod ov m pl)
   callWith pos f first (backTo pos (starEach (e::es) X.env)) (backToKw pos (keywordEach [] X.env))):=by rfl):
 PE X (.Call (.Attribute o m apos) (e::es) [] pos) (zj C m sp dvs E ta t):=by
 intro pins s σ H Q I h
 refine PySem.W.methodCall_KW (pl:=pl) (bD (he pins s σ H _ I h) fun u s1 ⟨x,H1,I1,rx,a,dx,fs,ex,ea,l,q⟩=>?_) ht
 subst ex
 obtain rfl:u=Value.ref a:=rx
 refine qW I1 ea c hm l ?_
 refine PySem.W.callWith_K (first:=[.ref a]) (h₀:=X.base) I.ok.mod.AR hm.kp (bD (ha pos pins s1 σ H1 _ I1 q) fun us s2 ⟨vs,H2,I2,r,q2⟩=>⟨I2.gK,?_⟩) hst hpl
 exact vT (us:= .ref a::us) (vs:= .ref a::vs) F hr hb hd hx I2 (.cons rfl r) q2
theorem BK{pl:Sem Bool}(he:PE X o ta)(c:ku X.K C)(hm:Meth X.K C m f)(F:ay X.prog X.w X.K X.mg X.base CX k f fd ps sp)(hr:dj k X.A)(hb:Binds X.K fd ps ds)(hd:Vals dvs ds)(hx:Passes CX X E)
 (ht:eval (.Call (.Attribute o m apos) [] [] pos) X.env=(do
   let ov ←eval o X.env
   standAt apos.atName
   let(f,first) ←holding [ov] (getMethod ov m pl)
   callWith pos f first (backTo pos (starEach [] X.env)) (backToKw pos (keywordEach [] X.env))):=by rfl):
 PE X (.Call (.Attribute o m apos) [] [] pos) (zj C m sp dvs E ta FQ):=by
 intro pins s σ H Q I h
 refine PySem.W.methodCall_KW (pl:=pl) (bD (he pins s σ H _ I h) fun u s1 ⟨x,H1,I1,rx,a,dx,fs,ex,ea,l,q⟩=>?_) ht
 subst ex
 obtain rfl:u=Value.ref a:=rx
 refine qW I1 ea c hm l ?_
 exact PySem.W.callWith_K0 (first:=[.ref a]) I1.gK hm.kp (vT (us:=[.ref a]) (vs:=[.ref a]) F hr hb hd hx I1 (.cons rfl .nil) q)
structure Mk(K:PySem.W.Frag)(C f:Addr):Prop where
 makes:PySem.W.makesIn K C=true
 init:PySem.W.findIn K (.ref C) "__init__"=some (some (.ref f))
 fn:PySem.W.isFn K (.ref f)=true
 kp:PySem.W.keepIn K (.ref C)=true
theorem Bz{pins:List (Addr×Obj)}{σ:St}{H:Hp}{s:Shared}{Q:VK}{us:List Value}{vs:List V}(M:Mk X.K C f)(F:ay X.prog X.w X.K X.mg X.base CX k f fd ps sp)(hr:dj (k+1) X.A)(hb:Binds X.K fd ps ds)(hd:Vals dvs ds)
 (hx:Passes CX X E) (I:Inv X pins σ H s) (r:Vals vs us)
 (h:∀x dx,H x=none→H dx=none→dx≠x→sp (.ref x::(vs++dvs)) (upd (upd H dx (.own x)) x (.ins C dx [])) (fun v H2=>v= .aH∧Q (.ref x) H2) E):
 wpAny (model X.prog X.w) X.A (call (.ref C) us) (EP X pins σ Q) X.xe s:=by
 have hq:=h (s.heap.objs.size+1) s.heap.objs.size (I.aP.fresh (Nat.le_succ _)) (I.aP.fresh (Nat.le_refl _)) (Nat.ne_of_lt (Nat.lt_succ_self _))
 have I2:=Inv.made (C:=C) I
 have r2:Vals (V.ref (s.heap.objs.size+1)::(vs++dvs)) (Value.ref (s.heap.objs.size+1)::(us++ds)):= .cons rfl (r.append hd)
 have hl:(Value.ref (s.heap.objs.size+1)::us++ds).length=ps.length:=by
  have e:=r2.length
  rw[F.len _ _ _ _ hq]at e
  exact e.symm
 refine wpAny_call (CA (f:=f) I.gK M.makes M.init (beq_iff_eq.mp M.fn) (codeAny_mono (F.run _ X.stack _ _ ⟨Value.ref (s.heap.objs.size+1)::us,[]⟩ (Value.ref (s.heap.objs.size+1)::(us++ds)) _ _ E (hr.make C us [])
  (I2.Fp.make C us []) (hb _ (Value.ref (s.heap.objs.size+1)::us) I2.gK hl) r2 hq) fun r s' hq'=>?_))
 cases r with
 |error e=>exact hx pins σ _ _ e s' I2 hq'
 |ok fl=>
  cases fl with
  |ret u=>
   obtain⟨v,H',I3,rv,ev,q3⟩:=I2.after hq'
   subst ev
   exact⟨rv,⟨V.ref (s.heap.objs.size+1),H',I3,rfl,q3⟩⟩
  |next=>exact False.elim hq'
  |brk=>exact False.elim hq'
  |cont=>exact False.elim hq'
theorem Ej(M:Mk X.K C f)(F:ay X.prog X.w X.K X.mg X.base CX k f fd ps sp)(hr:dj (k+1) X.A)(hg:Gl X x)(hm:X.mg x=some (.ref C))(hb:Binds X.K fd ps ds)(hd:Vals dvs ds)(hx:Passes CX X E)
 (ha:PA X (e::es) t) (hdb:(x==("__debug__":Str))=false:=by decide) (he:starEach (e::es) X.env=(false,eval e X.env)::starEach es X.env:=by rfl) (hpl:(backTo pos (starEach es X.env)).any (·.1)=false:=by rfl):
 PE X (.Call (.Name x p) (e::es) [] pos) (Dj C sp dvs E t):=by
 intro pins s σ H Q I h
 refine wpAny_Call_Name_kw (xS I hg hm ?_ hdb)
 refine PySem.W.callWith_K (h₀:=X.base) I.ok.mod.AR M.kp (bD (ha pos pins s σ H _ I h) fun us s1 ⟨vs,H1,I1,r,q⟩=>⟨I1.gK,?_⟩) he hpl
 exact Bz M F hr hb hd hx I1 r q
end
section
variable {X:Cx}{CX:qf}{k:Nat}{f C:Addr}{fd:FuncData}{ps ks:List Str}{sp:Sp}{E:XK}{x m:Str}{p pos apos kpos:Pos}{e o:Expr}{es:List Expr}{kws:List Keyword}{te ta:TE}{t tk:TA}{nm:Option Str}
variable {g:List Value→List Value→List Value}{gV:List V→List V→List V}
end
structure bb(N P:List Str)(sc:Scope):Prop where
 kind:sc.kind= .function
 co:sc.isCoroutine=false
 gen:sc.isGenerator=false
 nd:N.Nodup
 pre:N.take P.length=P
 par:∀x∈P,sc.names.lookup x=some .local∨sc.names.lookup x=some .cell
 HM:∀y∈sc.names,y.2≠ .free
theorem tU{kindOf:Str→Option NameKind}{x:Str}:∀ {binds:List (Str×Value)} {m:Str→Option Value},(∀v,(x,v)∉binds)→bindL kindOf binds m x=m x
 | [],_,_=>rfl
 |(n,v)::r,m,h=>by
  unfold bindL
  rw[tU fun w hw=>h w (List.mem_cons_of_mem _ hw)]
  split
  · have:x≠n:=by rintro rfl;exact h v List.mem_cons_self
    simp[this]
  · rfl
theorem tK{kindOf:Str→Option NameKind}{x:Str}:∀ {binds:List (Str×Value)} {m:Str→Option Value},(∀v,(x,v)∉binds)→bindC kindOf binds m x=m x
 | [],_,_=>rfl
 |(n,v)::r,m,h=>by
  unfold bindC
  rw[tK fun w hw=>h w (List.mem_cons_of_mem _ hw)]
  split
  · rfl
  · have:x≠n:=by rintro rfl;exact h v List.mem_cons_self
    simp[this]
theorem tL{kindOf:Str→Option NameKind}{x:Str}{v:Value}:∀ {P:List Str} {vs:List Value} {i:Nat} {m:Str→Option Value},P.Nodup→P[i]?=some x→vs[i]?=some v→kindOf x=some .local→
 bindL kindOf (P.zip vs) m x=some v
 | [],_,_,_,_,h,_,_=>by simp at h
 |_::_,[],_,_,_,_,h,_=>by simp at h
 |p::P,w::vs,0,m,nd,h1,h2,hk=>by
  simp at h1 h2;subst h1;subst h2
  show bindL kindOf ((p,w)::P.zip vs) m p=_
  unfold bindL
  rw[tU fun v hv=>(List.nodup_cons.mp nd).1 (List.of_mem_zip hv).1,if_pos hk]
  simp
 |p::P,w::vs,i+1,m,nd,h1,h2,hk=>by
  show bindL kindOf ((p,w)::P.zip vs) m x=_
  unfold bindL
  exact tL (i:=i) (List.nodup_cons.mp nd).2 (by simpa using h1) (by simpa using h2) hk
theorem tX{kindOf:Str→Option NameKind}{x:Str}{v:Value}:∀ {P:List Str} {vs:List Value} {i:Nat} {m:Str→Option Value},P.Nodup→P[i]?=some x→vs[i]?=some v→kindOf x≠some .local→
 bindC kindOf (P.zip vs) m x=some v
 | [],_,_,_,_,h,_,_=>by simp at h
 |_::_,[],_,_,_,_,h,_=>by simp at h
 |p::P,w::vs,0,m,nd,h1,h2,hk=>by
  simp at h1 h2;subst h1;subst h2
  show bindC kindOf ((p,w)::P.zip vs) m p=_
  unfold bindC
  rw[tK fun v hv=>(List.nodup_cons.mp nd).1 (List.of_mem_zip hv).1,if_neg hk]
  simp
 |p::P,w::vs,i+1,m,nd,h1,h2,hk=>by
  show bindC kindOf ((p,w)::P.zip vs) m x=_
  unfold bindC
  exact tX (i:=i) (List.nodup_cons.mp nd).2 (by simpa using h1) (by simpa using h2) hk
noncomputable def start(N:List Str)(vs:List V):St:=vs.map some++List.replicate (N.length-vs.length) none
noncomputable def pf(CX:qf)(P:Program)(w:World)(K:PySem.W.Frag)(mg:Str→Option Value)(base:Heap)(N:List Str)(qual:Str)(scope:Scope)(f:Addr)(cd:Value)(A:Around)(outer:List Env)(s:Shared)(H:Hp)(E:XK):Cx where
 prog:=P
 w:=w
 K:=K
 mg:=mg
 base:=base
 A:=A.deeper (envOfC qual scope s.heap.objs.size f cd)
 N:=N
 s₀:=s
 H₀:=H
 env:=envOfC qual scope s.heap.objs.size f cd
 outer:=outer
 stack:=envOfC qual scope s.heap.objs.size f cd::outer
 ex:=[]
 calm:=true
 fn:=fun _=>true
 pn:=[]
 xe:=fun e s'=>wpAny (model P w) (A.deeper (envOfC qual scope s.heap.objs.size f cd)) (leaving (envOfC qual scope s.heap.objs.size f cd) e) (fun _ s''=>CX outer H s E e s'') (fun e' s''=>CX outer H s E e' s'') s'
theorem vz{sc:Scope}{n:Nat}{x:Str}(h:sc.names.lookup x=some .cell):∃c,(cellsFrom n sc.names []).lookup x=some c:=by
 have q:=PySem.W.cellsFrom_some sc.names n [] (.inl h)
 exact Option.isSome_iff_exists.mp q
theorem Au{CX:qf}{P:Program}{w:World}{K:PySem.W.Frag}{mg:Str→Option Value}{base:Heap}{N ps:List Str}{qual:Str}{scope:Scope}{f:Addr}{cd:Value}{A:Around}{outer:List Env}{s s1:Shared}{H:Hp}{E:XK}{us:List Value}{vs:List V}
 (S:bb N ps scope) (hd:A.handled=none) (e0:qF P w K mg base A outer s H) (hl:vs.length=ps.length) (r:Vals vs us)
 (x:InCallC s s.heap.objs.size (bindL (envOfC qual scope s.heap.objs.size f cd).kindOf (ps.zip us) fun _=>none) (cellsFrom (s.heap.objs.size+1) scope.names []) (bindC (envOfC qual scope s.heap.objs.size f cd).kindOf (ps.zip us) fun _=>none) s1):
 Inv (pf CX P w K mg base N qual scope f cd A outer s H E) [] (start N vs) H s1:=by
 have hpl:ps.length≤N.length:=by have:=congrArg List.length S.pre;rw[List.length_take]at this;omega
 obtain⟨h1,tk,rfl,hk⟩:=x.done
 have noA:∀b:Addr,b∉(pf CX P w K mg base N qual scope f cd A outer s H E).ex:=fun b z=>absurd (show b∈([]:List Addr)from z) (by simp)
 refine⟨⟨e0.mod,S.kind,rfl,rfl,Nat.le_refl _,fun y z c h1 h2=>?_,fun y hy=>?_,fun y c _ h=>?_,fun _=>hd,Around.frames_deeper e0.frames,.inr ⟨rfl,rfl⟩,fun b z=>absurd z (noA b),e0.bs,e0.rS,fun b _ _=>noA b,fun b z=>absurd z (noA b),e0.jR,e0.t5,e0.gt⟩,
  rfl,e0.bare,Un.kept hk,⟨_,x.toInCall.ns,fun i y v h1 h2 h3=>?_⟩,fun y c h=>⟨_,x.cell y c h⟩,e0.aP.fresh (Nat.le_refl _),fun y c h=>?_,fun p hp=>absurd (show p∈([]:List (Addr×Obj))from hp) (by simp),e0.aP.kept hk,?_⟩
 · exact name_of_addr x.apart (PySem.mem_of_lookup h1) (PySem.mem_of_lookup h2)
 · have hy:scope.names.lookup y=some .cell∨scope.names.lookup y=some .free:=hy
   rcases hy with hy|hy
   · exact vz hy
   · exact absurd rfl (S.HM _ (PySem.mem_of_lookup hy))
 · exact Nat.le_of_lt (x.above y c (PySem.mem_of_lookup h))
 · have hi:i<vs.length:=by
    unfold start at h2
    by_cases hi:i<vs.length
    · exact hi
    · rw[List.getElem?_append_right (by simpa using hi)]at h2
      rw[List.getElem?_replicate]at h2
      split at h2<;>cases h2
   have ha:vs[i]?=some v:=by
    unfold start at h2
    rw[List.getElem?_append_left (by simpa using hi),List.getElem?_map]at h2
    cases e:vs[i]? with
    |none=>rw[e]at h2;cases h2
    |some a=>rw[e]at h2;cases h2;rfl
   obtain⟨u,hu,rv⟩:=r.get ha
   have hp:ps[i]?=some y:=by
    rw[←S.pre,List.getElem?_take_of_lt (by omega)];exact h1
   have ndP:ps.Nodup:=by rw[←S.pre];exact S.nd.sublist (List.take_sublist _ _)
   refine⟨u,rv,?_⟩
   rcases S.par y (List.mem_of_getElem? hp)with k|k
   · exact .inl ⟨k,tL ndP hp hu k⟩
   · obtain⟨c,e⟩:=vz (n:=s.heap.objs.size+1) k
     refine .inr ⟨.inl k,c,e,?_⟩
     have q:=x.cell y c e
     rw[tX ndP hp hu (by show scope.names.lookup y≠_;rw[k];decide)]at q
     exact q
 · exact e0.aP.fresh (Nat.le_of_lt (x.above y c (PySem.mem_of_lookup h)))
 · unfold start
   show _=N.length
   rw[List.length_append,List.length_map,List.length_replicate]
   omega
theorem I_{CX:qf}{P:Program}{w:World}{K:PySem.W.Frag}{mg:Str→Option Value}{base:Heap}{k:Nat}{f:Addr}{name qual:Str}{params:Arguments}{body:List Stmt}{scope:Scope}{dV kV doc pm cdv ct oc:Value}{an od:Option Addr}
 {osl:Array (Option Value)} {N ps:List Str} {sp:Sp} (lk:K.lookup f=some ⟨oc,od,.func (PySem.W.fnOf name qual params body scope dV kV doc pm an cdv ct),osl⟩) (hcd:PySem.W.codeIn K cdv qual=true) (S:bb N ps scope)
 (len:∀vs H Q E,sp vs H Q E→vs.length=ps.length)
 (hbody:∀(A:Around) (outer:List Env) (s:Shared) (H:Hp) (vs:List V) (Q:VK) (E:XK),dj k (A.deeper (envOfC qual scope s.heap.objs.size f cdv))→sp vs H Q E→
   ∃t,gL (pf CX P w K mg base N qual scope f cdv A outer s H E) body t∧t {nx:=fun _ H'=>Q .aH H',rt:=Q} (start N vs) H):
 ay P w K mg base CX (k+1) f (PySem.W.fnOf name qual params body scope dV kV doc pm an cdv ct) ps sp:=by
 refine⟨len,fun A outer s H args us vs Q E hr e0 hb r hsp=>?_⟩
 have hl:=len _ _ _ _ hsp
 have KX:K.In s.heap:=e0.mod.AR.keeps fun b o e=>(e0.bs b o e).1
 have lim:s.heap.NoLimit:=e0.mod.nolimit.keeps fun b o e=>(e0.bs b o e).1
 have hkind:∀y∈ps.zip us,scope.names.lookup y.1=some .local∨(scope.names.lookup y.1=some .cell∧((cellsFrom (s.heap.objs.size+1) scope.names []).lookup y.1).isSome=true):=fun⟨n,v⟩ hy=>by
  rcases S.par n (List.of_mem_zip hy).1 with q|q
  · exact .inl q
  · exact .inr ⟨q,PySem.W.cellsFrom_some _ _ _ (.inl q)⟩
 refine codeAny_call_function hr.depth (KX _ _ lk) rfl S.co S.gen rfl (PySem.W.codeRec_of KX hcd) (hb _ _ _ _ ?_)
 refine wpAny_newFunctionEnv_cells S.kind hkind fun env he s1 x=>?_
 subst he
 refine⟨lim.keeps x.toInCall.keep,codeAny_func ?_⟩
 obtain⟨t,ht,hq⟩:=hbody A outer s H vs Q E (hr.deeper _) hsp
 have I:Inv (pf CX P w K mg base N qual scope f cdv A outer s H E) [] (start N vs) H s1:=Au S hr.hd e0 hl r x
 refine wpAny_mono (ht [] s1 (start N vs) H _ I hq) (fun fl s' hs=>?_) fun e s' hs=>hs
 have fin:∀ {σ':St} {H':Hp} {v:V} {u:Value},Inv (pf CX P w K mg base N qual scope f cdv A outer s H E) [] σ' H' s'→RelV v u→Q v H'→CE outer P w H s Q u s':=
  fun{σ' H' v u} J rv q=>⟨v,H',J.os,J.bare,J.base,J.aP,rv,q⟩
 cases fl with
 |ret u=>
  obtain⟨v,σ',H',J,rv,q⟩:=hs
  exact fin J rv q
 |next=>
  obtain⟨σ',H',J,q⟩:=hs
  exact fin (v:=V.aH) (u:=Value.none) J rfl q
 |brk=>
  obtain⟨_,_,_,q⟩:=hs
  exact False.elim q
 |cont=>
  obtain⟨_,_,_,q⟩:=hs
  exact False.elim q
end L2
namespace L2
open PySem PySem.Spec PyProof.Rows
section
variable {X:Cx}{x:Str}{p pos:Pos}{e:Expr}{es:List Expr}{t:TA}{id T:String}{r:List V→Hp→VK→Prop}
noncomputable def HR(r:List V→Hp→VK→Prop)(t:TA):TE:=fun σ H Q=>t σ H fun vs H1=>r vs H1 Q
theorem BB(hc:bJ X (.builtin id) r)(hg:Gl X x)(hm:X.mg x=none)(hv:bootBuiltins x=some (.builtin id))(ha:PA X (e::es) t)(hn:x≠"__name__":=by decide)(hdb:(x==("__debug__":Str))=false:=by decide)
 (he:starEach (e::es) X.env=(false,eval e X.env)::starEach es X.env:=by rfl) (hpl:(backTo pos (starEach es X.env)).any (·.1)=false:=by rfl):PE X (.Call (.Name x p) (e::es) [] pos) (HR r t):=by
 intro pins s σ H Q I h
 refine wpAny_Call_Name_kw (kq I hg hm hv ?_ hn hdb)
 exact PyProof.Rows.callWith_builtin1 (bD (ha pos pins s σ H _ I h) fun us s1 ⟨vs,H1,I1,r1,q1⟩=>hc pins s1 σ H1 vs us Q I1 r1 q1) he hpl
theorem zV(hc:bJ X (.type T) r)(hg:Gl X x)(hm:X.mg x=none)(hv:bootBuiltins x=some (.type T))(ha:PA X (e::es) t)(hn:x≠"__name__":=by decide)(hdb:(x==("__debug__":Str))=false:=by decide)
 (he:starEach (e::es) X.env=(false,eval e X.env)::starEach es X.env:=by rfl) (hpl:(backTo pos (starEach es X.env)).any (·.1)=false:=by rfl):PE X (.Call (.Name x p) (e::es) [] pos) (HR r t):=by
 intro pins s σ H Q I h
 refine wpAny_Call_Name_kw (kq I hg hm hv ?_ hn hdb)
 exact PyProof.Rows.callWith_type1 (bD (ha pos pins s σ H _ I h) fun us s1 ⟨vs,H1,I1,r1,q1⟩=>hc pins s1 σ H1 vs us Q I1 r1 q1) he hpl
end
end L2
namespace HT
open PySem PyProof.Rows
section
open PySem.SeqAt
open PySem.AutoSeq1 (wpAny_loadPart')
open PySem.MeetsSeq PySem.MeetsSeq2 PySem.MeetsSeq3
end
section
variable {prog:Program}{w:World}{A:Around}{E:Value→Shared→Prop}{s:Shared}
theorem Eb{t b:Addr}{vs ws:List Value}{Q:Value→Shared→Prop}(ht:IsTup s.heap t vs.toArray)(hb:IsTup s.heap b ws.toArray)(hv:vs≠ [])
 (h1:ws=[]→Q (.ref t) s) (h2:ws≠ []→Q (.ref s.heap.objs.size) {s with heap:=s.heap.push {cls:= .type "tuple",data:= .seq (vs++ws).toArray}})
 (hsz:vs.length+ws.length≤sizeLine):wpAny (model prog w) A (binaryOp .Add (.ref t) (.ref b)) Q E s:=by
 obtain⟨⟨cls,dd,data,sl⟩,ho,hc,n,hd⟩:=id ht
 obtain⟨⟨cls2,dd2,data2,sl2⟩,ho2,hc2,n2,hd2⟩:=id hb
 simp only at hc hd hc2 hd2
 subst hc hd hc2 hd2
 have e:vs.toArray++ws.toArray=(vs++ws).toArray:=by simp
 by_cases hw:ws=[]
 · exact concat_meets ⟨_,ho,rfl⟩ ⟨_,ho2,rfl⟩ noFill_tuple_add seq_tuple_add PySem.F.slot_tuple_add PySem.F.entry_tuple_add (PySem.F.args_tuple_add_2 _ _)
    (tuple_addW1 t b vs.toArray ws.toArray n n2 dd dd2 sl sl2 (by simpa using hv) (by simp[hw])) ⟨ho,ho2,h1 hw⟩
 · refine concat_meets ⟨_,ho,rfl⟩ ⟨_,ho2,rfl⟩ noFill_tuple_add seq_tuple_add PySem.F.slot_tuple_add PySem.F.entry_tuple_add (PySem.F.args_tuple_add_2 _ _)
    (tuple_addW2 t b vs.toArray ws.toArray n n2 dd dd2 sl sl2 (by simpa using hv) (by simpa using hw) (by rw[List.size_toArray,List.size_toArray];exact hsz)) ⟨ho,ho2,?_⟩
   rw[e]
   exact h2 hw
noncomputable def bV(n d:Nat):Option Int→Nat
 |none=>d
 |some v=>if v<0 then(v+(n:Int)).toNat else min v.toNat n
theorem uX(n d:Nat):bV n d none=d:=rfl
theorem xR(n d k:Nat):bV n d (some (k:Int))=min k n:=by
 show(if(k:Int)<0 then((k:Int)+(n:Int)).toNat else min (k:Int).toNat n)=min k n
 rw[if_neg (by omega),Int.toNat_natCast]
theorem Fu(n d:Nat)(hd:d≤n)(o:Option Int):bV n d o≤n:=by
 cases o with
 |none=>exact hd
 |some v=>
  show(if v<0 then(v+(n:Int)).toNat else min v.toNat n)≤n
  by_cases hv:v<0
  · rw[if_pos hv];omega
  · rw[if_neg hv];exact Nat.min_le_right _ _
theorem xn(v:Int)(n d:Nat):(if v<0 then max (v+(n:Int)) 0 else min v (n:Int))=((bV n d (some v):Nat):Int):=by
 show(if v<0 then max (v+(n:Int)) 0 else min v (n:Int))=(((if v<0 then(v+(n:Int)).toNat else min v.toNat n):Nat):Int)
 by_cases hv:v<0
 · simp only[if_pos hv];omega
 · simp only[if_neg hv];omega
theorem yW(lo hi:Option Int)(n:Nat):Builtin.Slice.sliceAdjust lo hi 1 (n:Int)=(((bV n 0 lo:Nat):Int),((bV n n hi:Nat):Int)):=by
 have h1:¬((1:Int)<0):=by omega
 unfold Builtin.Slice.sliceAdjust
 simp only[h1,if_false]
 refine Prod.ext ?_ ?_
 · cases lo with
   |none=>rfl
   |some v=>exact xn v n 0
 · cases hi with
   |none=>rfl
   |some v=>exact xn v n n
theorem zk(i j:Nat):Builtin.Slice.slicePlaces (i:Int) (j:Int) 1=j-i:=by
 unfold Builtin.Slice.slicePlaces
 have h1:(1:Int)>0:=by omega
 simp only[h1,if_true,Int.ediv_one]
 split<;>omega
theorem rL{v:Value}{o:Option Int}{Q:Option Int→Shared→Prop}(p:IsPart v o)(h:Q o s):wpAny (model prog w) A (Builtin.Slice.slicePartIndex v) Q E s:=by
 cases p with
 |none=>exact slicePart_none h
 |int i t=>exact slicePart_int h
theorem lI{sl:Addr}{vl vu:Value}{lo hi:Option Int}{n:Nat}{Q:Int×Int×Nat→Shared→Prop}(hs:s.heap.IsSliceOf sl vl vu .none)(pl:IsPart vl lo)(pu:IsPart vu hi)
 (h:Q (((bV n 0 lo:Nat):Int),1,bV n n hi-bV n 0 lo) s):wpAny (model prog w) A (Builtin.Slice.sliceApplied (.ref sl) (pure (n:Int))) Q E s:=by
 obtain⟨os,hos,hcs,hds⟩:=id hs
 unfold Builtin.Slice.sliceApplied Builtin.Slice.sliceFields
 refine wpAny_bind (wpAny_bind (wpAny_field hos hds (x:=vl) rfl (wpAny_bind (wpAny_field hos hds (x:=vu) rfl (wpAny_bind (wpAny_field hos hds (x:= .none) rfl (wpAny_pure ?_)))))))
 refine wpAny_bind (slicePart_none ?_)
 show wpAny _ _ (if((1:Int)==0)=true then _ else _) _ _ s
 rw[if_neg (by decide)]
 refine wpAny_bind (rL pl (wpAny_bind (rL pu (wpAny_bind (wpAny_pure ?_)))))
 show wpAny _ _ (match Builtin.Slice.sliceAdjust lo hi 1 (n:Int)with|(lo,hi)=>pure (lo,(1:Int),Builtin.Slice.slicePlaces lo hi 1)) _ _ s
 rw[yW lo hi n]
 show wpAny _ _ (pure (((bV n 0 lo:Nat):Int),(1:Int),Builtin.Slice.slicePlaces ((bV n 0 lo:Nat):Int) ((bV n n hi:Nat):Int) 1)) _ _ s
 rw[zk]
 exact wpAny_pure h
theorem Bu(xs:Array Value)(i k:Nat):((List.range k).filterMap fun(m:Nat)=>xs[((i:Int)+(m:Int)*1).toNat]?).toArray=((xs.toList.drop i).take k).toArray:=by
 have e:(fun(m:Nat)=>xs[((i:Int)+(m:Int)*1).toNat]?)=fun m=>xs[i+m]?:=by
  funext m
  have:((i:Int)+(m:Int)*1).toNat=i+m:=by omega
  rw[this]
 rw[e]
 have:=pick_run xs i k
 rw[List.filterMap_map]at this
 have e2:((fun x=>xs[x]?)∘fun x=>i+x)=fun m=>xs[i+m]?:=rfl
 rw[e2]at this
 rw[this]
theorem pX{t sl:Addr}{items:Array Value}{vl vu:Value}{lo hi:Option Int}{Q:Value→Shared→Prop}(ht:IsTup s.heap t items)(hs:s.heap.IsSliceOf sl vl vu .none)(pl:IsPart vl lo)(pu:IsPart vu hi)
 (hw:¬(bV items.size 0 lo=0∧bV items.size items.size hi=items.size))
 (h:Q (.ref s.heap.objs.size) {s with heap:=s.heap.push {cls:= .type "tuple",data:= .seq ((items.toList.drop (bV items.size 0 lo)).take (bV items.size items.size hi-bV items.size 0 lo)).toArray}})
 (hsz:items.size≤sizeLine):wpAny (model prog w) A (getItem (.ref t) (.ref sl)) Q E s:=by
 have htake:sizeOk (.seq ((items.toList.drop (bV items.size 0 lo)).take (bV items.size items.size hi-bV items.size 0 lo)).toArray):=by
  show((items.toList.drop (bV items.size 0 lo)).take (bV items.size items.size hi-bV items.size 0 lo)).toArray.size≤sizeLine
  rw[List.size_toArray,List.length_take,List.length_drop,Array.length_toList]
  omega
 have hj:bV items.size items.size hi≤items.size:=Fu _ _ (Nat.le_refl _) hi
 obtain⟨os,hos,hcs,hds⟩:=id hs
 have hTs:s.TypeIs (.ref sl) "slice":=⟨os,hos,hcs⟩
 unfold getItem
 try with_reducible refine wpAny_holding ?_
 first|refine wpAny_bind (wpAny_pure ?_)|skip
 refine wpAny_bind (wpAny_sequenceKey ht.typeIs (by decide) ?_)
 refine wpAny_bind (wpAny_callSpecial?_slot (name:=Str.ofString "__getitem__") ht.typeIs PyProof.Rows.slot_tuple_getitem
  (wpAny_call_entry PyProof.Rows.slot_tuple_getitem ht.typeIs entry_tuple_getitem ?_ (args_tuple_getitem _ _)))
 show wpAny _ _ (Builtin.Tuple.tupleItemsOf (.ref t) >>= _) _ _ s
 refine wpAny_bind (tupleItemsOf_ ht ?_)
 refine wpAny_bind (wpAny_typeOf hTs ?_)
 rw[if_pos (by decide)]
 refine wpAny_bind (lI hs pl pu ?_)
 have hno:¬((((bV items.size 0 lo:Nat):Int)==0&&(1:Int)==1&&(bV items.size items.size hi-bV items.size 0 lo)==items.size)=true):=by
  intro q
  rw[Bool.and_eq_true,Bool.and_eq_true]at q
  have q1:((bV items.size 0 lo:Nat):Int)=0:=eq_of_beq q.1.1
  have q2:bV items.size items.size hi-bV items.size 0 lo=items.size:=eq_of_beq q.2
  exact hw ⟨by omega,by omega⟩
 show wpAny _ _ (if(((bV items.size 0 lo:Nat):Int)==0&&(1:Int)==1&&(bV items.size items.size hi-bV items.size 0 lo)==items.size)=true then _ else _) _ _ s
 rw[if_neg hno,Bu]
 first
  |exact wpAny_bind (m:=Builtin.Tuple.tupleExact _) (wpAny_newObj_type (wpAny_pure ⟨_,rfl,wpAny_pure h⟩) htake)
  |exact wpAny_bind (m:=Builtin.Tuple.tupleExact _) (wpAny_newObj_type (wpAny_bind (wpAny_pure (wpAny_pure ⟨_,rfl,wpAny_pure h⟩))) htake)
  |exact wpAny_bind (wpAny_bind (m:=Builtin.Tuple.tupleExact _) (wpAny_newObj_type (wpAny_pure (wpAny_pure ⟨_,rfl,wpAny_pure h⟩)) htake))
  |exact wpAny_bind (wpAny_bind (m:=Builtin.Tuple.tupleExact _) (wpAny_newObj_type (wpAny_pure ⟨_,rfl,wpAny_pure h⟩) htake))
end
end HT
namespace L2
open PySem PySem.Spec PyProof.Rows
noncomputable abbrev TO:=St→Hp→(Option Int→Hp→Prop)→Prop
noncomputable def PO(X:Cx)(e:Option Expr)(t:TO):Prop:=
 ∀(pins:List (Addr×Obj)) (s:Shared) (σ:St) (H:Hp) (Q:Option Int→Hp→Prop),Inv X pins σ H s→t σ H Q→
  wpAny (model X.prog X.w) X.A (evalPart e X.env) (fun u s'=>∃o H',Inv X pins σ H' s'∧IsPart u o∧Q o H') X.xe s
noncomputable def EV:TO:=fun _ H Q=>Q none H
noncomputable def Im(t:TE):TO:=fun σ H Q=>t σ H fun x H1=>∃i,x= .int i∧Q (some i) H1
section
variable {X:Cx}{e:Expr}{te:TE}{lo hi:Option Expr}{tl th:TO}{pos p2:Pos}
theorem Ei:PO X none EV:=by
 intro pins s σ H Q I h
 rw[evalPart_none]
 exact wpAny_pure ⟨none,H,I,.none,h⟩
theorem DG(h:PE X e te):PO X (some e) (Im te):=by
 intro pins s σ H Q I hw
 rw[evalPart_some]
 refine bD (h pins s σ H _ I hw) fun u s1 ⟨x,H1,I1,r1,q1⟩=>?_
 obtain⟨i,rfl,q⟩:=q1
 obtain⟨t,rfl⟩:=r1
 exact⟨some i,H1,I1,.int i t,q⟩
noncomputable def AU(X:Cx)(r:V→Option Int→Option Int→Hp→VK→Prop):Prop:=
 ∀(pins:List (Addr×Obj)) (s:Shared) (σ:St) (H:Hp) (x:V) (v vl vu:Value) (lo hi:Option Int) (sl:Addr) (Q:VK),Inv X pins σ H s→RelV x v→s.heap.IsSliceOf sl vl vu .none→IsPart vl lo→IsPart vu hi→r x lo hi H Q→
  ∃T id,typeLookup (.type T) "__getitem__"=pure (some (.builtin id))∧s.TypeIs v T∧wpAny (model X.prog X.w) X.A (getItem v (.ref sl)) (EP X pins σ Q) X.xe s
noncomputable def Lp(r:V→Option Int→Option Int→Hp→VK→Prop)(te:TE)(tl th:TO):TE:=fun σ H Q=>te σ H fun x H1=>tl σ H1 fun l H2=>th σ H2 fun u H3=>r x l u H3 Q
theorem BH{r:V→Option Int→Option Int→Hp→VK→Prop}(hr:AU X r)(he:PE X e te)(hl:PO X lo tl)(hu:PO X hi th):PE X (.Subscript e (.Slice lo hi none p2) pos) (Lp r te tl th):=by
 intro pins s σ H Q I h
 refine Subscript_ (bD (he pins s σ H _ I h) fun v s1 ⟨x,H1,I1,r1,q1⟩=>?_)
 refine wpAny_Slice (bD (hl pins s1 σ H1 _ I1 q1) fun vl s2 ⟨l,H2,I2,pl,q2⟩=>bD (hu pins s2 σ H2 _ I2 q2) fun vu s3 ⟨u,H3,I3,pu,q3⟩=>?_)
 rw[evalPart_none]
 refine wpAny_pure ?_
 have I4:Inv X pins σ H3 {s3 with heap:=s3.heap.push {cls:= .type "slice",data:= .fields #[vl,vu,.none]}}:=I3.kept (t':=s3.toks) fun b ob q=>Heap.get?_push_of_some _ q
 obtain⟨T,id,hT,ht,hg⟩:=hr pins {s3 with heap:=s3.heap.push {cls:= .type "slice",data:= .fields #[vl,vu,.none]}} σ H3 x v vl vu l u s3.heap.objs.size Q I4 r1 (Heap.IsSliceOf.new ..) pl pu q3
 show wpAny (model X.prog X.w) X.A (subscriptTail e (.Slice lo hi none p2) v (.ref s3.heap.objs.size)) (EP X pins σ Q) X.xe {s3 with heap:=s3.heap.push {cls:= .type "slice",data:= .fields #[vl,vu,.none]}}
 exact tail_any (ops:=[.ref s3.heap.objs.size,v]) ht hT hg (by with_unfolding_all rfl)
noncomputable def nG(xs:List V)(lo hi:Option Int):List V:=(xs.drop (HT.bV xs.length 0 lo)).take (HT.bV xs.length xs.length hi-HT.bV xs.length 0 lo)
theorem qm(xs:List V)(lo hi:Option Int):(nG xs lo hi).length≤xs.length:=by
 unfold nG
 rw[List.length_take,List.length_drop]
 omega
noncomputable def KN(K:PySem.W.Frag):V→Option Int→Option Int→Hp→VK→Prop:=fun x lo hi H Q=>∃a xs,x= .ref a∧ia K H a xs∧
 ¬(HT.bV xs.length 0 lo=0∧HT.bV xs.length xs.length hi=xs.length)∧∀p,H p=none→Q (.ref p) (upd H p (.tup (nG xs lo hi)))
theorem GL:AU X (KN X.K):=by
 intro pins s σ H x v vl vu lo hi sl Q I rx hs pl pu h
 obtain⟨a,xs,rfl,hx,hw,q⟩:=h
 cases rx
 obtain⟨its,r,ht,hz⟩:=I.tuple hx
 have hlen:its.toArray.size=xs.length:=by rw[List.size_toArray];exact r.length.symm
 refine⟨"tuple",_,PyProof.Rows.slot_tuple_getitem.lookup,ht.typeIs,?_⟩
 refine HT.pX ht hs pl pu (by rw[hlen];exact hw) ?_ (by rw[hlen];exact hz)
 rw[hlen]
 refine⟨.ref s.heap.objs.size,_,I.laid (t':=s.toks) (o:= .tup (nG xs lo hi)) (fun b ob q=>Heap.get?_push_of_some _ q) (Nat.le_refl _) ?_,rfl,q _ (I.aP.fresh (Nat.le_refl _))⟩
 exact⟨Nat.le_trans (qm xs lo hi) hz,_,(r.drop (HT.bV xs.length 0 lo)).take (HT.bV xs.length xs.length hi-HT.bV xs.length 0 lo),IsTup.new _ _⟩
noncomputable def Js(K:PySem.W.Frag):R2:=fun x y H Q=>∃a b xs ys,x= .ref a∧y= .ref b∧ia K H a xs∧ia K H b ys∧xs≠ []∧xs.length+ys.length≤sizeLine∧
 (ys=[]→Q (.ref a) H)∧(ys≠ []→∀p,H p=none→Q (.ref p) (upd H p (.tup (xs++ys))))
theorem Vals.pF{xs:List V}{us:List Value}(r:Vals xs us):us=[]↔xs=[]:=by
 cases r with
 |nil=>simp
 |cons _ _=>simp
theorem E3:cc X (binaryOp .Add) (Js X.K):=by
 intro pins s σ H x y v u Q I rx ry h
 obtain⟨a,b,xs,ys,rfl,rfl,ha,hb,hx,hz,q1,q2⟩:=h
 cases rx
 cases ry
 obtain⟨its,r1,p1,_⟩:=I.tuple ha
 obtain⟨its2,r2,p2,_⟩:=I.tuple hb
 refine HT.Eb p1 p2 (fun z=>hx (r1.pF.mp z)) (fun z=>⟨.ref a,H,I,rfl,q1 (r2.pF.mp z)⟩) (fun z=>?_) (by rw[←r1.length,←r2.length];exact hz)
 refine⟨.ref s.heap.objs.size,_,I.laid (t':=s.toks) (o:= .tup (xs++ys)) (fun b ob q=>Heap.get?_push_of_some _ q) (Nat.le_refl _) ?_,rfl,q2 (fun w=>z (r2.pF.mpr w)) _ (I.aP.fresh (Nat.le_refl _))⟩
 exact⟨by rw[List.length_append];exact hz,_,r1.append r2,IsTup.new _ _⟩
end
end L2
namespace L2
open PySem PySem.Spec PyProof.Rows
noncomputable def jP(n:Nat)(i:Int):Option Nat:=if 0≤i then(if i<n then some i.toNat else none)else if-(n:Int)≤i then some (i+n).toNat else none
noncomputable def eW{α:Type}(xs:List α)(i:Int):Option α:=(jP xs.length i).bind fun j=>xs[j]?
theorem si{n:Nat}{i:Int}{j:Nat}(h:jP n i=some j):seqIndex? i n=some j∧j<n∧ -(n:Int)≤i∧i<n:=by
 unfold jP at h
 by_cases h0:0≤i
 · rw[if_pos h0]at h
   by_cases h1:i<n
   · rw[if_pos h1]at h
     have e:i.toNat=j:=Option.some.inj h
     exact⟨by rw[seqIndex_of h0 h1,e],by omega,by omega,h1⟩
   · rw[if_neg h1]at h;cases h
 · rw[if_neg h0]at h
   by_cases h1: -(n:Int)≤i
   · rw[if_pos h1]at h
     have e:(i+n).toNat=j:=Option.some.inj h
     exact⟨by rw[seqIndex_neg (by omega) h1,e],by omega,h1,by omega⟩
   · rw[if_neg h1]at h;cases h
theorem sf{α:Type}{xs:List α}{i:Int}{v:α}(h:eW xs i=some v):∃j,seqIndex? i xs.length=some j∧xs[j]?=some v∧j<xs.length∧ -(xs.length:Int)≤i∧i<xs.length:=by
 unfold eW at h
 cases e:jP xs.length i with
 |none=>rw[e]at h;cases h
 |some j=>
  rw[e]at h
  obtain⟨h1,h2,h3,h4⟩:=si e
  exact⟨j,h1,h,h2,h3,h4⟩
theorem gF{α:Type}{xs:List α}{j:Nat}{v:α}(h:xs[j]?=some v):eW xs (j:Int)=some v:=by
 have hj:j<xs.length:=(List.getElem?_eq_some_iff.mp h).1
 have e:jP xs.length (j:Int)=some j:=by
  unfold jP
  rw[if_pos (by omega),if_pos (by omega)];simp
 unfold eW;rw[e];exact h
theorem BE{α:Type}(xs:List α)(v:α):eW (xs++[v]) (-1)=some v:=by
 have hl:(xs++[v]).length=xs.length+1:=by simp
 have e:jP (xs++[v]).length (-1)=some xs.length:=by
  unfold jP
  rw[hl,if_neg (by decide),if_pos (by omega)]
  congr 1
  omega
 unfold eW
 rw[e]
 show(xs++[v])[xs.length]?=some v
 simp
noncomputable def pM(b:Expr):Prop:=∀o i,subscripted b false o i=operate [o,i] (getItem o i)
noncomputable def CL(X:Cx)(r:R2):Prop:=
 ∀(value slice:Expr) (pins:List (Addr×Obj)) (s:Shared) (σ:St) (H:Hp) (x y:V) (v u:Value) (Q:VK),Inv X pins σ H s→RelV x v→RelV y u→r x y H Q→
  subscripted slice false v u=operate [v,u] (getItem v u)→wpAny (model X.prog X.w) X.A (subscriptTail value slice v u) (EP X pins σ Q) X.xe s
noncomputable def Ko(X:Cx)(id:String)(r:V→List V→Hp→VK→Prop):Prop:=
 ∀(pins:List (Addr×Obj)) (s:Shared) (σ:St) (H:Hp) (x:V) (xs:List V) (v:Value) (us:List Value) (Q:VK),Inv X pins σ H s→RelV x v→Vals xs us→r x xs H Q→
  wpAny (model X.prog X.w) X.A (call (.builtin id) (v::us)) (EP X pins σ Q) X.xe s
section
variable {X:Cx}{a b:Expr}{ta tb:TE}{pos:Pos}
theorem JU{r:R2}(hr:CL X r)(ha:PE X a ta)(hb:PE X b tb)(hs:pM b):PE X (.Subscript a b pos) (AW r ta tb):=by
 intro pins s σ H Q I h
 exact Subscript_ (BF ha hb I h fun v u s2 x y H2 I2 rx ry q=>hr a b pins s2 σ H2 x y v u Q I2 rx ry q (hs _ _))
noncomputable def KY(K:PySem.W.Frag):R2:=fun x y H Q=>∃p xs i v,x= .ref p∧y= .int i∧kA K H p xs∧eW xs i=some v∧Q v H
noncomputable def K8(K:PySem.W.Frag):R2:=fun x y H Q=>∃p xs i v,x= .ref p∧y= .int i∧ia K H p xs∧eW xs i=some v∧Q v H
theorem xD:CL X (KY X.K):=by
 intro value slice pins s σ H x y v u Q I rx ry h hs
 obtain⟨p,xs,i,z,rfl,rfl,hq,he,q⟩:=h
 cases rx
 obtain⟨t,rfl⟩:=ry
 obtain⟨its,r,pl,hz⟩:=I.list hq
 obtain⟨j,h1,h2,h3,h4,h5⟩:=sf he
 obtain⟨w,ew,rw'⟩:=r.get h2
 have hl:=r.length
 have hn:=mV
 have fin:EP X pins σ Q w s:=⟨z,H,I,rw',q⟩
 by_cases h0:0≤i
 · have hj:i.toNat=j:=by
    rw[seqIndex_of h0 h5]at h1
    exact Option.some.inj h1
   exact item_listR pl.isList h0 (by omega) (by rw[hj];simpa using ew) fin hs
 · have hj:(i+(its.toArray.size:Int)).toNat=j:=by
    rw[seqIndex_neg (by omega) h4]at h1
    rw[List.size_toArray,←hl]
    exact Option.some.inj h1
   exact subscriptTail_builtinR (x:=w) pl.isList.typeIs slot_list_getitem.lookup
    (wpAny_getItem_list_neg (Q:=fun r s'=>r=w∧EP X pins σ Q r s') pl.isList (by omega) (by rw[List.size_toArray]<;>omega) (by omega) (by rw[hj];simpa using ew) ⟨rfl,fin⟩) hs
theorem HH:CL X (K8 X.K):=by
 intro value slice pins s σ H x y v u Q I rx ry h hs
 obtain⟨p,xs,i,z,rfl,rfl,hq,he,q⟩:=h
 cases rx
 obtain⟨t,rfl⟩:=ry
 obtain⟨its,r,pl,hz⟩:=I.tuple hq
 obtain⟨j,h1,h2,h3,h4,h5⟩:=sf he
 obtain⟨w,ew,rw'⟩:=r.get h2
 have hl:=r.length
 have hn:=mV
 have fin:EP X pins σ Q w s:=⟨z,H,I,rw',q⟩
 exact subscriptTail_builtinR (x:=w) pl.typeIs slot_tuple_getitem.lookup
  (getItem_tuple (j:=j) (Q:=fun r s'=>r=w∧EP X pins σ Q r s') pl (by omega) (by omega) (by rw[List.size_toArray,←hl];exact h1) (by simpa using ew) ⟨rfl,fin⟩) hs
theorem zp(its:List Value)(n j:Nat)(u:Value):Obj.mapSeq (·.setIfInBounds j u) {cls:= .type "list",data:= .seq its.toArray n}= {cls:= .type "list",data:= .seq (its.set j u).toArray n}:=by
 simp[Obj.mapSeq]
theorem Inv.lst{pins:List (Addr×Obj)}{σ:St}{H:Hp}{s:Shared}{p:Addr}{xs:List V}(I:Inv X pins σ H s)(h:H p=some (.lst xs)):
 ∃(its:List Value) (n:Nat),Vals xs its∧s.heap.get? p=some {cls:= .type "list",data:= .seq its.toArray n}∧xs.length≤sizeLine:=by
 obtain⟨z,its,n,r,e⟩:=I.aP p _ h
 exact⟨its,n,r,e,z⟩
theorem Inv.Ib{pins:List (Addr×Obj)}{σ:St}{H:Hp}{s:Shared}{p:Addr}{xs ys:List V}{its its':List Value}{n n':Nat}{f:Obj→Obj}(I:Inv X pins σ H s)(h:H p=some (.lst xs))
 (ho:s.heap.get? p=some {cls:= .type "list",data:= .seq its.toArray n}) (hf:f {cls:= .type "list",data:= .seq its.toArray n}= {cls:= .type "list",data:= .seq its'.toArray n'}) (r:Vals ys its') (hz:ys.length≤sizeLine) (t:Nat):
 Inv X pins σ (upd H p (.lst ys)) {s with heap:=s.heap.update p f,toks:=t}:=by
 have e:(s.heap.update p f).get? p=some {cls:= .type "list",data:= .seq its'.toArray n'}:=by
  rw[Heap.get?_update_self f ho (by rw[hf]<;>rfl),hf]
 refine I.write (x:=p) (e:=p) (by rw[h];trivial) (.inl rfl) (fun b u hb q=>(Heap.get?_update_other _ _ (Ne.symm hb)).trans q) ⟨_,e⟩ ?_
 exact⟨hz,its',n',r,e⟩
noncomputable def uB:V→V→V→Hp→(Hp→Prop)→Prop:=fun o i v H Q=>∃p xs k j,o= .ref p∧i= .int k∧H p=some (.lst xs)∧jP xs.length k=some j∧Q (upd H p (.lst (xs.set j v)))
theorem set_list:BM X uB:=by
 intro pins s σ H o i v ov iv u Q I ro ri rv h
 obtain⟨p,xs,k,j,rfl,rfl,hp,hj,q⟩:=h
 cases ro
 obtain⟨t,rfl⟩:=ri
 obtain⟨its,n,r,ho,hz⟩:=I.lst hp
 obtain⟨h1,h2,h3,h4⟩:=si hj
 have hl:=r.length
 have hn:=mV
 have I':Inv X pins σ (upd H p (.lst (xs.set j v))) {s with heap:=s.heap.update p (Obj.mapSeq (·.setIfInBounds j u))}:=
  I.Ib hp ho (zp its n j u) (r.set rv j) (by rw[List.length_set];exact hz) s.toks
 by_cases h0:0≤k
 · have hk:k.toNat=j:=by
    rw[seqIndex_of h0 h4]at h1
    exact Option.some.inj h1
   exact PySem.W.ki_setAt ho h0 (by omega) (by rw[List.size_toArray,←hl];exact h4) (by rw[hk];exact⟨_,I',q⟩)
 · have hk:(k+(its.toArray.size:Int)).toNat=j:=by
    rw[seqIndex_neg (by omega) h3]at h1
    rw[List.size_toArray,←hl]
    exact Option.some.inj h1
   exact PySem.W.ki_setBack ho (by omega) (by rw[List.size_toArray,←hl];exact h3) (by omega) (by rw[hk];exact⟨_,I',q⟩)
theorem uT(lo hi:Option Int)(n:Nat):(sliceBounds lo hi none n).1=((HT.bV n 0 lo:Nat):Int)∧(sliceBounds lo hi none n).2.1=((HT.bV n n hi:Nat):Int)∧(sliceBounds lo hi none n).2.2=1:=by
 refine⟨?_,?_,rfl⟩
 · cases lo with
   |none=>simp[sliceBounds,HT.bV]
   |some i=>
    simp only[sliceBounds,HT.bV,Option.getD_none,show(1:Int)>0 by decide,if_true]
    by_cases h:i<0
    · simp only[h,if_true]<;>omega
    · simp only[h,if_false]<;>omega
 · cases hi with
   |none=>simp[sliceBounds,HT.bV]
   |some i=>
    simp only[sliceBounds,HT.bV,Option.getD_none,show(1:Int)>0 by decide,if_true]
    by_cases h:i<0
    · simp only[h,if_true]<;>omega
    · simp only[h,if_false]<;>omega
theorem um(its:List Value)(lo hi:Option Int):slicePick its.toArray lo hi none=((its.drop (HT.bV its.length 0 lo)).take (HT.bV its.length its.length hi-HT.bV its.length 0 lo)).toArray:=by
 obtain⟨h1,h2,h3⟩:=uT lo hi its.toArray.size
 unfold slicePick
 rw[h1,h2,h3]
 simp only[sliceRange_one,pick_run,List.size_toArray]<;>rfl
noncomputable def KJ(K:PySem.W.Frag):V→Option Int→Option Int→Hp→VK→Prop:=fun x lo hi H Q=>∃a xs,x= .ref a∧kA K H a xs∧∀p,H p=none→Q (.ref p) (upd H p (.lst (nG xs lo hi)))
theorem xh:AU X (KJ X.K):=by
 intro pins s σ H x v vl vu lo hi sl Q I rx hs pl pu h
 obtain⟨a,xs,rfl,hx,q⟩:=h
 cases rx
 obtain⟨its,r,ht,hz⟩:=I.list hx
 have hlen:=r.length
 refine⟨"list",_,slot_list_getitem.lookup,ht.isList.typeIs,?_⟩
 refine wpAny_getItem_list_slice ht.isList hs pl pu .none (by simp) ?_ (by rw[List.size_toArray]<;>omega)
 rw[um,←hlen]
 refine⟨.ref s.heap.objs.size,_,I.laid (t':=s.toks) (o:= .lst (nG xs lo hi)) (fun b ob q=>Heap.get?_push_of_some _ q) (Nat.le_refl _) ?_,rfl,q _ (I.aP.fresh (Nat.le_refl _))⟩
 exact⟨Nat.le_trans (qm xs lo hi) hz,_,0,(r.drop (HT.bV xs.length 0 lo)).take (HT.bV xs.length xs.length hi-HT.bV xs.length 0 lo),Heap.get?_push_size _ rfl⟩
theorem wu:bJ X (.builtin "len") (fun xs H Q=>∃p ys,xs=[.ref p]∧(kA X.K H p ys∨ia X.K H p ys)∧Q (.int ys.length) H):=by
 intro pins s σ H xs us Q I r h
 obtain⟨p,ys,rfl,hq,q⟩:=h
 obtain⟨u,rfl,rx⟩:=vals1 r
 cases rx
 have hn:=mV
 rcases hq with hq|hq
 · obtain⟨its,r',pl,hz⟩:=I.list hq
   have hlen:=r'.length
   exact Calls.call_len_list pl.isList (by simp only[List.size_toArray]<;>omega) ⟨.int ys.length,H,I.tok _,⟨s.toks+1,by rw[List.size_toArray,hlen]⟩,q⟩
 · obtain⟨its,r',pl,hz⟩:=I.tuple hq
   have hlen:=r'.length
   exact len_tuple pl (by simp only[List.size_toArray]<;>omega) ⟨.int ys.length,H,I.tok _,⟨s.toks+1,by rw[List.size_toArray,hlen]⟩,q⟩
theorem vI:bJ X (.builtin "len") (fun xs H Q=>∃z,xs=[.str z]∧z.length≤sizeLine∧Q (.int z.length) H):=by
 intro pins s σ H xs us Q I r h
 obtain⟨z,rfl,hz,q⟩:=h
 obtain⟨u,rfl,t,rfl⟩:=vals1 r
 have hn:=mV
 exact len_str (by omega) ⟨.int z.length,H,I.tok _,⟨_,rfl⟩,q⟩
theorem oA:bJ X (.type "list") (fun xs H Q=>∃p ys,xs=[.ref p]∧(kA X.K H p ys∨ia X.K H p ys)∧∀l,H l=none→Q (.ref l) (upd H l (.lst ys))):=by
 intro pins s σ H xs us Q I r h
 obtain⟨p,ys,rfl,hq,q⟩:=h
 obtain⟨u,rfl,rx⟩:=vals1 r
 cases rx
 have fin:∀(its:List Value),Vals ys its→ys.length≤sizeLine→∀(h':Heap) (c':Nat),(∀b o',s.heap.get? b=some o'→h'.get? b=some o')→
  h'.get? s.heap.objs.size=some {cls:= .type "list",dict:=none,data:= .seq its.toArray c',slots:= #[]}→EP X pins σ Q (.ref s.heap.objs.size) {s with heap:=h'}:=fun its r' hz h' c' kp e=>
  ⟨.ref s.heap.objs.size,_,I.laid (t':=s.toks) kp (Nat.le_refl _) (show dS X.prog X.w _ h' _ (.lst ys)from⟨hz,its,c',r',e⟩),rfl,q _ (I.aP.fresh (Nat.le_refl _))⟩
 rcases hq with hq|hq
 · obtain⟨its,r',pl,hz⟩:=I.list hq
   have hlen:=r'.length
   obtain⟨o,ho,hc,n,hd⟩:=pl.isList
   exact call_list_seq p (.inl rfl) ho hc hd (fun h' c' kp e=>fin its r' hz h' c' kp e) (by simp only[List.size_toArray]<;>omega)
 · obtain⟨its,r',pl,hz⟩:=I.tuple hq
   have hlen:=r'.length
   obtain⟨o,ho,hc,n,hd⟩:=pl
   exact call_list_seq p (.inr rfl) ho hc hd (fun h' c' kp e=>fin its r' hz h' c' kp e) (by simp only[List.size_toArray]<;>omega)
theorem uc:bJ X (.type "tuple") (fun xs H Q=>∃p ys,xs=[.ref p]∧((kA X.K H p ys∧∀l,H l=none→Q (.ref l) (upd H l (.tup ys)))∨(ia X.K H p ys∧Q (.ref p) H))):=by
 intro pins s σ H xs us Q I r h
 obtain⟨p,ys,rfl,h⟩:=h
 obtain⟨u,rfl,rx⟩:=vals1 r
 cases rx
 rcases h with⟨hq,q⟩|⟨hq,q⟩
 · obtain⟨its,r',pl,hz⟩:=I.list hq
   have hlen:=r'.length
   refine call_tuple_list pl.isList (fun h' kp=>?_) (by simp only[List.size_toArray]<;>omega)
   have I1:Inv X pins σ H {s with heap:=h'}:=I.kept (t':=s.toks) kp
   have I2:Inv X pins σ (upd H h'.objs.size (.tup ys)) {s with heap:=h'.push {cls:= .type "tuple",data:= .seq its.toArray}}:=
    I1.laid (t':=s.toks) (fun b o e=>Heap.get?_push_of_some _ e) (Nat.le_refl _) (show dS X.prog X.w _ _ _ (.tup ys)from⟨hz,its,r',IsTup.new _ _⟩)
   exact⟨.ref h'.objs.size,_,I2,rfl,q _ (I1.aP.fresh (Nat.le_refl _))⟩
 · obtain⟨its,r',pl,hz⟩:=I.tuple hq
   exact call_tuple_same pl ⟨.ref p,H,I,rfl,q⟩
noncomputable def Ks(K:PySem.W.Frag)(T:String)(x:V)(H:Hp):Prop:=match x with
 | .str _=>T="str"
 | .int _=>T="int"
 | .ref p=>(T="list"∧∃xs,kA K H p xs)∨(T="tuple"∧∃o,K.lookup p=some o∧o.cls= .type "tuple"∧o.dict=none)∨
    (T="dict"∧((∃kvs,H p=some (.dK kvs))∨∃kvs,H p=some (.dT kvs)))∨(T="set"∧∃S n,H p=some (.set S n))
 |_=>False
theorem Hv{pins:List (Addr×Obj)}{σ:St}{H:Hp}{s:Shared}{T:String}{x:V}{v:Value}(I:Inv X pins σ H s)(r:RelV x v)(ty:Ks X.K T x H):
 s.TypeIs v T∧∀a,v= .ref a→∃ob,s.heap.get? a=some ob∧ob.dict=none:=by
 cases x with
 |str z=>
  obtain⟨t,rfl⟩:=r
  cases (show T="str" from ty)
  exact⟨typeIs_str s z t,fun _ e=>nomatch e⟩
 |int i=>
  obtain⟨t,rfl⟩:=r
  cases (show T="int" from ty)
  exact⟨typeIs_int s i t,fun _ e=>nomatch e⟩
 |ref p=>
  cases r
  rcases ty with⟨rfl,xs,hq⟩|⟨rfl,o,hk,hc,hd⟩|⟨rfl,hk⟩|⟨rfl,S,n,hk⟩
  · obtain⟨its,_,pl,_⟩:=I.list hq
    refine⟨pl.isList.typeIs,fun a e=>?_⟩
    cases e
    obtain⟨o,n,e,c,hd,_⟩:=pl
    exact⟨o,e,hd⟩
  · refine⟨⟨o,I.gK p o hk,hc⟩,fun a e=>?_⟩
    cases e
    exact⟨o,I.gK _ o hk,hd⟩
  · have z:∃o,s.heap.get? p=some o∧o.ExactDict:=by
     rcases hk with⟨kvs,hk⟩|⟨kvs,hk⟩
     · obtain⟨_,_,_,_,o,_,_,e,ex,_⟩:=I.aP p _ hk
       exact⟨o,e,ex⟩
     · obtain⟨_,_,_,_,o,_,_,e,ex,_⟩:=I.aP p _ hk
       exact⟨o,e,ex⟩
    obtain⟨o,e,ex⟩:=z
    refine⟨⟨o,e,ex.1⟩,fun a e2=>?_⟩
    cases e2
    exact⟨o,e,ex.2.1⟩
  · obtain⟨o,_,_,_,e,ex,_⟩:=I.aP p _ hk
    refine⟨⟨o,e,ex.1⟩,fun a e2=>?_⟩
    cases e2
    exact⟨o,e,ex.2.1⟩
 |_=>exact False.elim ty
noncomputable def Kb(K:PySem.W.Frag)(T:String)(r:V→List V→Hp→VK→Prop)(to:TE)(t:TA):TE:=fun σ H Q=>to σ H fun x H1=>Ks K T x H1∧t σ H1 fun xs H2=>r x xs H2 Q
variable {o e:Expr}{es:List Expr}{to:TE}{t:TA}{name:Str}{apos cpos:Pos}{T id:String}{r:V→List V→Hp→VK→Prop}
theorem Jc(pa:PlainAttrs T)(slot:Slot T name id)(hty:typeOf (.builtin id)=pure (.type "method_descriptor"))(hm:Ko X id r)(ho:PE X o to)(ha:PA X (e::es) t)
 (hbase:attributeBase o name X.env (eval o X.env)=eval o X.env:=by rfl)
 (hfew:((backTo cpos (starEach (e::es) X.env)).all (fun x=> !x.1)&&(backToKw cpos (keywordEach [] X.env)).all (fun x=>x.1.isSome)
   &&decide ((e::es).length+([]:List Keyword).length+(if([]:List Keyword).isEmpty then 0 else 1)<30))=true:=by rfl)
 (hline:(apos.endLine==cpos.line)=true:=by rfl) (hs:starEach (e::es) X.env=(false,eval e X.env)::starEach es X.env:=by rfl) (hplain:(backTo cpos (starEach es X.env)).any (·.1)=false:=by rfl):
 PE X (.Call (.Attribute o name apos) (e::es) [] cpos) (Kb X.K T r to t):=by
 intro pins s σ H Q I h
 refine wpAny_Call_method_late hbase hfew hline rfl (bD (ho pins s σ H _ I h) fun v s1 ⟨x,H1,I1,r1,ty,q1⟩=>?_)
 obtain⟨h1,h2⟩:=Hv I1 r1 ty
 refine⟨T,id,pa,slot,hty,h1,h2,?_⟩
 have hA:=ha cpos pins s1 σ H1 _ I1 q1
 rw[hs]at hA⊢
 refine Calls.callWith_builtin (by show(false||(backTo cpos (starEach es X.env)).any (·.1))=false;rw[hplain]<;>rfl) (Calls.evalArgs_plain ?_)
 exact bD hA fun us s2 ⟨vs,H2,I2,r2,q2⟩=>hm pins s2 σ H2 x vs v us Q I2 r1 r2 q2
/-xs.append(e),list.index on a module's tuple .. are Ko facts of 06m-/
end
end L2
namespace L2
open PySem PySem.Spec PyProof.Rows
noncomputable def Lu(X:Cx)(id:String)(r:V→List V→Hp→VK→Prop):Prop:=
 ∀(pins:List (Addr×Obj)) (s:Shared) (σ:St) (H:Hp) (x:V) (xs:List V) (v:Value) (us:List Value) (Q:VK),Inv X pins σ H s→RelV x v→Vals xs us→r x xs H Q→
  wpAny (model X.prog X.w) X.A (call (.builtin id) (v::us)) (EP X pins σ Q) X.xe s
theorem Vals.one:∀ {x:V} {us:List Value},Vals [x] us→∃u,us=[u]∧RelV x u
 |_,_,.cons r .nil=>⟨_,rfl,r⟩
theorem Vals.rep{xs:List V}{us:List Value}(h:Vals xs us):∀k:Nat,Vals (List.replicate k xs).flatten (List.replicate k us).flatten
 |0=> .nil
 |k+1=>by
  rw[List.replicate_succ,List.replicate_succ,List.flatten_cons,List.flatten_cons]
  exact Vals.append h (Vals.rep h k)
theorem foldl_rep(its:List Value):∀(k:Nat) (acc:List Value),
 List.foldl (fun x1 x2=>x1++x2) acc.toArray (List.replicate k its.toArray)=(acc++(List.replicate k its).flatten).toArray
 |0,acc=>by simp
 |k+1,acc=>by
  have e:acc.toArray++its.toArray=(acc++its).toArray:=by simp
  have e2:(acc++its)++(List.replicate k its).flatten=acc++(List.replicate (k+1) its).flatten:=by
   rw[List.replicate_succ,List.flatten_cons,List.append_assoc]
  rw[←e2,←foldl_rep its k (acc++its),←e,List.replicate_succ,List.foldl_cons]
section
variable {X:Cx}{pins:List (Addr×Obj)}{σ:St}{H:Hp}{s:Shared}{l b:Addr}{xs ys zs:List V}
theorem Inv.K9{its its':List Value}{n:Nat}{f:Array Value→Array Value}{t':Nat}(I:Inv X pins σ H s)(hH:H l=some (.lst xs))
 (e:s.heap.get? l=some {cls:= .type "list",data:= .seq its.toArray n}) (hf:f its.toArray=its'.toArray) (hv:Vals ys its') (hz:ys.length≤sizeLine):
 Inv X pins σ (upd H l (.lst ys)) {s with heap:=s.heap.update l (Obj.mapSeq f),toks:=t'}:=by
 have q:=PySem.IsL.update e f
 rw[hf]at q
 refine I.write (x:=l) (e:=l) (by rw[hH];exact trivial) (.inl rfl) (fun b' u hb hu=>(Heap.get?_update_other s.heap (Obj.mapSeq f) (Ne.symm hb)).trans hu) ⟨_,q⟩ ?_
 exact⟨hz,its',_,hv,q⟩
theorem Inv.B3{its:List Value}{t':Nat}(I:Inv X pins σ H s)(hv:Vals ys its)(hz:ys.length≤sizeLine):
 Inv X pins σ (upd H s.heap.objs.size (.lst ys)) {s with heap:=s.heap.push {cls:= .type "list",data:= .seq its.toArray},toks:=t'}:=
 I.laid (fun _ _ q=>Heap.get?_push_of_some _ q) (Nat.le_refl _) ⟨hz,its,0,hv,Heap.get?_push_size _ rfl⟩
theorem Inv.fresh(I:Inv X pins σ H s):H s.heap.objs.size=none:=I.aP.fresh (Nat.le_refl _)
theorem Inv.KP(I:Inv X pins σ H s)(hH:H l=some (.lst xs)):xs.length≤sizeLine∧∃(its:List Value) (n:Nat),Vals xs its∧xs.length=its.length∧s.heap.get? l=some {cls:= .type "list",data:= .seq its.toArray n}:=by
 obtain⟨z,its,n,r,e⟩:=I.aP l _ hH
 exact⟨z,its,n,r,r.length,e⟩
theorem Bv{n:Nat}(h:n≤sizeLine):Builtin.List.listTooLong n=false:=by
 unfold Builtin.List.listTooLong
 exact decide_eq_false (by omega)
end
section
variable {X:Cx}
noncomputable def xt:V→List V→Hp→VK→Prop:=fun x vs H Q=>∃l xs y,x= .ref l∧vs=[y]∧H l=some (.lst xs)∧xs.length<sizeLine∧Q .aH (upd H l (.lst (xs++[y])))
theorem tP:Lu X "list.append" xt:=by
 intro pins s σ H x vs v us Q I rx rv h
 obtain⟨l,xs,y,rfl,rfl,hH,hz,q⟩:=h
 cases rx
 obtain⟨u,rfl,ru⟩:=rv.one
 obtain⟨z,its,n,r,hl,e⟩:=I.KP hH
 refine call_meets F.slot_list_append ⟨_,e,rfl⟩ F.entry_list_append (F.args_list_append_2 _ _) (PySem.list_append l its.toArray n u (by rw[List.size_toArray];omega)) ⟨e,?_⟩
 refine⟨.aH,_,I.K9 (its':=its++[u]) hH e (by simp) (r.append (.cons ru .nil)) ?_,rfl,q⟩
 rw[List.length_append,List.length_singleton]
 omega
theorem len_rep{α:Type}(xs:List α)(k:Nat):(List.replicate k xs).flatten.length=k*xs.length:=by
 induction k with
 |zero=>simp
 |succ k ih=>rw[List.replicate_succ,List.flatten_cons,List.length_append,ih,Nat.succ_mul,Nat.add_comm]
end
section
variable {prog:Program}{w:World}{A:Around}{E:Value→Shared→Prop}{s:Shared}
set_option maxRecDepth 100000 in
end
section
variable {X:Cx}
end
end L2
namespace Att
open PySem PySem.W PySem.Calls PyProof.Rows
theorem rj{P:Params}{h:Heap}:∀(ns:List Int) (vs:List Value),WellAll P h vs (ns.map WData.int)→IntsAre vs ns:=by
 intro ns
 induction ns with
 |nil=>
  intro vs w
  rw[List.map_nil]at w
  cases w
  exact .nil
 |cons n ns ih=>
  intro vs w
  rw[List.map_cons]at w
  cases w with
  |cons a b=>
   cases a
   exact .cons _ _ (ih _ b)
theorem Aj{l:OpenLaw}{n:Nat}(hn:l.most=some n){P:Params}{h:Heap}{args:List WData}{vals:List Value}
 (hpre:l.row.toRowW.claim.pre args=true) (hwl:WellAll P h vals args):
 ∃a vs ns,vals=[Value.ref a]∧args=[WData.list (ns.map WData.int)]∧h.get? a=some {cls:= .type "list",data:= .seq vs.toArray}∧IntsAre vs ns∧ns.length≤n:=by
 have hsh:WShape.hasAll [] args [.list .int]=true:=(pre_splitW hpre).1
 have hc:l.pre.holds [] {args:=args}=true:=(pre_splitW hpre).2
 obtain⟨d,r,rfl,h1,h2⟩:=hasAllW_cons hsh
 obtain rfl:=hasAllW_nil h2
 obtain⟨xs,rfl,h3⟩:=hasW_list h1
 obtain⟨ns,rfl⟩:=items_int h3
 have hlen:ns.length≤n:=by
  unfold OpenLaw.pre at hc
  have h4:(WTm.not (.lt (.lit (.int (n:Int))) (.len (.arg 0)))).holds [] {args:=[.list (ns.map .int)]}=true:=by
   have h4:=(holds_andW hc).1
   rw[hn]at h4
   exact h4
  have h5:=condW_of h4 (w_not (w_lt w_lit (w_len_list (w_arg rfl))))
  rw[List.length_map]at h5
  refine Nat.le_of_not_lt fun q=>?_
  have q':(n:Int)<((ns.length:Nat):Int):=by omega
  first
   |(rw[decide_eq_true q']at h5;exact absurd h5 (by decide))
   |(simp at h5;omega)
 cases hwl with
 |cons w1 w2=>
  cases w2
  cases w1 with
  |list ho hall=>exact⟨_,_,ns,rfl,rfl,ho,rj ns _ hall,hlen⟩
theorem A_(l:OpenLaw)(args:List WData):l.row.toRowW.claim.post args (.bool true) args=true:=
 postW_of (r:=l.row.toRowW) (X:=(true==true))
  (show WShape.has [] (.bool true) .bool=true by first|rfl|decide|simp[WShape.has,WShape.arms,WShape.armsAll])
  (show(WTm.eq .res (.lit (.bool true))).value [] {args:=args,res:=some (.bool true),after:=args}=some (.bool (true==true))from w_eq_bool (w_res rfl) w_lit) rfl
theorem wR{l:OpenLaw}{n:Nat}{q:Program}{loose:List Str}{XP:(Str→Option Value)→Heap→Prop}{YP:World→Heap→Prop}{d:DefRec}
 (hn:l.most=some n) (hdf:d.params.defaults=[])
 (call:∀(w:World) (s₀ s₁:Shared) (mg mb:Str→Option Value) (fa:Addr) (o:Obj) (pm cd doc:Value) (a:Addr) (vs:List Value) (ns:List Int),
   Ground q loose [] XP w s₀ mg mb s₁.heap→YP w s₁.heap→
   s₁.heap.get? fa=some o→o.data= .func (docDef d.name d.params d.body d.scope pm cd doc)→s₁.heap.CodeRec cd d.name→mg d.name=some (.ref fa)→
   s₁.heap.get? a=some {cls:= .type "list",data:= .seq vs.toArray}→IntsAre vs ns→ns.length≤n→s₁.gens= #[]→
   codeAny (model l.prog w) callerA (.call (.ref fa) ⟨[.ref a],[]⟩) (fun r s'=>r= .ok (.ret (.bool true))∧OldK s₁.heap s'.heap∧s'.os=s₁.os∧AllBare s'.gens) s₁):
 WalkO q loose XP YP l.row.toRowW d [] (fun f vs=>PySem.call f vs):=by
 intro w s₀ s₁ mg mb G Y fa o pm cd doc dV kV ho hd hcd hD hmg hg args vals as hpre hlay hrd hwl hlo
 obtain rfl:dV= .none:=Dflts.none hD hdf
 obtain rfl:kV= .none:=Dflts.noKw hD
 obtain⟨a,vs,ns,rfl,rfl,hobj,hints,hlen⟩:=Aj hn hpre hwl
 refine enter_call (codeAny_mono (call w s₀ s₁ mg mb fa o pm cd doc a vs ns G Y ho (fd_plain hd) hcd hmg hobj hints hlen hg) fun r s' hq=>?_)
 obtain⟨rfl,h2,h3,h4⟩:=hq
 exact⟨.inl ⟨.bool true,.bool true,[],rfl,fun _=>rfl,.bool true,A_ l _,fun _=>⟨List.Pairwise.nil,fun _ hm=>(nomatch hm)⟩⟩,h2,h3,h4⟩
section
variable {prog:Program}{w:World}{A:Around}{E:Value→Shared→Prop}{s:Shared}{K:Frag}
end
end Att
namespace L2
open PySem PySem.Spec PyProof.Rows
theorem mz:∀ {vs:List Value} {ns:List Int},IntsAre vs ns→Vals (ns.map V.int) vs
 |_,_,.nil=> .nil
 |_,_,.cons n t h=> .cons ⟨t,rfl⟩ (mz h)
end L2
/-THE LAST THEOREM (shape;LID,My.*are yours):
 My.Adr:a structure of the addresses that your layer names (classes,functions);My.Txt K t:a structure (Prop) of the equations over K;
 My.txt_mk:{K} {implicit addresses ..} (e1:nsIn K mainGlobals "law"=some (some (.ref f))) (e2:K.lookup f=some ⟨oc,od,.func (fnOf "law" "law" params body scope dV kV doc pm an cdv ct),sl⟩) (e3:codeIn K cdv "law"=true) .. :∃t,My.Txt K t
set_option maxRecDepth 100000 in
set_option maxHeartbeats 0 in
(the tactic k_is has no namespace:write k_is)-/
namespace L2
open PySem PySem.Spec PyProof.Rows
noncomputable def inClass(s:Stmt)(j:Nat):Stmt:=match s with
 | .ClassDef _ _ _ body _ _ _ _ _ _ _=>body.getD j (.Pass ⟨0,0,0,0⟩)
 |_=> .Pass ⟨0,0,0,0⟩
noncomputable def aW(s:Stmt):Arguments:=match s with
 | .FunctionDef _ a _ _ _ _ _ _ _ _=>a
 |_=>{posonlyargs:=[],args:=[],vararg:=none,kwonlyargs:=[],kw_defaults:=[],kwarg:=none,defaults:=[]}
noncomputable def aU(s:Stmt):List Stmt:=match s with
 | .FunctionDef _ _ b _ _ _ _ _ _ _=>b
 |_=>[]
noncomputable def ah(s:Stmt):Scope:=match s with
 | .FunctionDef _ _ _ _ _ _ sc _ _ _=>sc
 |_=>{kind:= .function,names:=[],isGenerator:=false,isCoroutine:=false}
noncomputable abbrev aJ:qf:=fun _ _ _ _ _ _=>False
noncomputable abbrev E0:XK:=fun _ _ _=>False
theorem uM{X:Cx}:Passes aJ X E0:=fun _ _ _ _ _ _ _ h=>h.elim
structure nh(K:PySem.W.Frag)(x qual:Str)(st:Stmt)(f:Addr)(fd:FuncData):Prop where
 ex:∃(oc:Value) (od:Option Addr) (kV doc pm:Value) (an:Option Addr) (cdv ct:Value) (osl:Array (Option Value)),
  fd=PySem.W.fnOf x qual (aW st) (aU st) (ah st) .none kV doc pm an cdv ct∧K.lookup f=some ⟨oc,od,.func fd,osl⟩∧PySem.W.codeIn K cdv qual=true
 kp:PySem.W.keepIn K (.ref f)=true
section
variable {P:Program}{w:World}{K:PySem.W.Frag}{mg:Str→Option Value}{base:Heap}
theorem nh.ok{x qual:Str}{st:Stmt}{f:Addr}{fd:FuncData}{N ps:List Str}{k:Nat}{sp:Sp}(F:nh K x qual st f fd)(S:bb N ps (ah st))(len:∀vs H Q E,sp vs H Q E→vs.length=ps.length)
 (hbody:∀(cdv:Value) (A:Around) (outer:List Env) (s:Shared) (H:Hp) (vs:List V) (Q:VK) (E:XK),dj k (A.deeper (envOfC qual (ah st) s.heap.objs.size f cdv))→sp vs H Q E→
   ∃t,gL (pf aJ P w K mg base N qual (ah st) f cdv A outer s H E).xr (aU st) t∧t {nx:=fun _ H'=>Q .aH H',rt:=Q} (start N vs) H):ay P w K mg base aJ (k+1) f fd ps sp:=by
 obtain⟨oc,od,kV,doc,pm,an,cdv,ct,osl,rfl,lk,hcd⟩:=F.ex
 refine I_ lk hcd S len fun A outer s H vs Q E hr hsp=>?_
 obtain⟨t,h,q⟩:=hbody cdv A outer s H vs Q E hr hsp
 exact⟨t,h.xr,q⟩
theorem nh.binds{x qual:Str}{st:Stmt}{f:Addr}{fd:FuncData}{ps:List Str}(F:nh K x qual st f fd)
 (h:∀(kV doc pm:Value) (an:Option Addr) (cdv ct:Value) (us:List Value),us.length=ps.length→bindArgs (PySem.W.fnOf x qual (aW st) (aU st) (ah st) .none kV doc pm an cdv ct) ⟨us,[]⟩=pure (ps.zip us)):Binds K fd ps []:=by
 obtain⟨oc,od,kV,doc,pm,an,cdv,ct,osl,rfl,lk,hcd⟩:=F.ex
 exact .all (h kV doc pm an cdv ct)
theorem bI{x qual:Str}{st:Stmt}{f:Addr}{oc:Value}{od an:Option Addr}{osl:Array (Option Value)}{kV doc pm cdv ct:Value}(l:K.lookup f=some ⟨oc,od,.func (PySem.W.fnOf x qual (aW st) (aU st) (ah st) .none kV doc pm an cdv ct),osl⟩)
 (c:PySem.W.codeIn K cdv qual=true) (k:PySem.W.keepIn K (.ref f)=true):nh K x qual st f (PySem.W.fnOf x qual (aW st) (aU st) (ah st) .none kV doc pm an cdv ct):=⟨⟨oc,od,kV,doc,pm,an,cdv,ct,osl,rfl,l,c⟩,k⟩
end
section
variable {X:Cx}
end
theorem hX{A B:Prop}(h:A):if true=true then A else B:=by
 rw[if_pos rfl]
 exact h
noncomputable def Cs(H H':Hp):Prop:=∀b o,H b=some o→H' b=some o
end L2
set_option maxHeartbeats 4000000
namespace Hd
open PySem PySem.W PySem.Calls PyProof.Rows
noncomputable def bt (P:Params):BT:=(.node (boot_o_0 P) (.node (boot_o_1 P) (.node (boot_o_3 P) (.node (boot_o_7 P) .nil .nil) .nil) (.node (boot_o_5 P) (.node (boot_o_9 P) .nil .nil) .nil)) (.node (boot_o_2 P) (.node (boot_o_4 P) (.node (boot_o_8 P) .nil .nil) .nil) (.node (boot_o_6 P) (.node (boot_o_10 P) .nil .nil) .nil)))
theorem Hj(P:Params):absHeap (bt P) 11 (boot_heap P).life=boot_heap P:=by kernel_rfl
noncomputable def run (p:Program) (w:World) (n:Nat) (ann:Option Value):Nat→SharedT→Thread→Option SharedT
 |0,_,_=>none
 |k+1,s,t=>match through t with
  |true=>some s
  |false=>match Fast.tw6613529449190102663 n ann t with
   |false=>none
   |true=>match Fast.tw10156331382660048174 (Fast.tw11892475500146522536 Fast.tw14364793385576792824) p w s t with
    |some (s',t')=>run p w n ann k s' t'
    |none=>none
theorem AS{p:Program}{w:World}{n:Nat}{ann:Option Value}:∀ {k:Nat} {s s':SharedT} {t:Thread},run p w n ann k s t=some s'→topRun treeTable p w n ann k s.abs t=some s'.abs
 |0,_,_,_,h=>by cases h
 |k+1,s,s',t,h=>by
  unfold run at h
  unfold topRun
  cases he:through t with
  |true=>rw[he]at h;cases h;rfl
  |false=>
   rw[he]at h
   rw[←Fast.te6613529449190102663,←Fast.te10156331382660048174,←Fast.te11892475500146522536,←Fast.te14364793385576792824]at h
   cases hk:stepOk n ann t with
   |false=>simp only[hk]at h;cases h
   |true=>
    simp only[hk]at h
    cases hs:stepT (denote treeTable) p w s t with
    |none=>rw[hs]at h;cases h
    |some r=>obtain⟨s2,t2⟩:=r;rw[hs]at h;rw[stepT_spec hs];exact AS h
noncomputable def b0 (w:World) (os:OsState):SharedT:=⟨bt w.params,11,(boot_heap w.params).life,⟨[]⟩,boot_drawn,boot_toks,os⟩
theorem FF(w:World)(os:OsState):(b0 w os).abs=⟨boot_heap w.params,⟨[]⟩,boot_drawn,boot_toks,os⟩:=by
 unfold b0 SharedT.abs
 dsimp only
 rw[Hj]
theorem left{p q:Program}{loose:List Str}{α:Type}{Yf:Shared→α}{Ya:World→α}{N:Nat}
 (e:opening p=plainProg p.main.scope.names) (f:∀s,fenceModules? p s=some s) (hN:Nat.ble 600 N=true)
 (h:∀(w:World) (os:OsState),(run p w 11 (some (.ref 6)) N (b0 w os) (topStub p)).bind (fun s=>match staticsOk (importedModules p.main.body) (boot_heap w.params) s.abs.heap&&namesBound p s.abs.heap&&gensDone s.abs&&laidKept (boot_heap w.params) s.abs.heap with
   |true=>some (Fast.tw4187177175401517315 q loose (importedModules p.main.body) (fun _=>true) true s.abs,Yf s.abs)
   |false=>none)=some (openGood q loose,Ya w)):LeftO p q loose (fun _=>true) Yf Ya N:=fun w=>by
 obtain⟨⟨hp,gs,d,k,os⟩,e1,e2⟩:=Option.map_eq_some_iff.mp (boot_open e hN f w)
 obtain⟨rfl,rfl,rfl,rfl⟩:hp=boot_heap w.params∧gs=⟨[]⟩∧d=boot_drawn∧k=boot_toks:=by simpa using e2
 obtain⟨s,r1,r2⟩:=Option.bind_eq_some_iff.mp (h w os)
 have r3:=AS r1
 rw[FF]at r3
 rw[←Fast.te4187177175401517315]at r2
 unfold openEnds
 rw[e1]
 show(topFrom treeTable p w N _).map _=_
 unfold topFrom
 rw[show((boot_heap w.params).isNs mainGlobals&&(⟨[]⟩:Array GenState).size==0)=true from by kernel_rfl]
 dsimp only
 rw[show(boot_heap w.params).objs.size=11 from by kernel_rfl,show(boot_heap w.params).nsMap mainGlobals "__annotations__"=some (.ref 6)from by kernel_rfl,r3]
 show((match staticsOk (importedModules p.main.body) (boot_heap w.params) s.abs.heap&&namesBound p s.abs.heap&&gensDone s.abs&&laidKept (boot_heap w.params) s.abs.heap with|true=>some s.abs|false=>none):Option Shared).map _=_
 cases z:(staticsOk (importedModules p.main.body) (boot_heap w.params) s.abs.heap&&namesBound p s.abs.heap&&gensDone s.abs&&laidKept (boot_heap w.params) s.abs.heap)with
 |false=>rw[z]at r2;cases r2
 |true=>rw[z]at r2;exact r2
noncomputable def fo(st:Stmt)(x q:Str)(pm cd:Value):Obj:=⟨.type "function",none,.func (fnOf x q (L2.aW st) (L2.aU st) (L2.ah st) .none .none .none pm none cd .none),#[]⟩
noncomputable abbrev e(x:Str)(t:Nat)(v:Value):Str×Nat×Value:=(x,t,v)
noncomputable abbrev k(a:Addr)(o:Obj):Addr×Obj:=(a,o)
noncomputable def no(P:Params)(n:Nat)(l:List (Str×Nat×Value)):Obj:=⟨.type "dict",none,.dict (l.map fun e=>⟨PyData.keyHash P e.1,.str e.1 e.2.1,e.2.2⟩).toArray n,#[]⟩
end Hd
namespace L3
open PySem PySem.Spec PyProof.Rows L2
section
variable {prog:Program}{w:World}{A:Around}{R:Result→Shared→Prop}{s:Shared}
theorem wN{elt target iter:Expr}{ifs:List Expr}{scope:Scope}{pos:Pos}{it acc:Value}{env:Env}(I:Nat→Shared→Prop)
 (turn:∀n s,I n s→wpAny (model prog w) A (pyNext it) (fun r s₁=>match r with
   |none=>R (.ok .next) s₁
   |some v=>wpAny (model prog w) A (letOwnedTupleGo target it v) (fun _ s₀=>wpAny (model prog w) A (assign target env v) (fun _ s₂=>
     wpAny (model prog w) A (forIn ifs true fun c r=>if r=true then do let ok ←isTrue c env (eval c env);pure (ForInStep.yield ok)else pure (ForInStep.yield r)) (fun ok s₃=>
      if ok=true then wpAny (model prog w) A (eval elt env) (fun x s₄=>
       wpAny (model prog w) A (call (.builtin "list.append") [acc,x]) (fun _ s₅=>∃m,m<n∧I m s₅) (fun _ _=>False) s₄) (fun _ _=>False) s₃
      else∃m,m<n∧I m s₃) (fun _ _=>False) s₂) (fun _ _=>False) s₀) (fun _ _=>False) s₁) (fun _ _=>False) s)
 (n:Nat) (h:I n s):
 codeAny (model prog w) A (.compLoop (.ListComp elt [⟨target,iter,ifs,0⟩] scope pos) 0 it acc env) R s:=by
 refine codeAny_loop rfl I (fun n s hI=>?_) n h
 show wpAny _ A ((compTurn (.ListComp elt [⟨target,iter,ifs,0⟩] scope pos) 0 it acc env).onRaise (fun x=>do noteFrame x env;theTreesLotGoes x)) _ _ s
 refine wpAny_noted ?_
 rw[compTurn_list]
 refine wpAny_bind (wpAny_standAt (wpAny_bind (wpAny_mono (turn n s hI) (fun r s₁ h₁=>?_) fun _ _ h'=>h'.elim)))
 cases r with
 |none=>exact wpAny_pure h₁
 |some v=>
  refine wpAny_bind (wpAny_mono h₁ (fun _ s₀ h₀=>?_) fun _ _ h'=>h'.elim)
  refine wpAny_bind (wpAny_mono h₀ (fun _ s₂ h₂=>wpAny_bind (wpAny_mono h₂ (fun ok s₃ h₃=>?_) fun _ _ h'=>h'.elim)) fun _ _ h'=>h'.elim)
  cases ok with
  |false=>exact wpAny_pure ⟨rfl,h₃⟩
  |true=>
   exact wpAny_bind (wpAny_bind (wpAny_mono h₃ (fun x s₄ h₄=>wpAny_bind (wpAny_mono h₄ (fun _ s₅ h₅=>wpAny_pure (wpAny_pure ⟨rfl,h₅⟩)) fun _ _ h'=>h'.elim)) fun _ _ h'=>h'.elim))
end
noncomputable def fk(cells:List (Str×Addr)):List (Str×NameKind)→List (Str×Addr)→List (Str×Addr)
 | [],acc=>acc
 |(n,k)::r,acc=>if k== .free then(match cells.lookup n with|some c=>fk cells r ((n,c)::acc)|none=>fk cells r acc)else fk cells r acc
theorem fc{cells:List (Str×Addr)}:∀(names:List (Str×NameKind)) (acc:List (Str×Addr)),(∀x c,acc.lookup x=some c→cells.lookup x=some c)→
 ∀x c,(fk cells names acc).lookup x=some c→cells.lookup x=some c
 | [],acc,h,x,c,e=>h x c e
 |(n,k)::r,acc,h,x,c,e=>by
  unfold fk at e
  split at e
  · split at e
    · rename_i d q
      refine fc r _ (fun y b e'=>?_) x c e
      rw[List.lookup_cons]at e'
      split at e'
      · rename_i z
        cases e'
        have z':y=n:=by simpa using z
        rw[z'];exact q
      · exact h y b e'
    · exact fc r _ h x c e
  · exact fc r _ h x c e
theorem kr{cells:List (Str×Addr)}{x:Str}:∀(names:List (Str×NameKind)) (acc:List (Str×Addr)),(∃c,cells.lookup x=some c)→((x,NameKind.free)∈names∨∃c,acc.lookup x=some c)→
 ∃c,(fk cells names acc).lookup x=some c
 | [],acc,_,h=>by
   rcases h with h|h
   · simp at h
   · exact h
 |(n,k)::r,acc,hc,h=>by
  unfold fk
  split
  · rename_i hk
    split
    · rename_i d q
      refine kr r _ hc ?_
      rcases h with h|⟨c,h⟩
      · rcases List.mem_cons.mp h with e|e
        · cases e
          exact .inr ⟨d,by simp[List.lookup_cons]⟩
        · exact .inl e
      · refine .inr ?_
        rw[List.lookup_cons]
        split
        · exact⟨_,rfl⟩
        · exact⟨c,h⟩
    · rename_i q
      refine kr r _ hc ?_
      rcases h with h|h
      · rcases List.mem_cons.mp h with e|e
        · cases e
          obtain⟨c,hc⟩:=hc
          rw[hc]at q;cases q
        · exact .inl e
      · exact .inr h
  · rename_i hk
    refine kr r _ hc ?_
    rcases h with h|h
    · rcases List.mem_cons.mp h with e|e
      · cases e
        exact absurd rfl hk
      · exact .inl e
    · exact .inr h
theorem nX{scope:Scope}{env:Env}(h:∀x∈scope.names,x.2= .free→∃c,env.cells.lookup x.1=some c):closureFor scope env=pure (fk env.cells scope.names []):=by
 have key:∀(names:List (Str×NameKind)) (acc:List (Str×Addr)),(∀x∈names,x.2= .free→∃c,env.cells.lookup x.1=some c)→
  (forIn names acc (fun(x:Str×NameKind) (cs:List (Str×Addr))=>if(x.2==NameKind.free)=true then(do let a ←cellOf env x.1;pure (ForInStep.yield ((x.1,a)::cs)):Sem (ForInStep (List (Str×Addr))))else pure (ForInStep.yield cs)))=(pure (fk env.cells names acc):Sem (List (Str×Addr))):=by
  intro names
  induction names with
  |nil=>intro acc _;rfl
  |cons p r ih=>
   intro acc hh
   obtain⟨n,k⟩:=p
   rw[List.forIn_cons]
   have ih':=ih
   by_cases hk:(k==NameKind.free)=true
   · obtain⟨c,e⟩:=hh (n,k) List.mem_cons_self (by simpa using hk)
     simp only[hk,if_true]
     have e1:cellOf env n=pure c:=by
      unfold cellOf
      rw[e]
     rw[e1]
     simp only[pure_bind]
     rw[ih _ fun x hx=>hh x (List.mem_cons_of_mem _ hx)]
     conv=>rhs;unfold fk
     simp only[hk,if_true]
     rw[show env.cells.lookup n=some c from e]
   · have hk':(k==NameKind.free)=false:=by simpa using hk
     simp only[hk',Bool.false_eq_true,if_false,pure_bind]
     rw[ih _ fun x hx=>hh x (List.mem_cons_of_mem _ hx)]
     conv=>rhs;unfold fk
     simp only[hk',Bool.false_eq_true,if_false]
 unfold closureFor
 have:=key scope.names [] h
 rw[bind_pure]
 first
  |exact this
  |(simp only[bind_pure]at this⊢;exact this)
end L3
namespace L3
open PySem PySem.Spec L2
open PyProof.Rows hiding St
theorem iH(env:Env):∀(names:List (Str×NameKind)) (x:Str),
 (names.map fun(n,k)=>if(k==NameKind.free&&env.scope.kind== .function&&env.kindOf n==some .cell)then(n,NameKind.cell)else(n,k)).lookup x=
   (names.lookup x).map fun k=>if(k==NameKind.free&&env.scope.kind== .function&&env.kindOf x==some .cell)then NameKind.cell else k
 | [],_=>rfl
 |(n,k)::r,x=>by
  show List.lookup x ((if(k==NameKind.free&&env.scope.kind== .function&&env.kindOf n==some .cell)=true then(n,NameKind.cell)else(n,k))::_)=_
  cases hx:x==n with
  |true=>
   have e:x=n:=by simpa using hx
   subst e
   by_cases hc:(k==NameKind.free&&env.scope.kind== .function&&env.kindOf x==some .cell)=true
   · rw[if_pos hc];simp only[List.lookup_cons,beq_self_eq_true,Option.map_some];rw[if_pos hc]
   · rw[if_neg hc];simp only[List.lookup_cons,beq_self_eq_true,Option.map_some];rw[if_neg hc]
  |false=>
   by_cases hc:(k==NameKind.free&&env.scope.kind== .function&&env.kindOf n==some .cell)=true
   · rw[if_pos hc];simp only[List.lookup_cons,hx];exact iH env r x
   · rw[if_neg hc];simp only[List.lookup_cons,hx];exact iH env r x
theorem wt{env:Env}{scope:Scope}{x:Str}(h:scope.names.lookup x=some .free):(relabel scope env).names.lookup x=some .cell∨(relabel scope env).names.lookup x=some .free:=by
 have e:(relabel scope env).names.lookup x=_:=iH env scope.names x
 rw[e,h]
 simp only[Option.map_some]
 split
 · exact .inl rfl
 · exact .inr rfl
theorem vM{env:Env}{scope:Scope}{x:Str}(h:(relabel scope env).names.lookup x=some .cell∨(relabel scope env).names.lookup x=some .free):(x,NameKind.free)∈scope.names∨scope.names.lookup x=some .cell:=by
 have e:(relabel scope env).names.lookup x=_:=iH env scope.names x
 rw[e]at h
 cases q:scope.names.lookup x with
 |none=>rw[q]at h;rcases h with h|h<;>cases h
 |some k=>
  rw[q]at h
  simp only[Option.map_some]at h
  have m:=PySem.mem_of_lookup q
  by_cases hc:(k==NameKind.free&&env.scope.kind== .function&&env.kindOf x==some .cell)=true
  · have:k= .free:=by
     simp only[Bool.and_eq_true]at hc
     simpa using hc.1.1
    subst this;exact .inl m
  · rw[if_neg hc]at h
    rcases h with h|h
    · cases h;exact .inr rfl
    · cases h;exact .inl m
theorem gp:∀(names:List (Str×NameKind)) (L:Nat) (acc:List (Str×Addr)),cellsFrom L names acc=cellsFrom L names []++acc
 | [],_,_=>rfl
 |(n,k)::r,L,acc=>by
  unfold cellsFrom
  by_cases hk:(k==NameKind.cell)=true
  · rw[if_pos hk,if_pos hk,gp r (L+1) ((n,L)::acc),gp r (L+1) [(n,L)],List.append_assoc];rfl
  · rw[if_neg hk,if_neg hk];exact gp r L acc
theorem oF:∀ {names:List (Str×NameKind)} {L:Nat} {x:Str} {c:Addr},(x,c)∈cellsFrom L names []→(x,NameKind.cell)∈names
 | [],_,_,_,h=>by unfold cellsFrom at h;cases h
 |(n,k)::r,L,x,c,h=>by
  unfold cellsFrom at h
  by_cases hk:(k==NameKind.cell)=true
  · rw[if_pos hk,gp]at h
    have hk':k= .cell:=by simpa using hk
    subst hk'
    rcases List.mem_append.mp h with h|h
    · exact List.mem_cons_of_mem _ (oF h)
    · have:(x,c)=(n,L):=by simpa using h
      cases this
      exact List.mem_cons_self
  · rw[if_neg hk]at h
    exact List.mem_cons_of_mem _ (oF h)
theorem nD:∀ {l1 l2:List (Str×Addr)} {x:Str} {c:Addr},(l1++l2).lookup x=some c→l1.lookup x=some c∨(l1.lookup x=none∧l2.lookup x=some c)
 | [],_,_,_,h=> .inr ⟨rfl,h⟩
 |(n,d)::l1,l2,x,c,h=>by
  rw[List.cons_append,List.lookup_cons]at h
  rw[List.lookup_cons]
  cases hx:x==n with
  |true=>rw[hx]at h;exact .inl h
  |false=>rw[hx]at h;exact nD h
theorem qh:∀ {l1 l2:List (Str×Addr)} {x:Str},l1.lookup x=none→(l1++l2).lookup x=l2.lookup x
 | [],_,_,_=>rfl
 |(n,d)::l1,l2,x,h=>by
  rw[List.lookup_cons]at h
  rw[List.cons_append,List.lookup_cons]
  cases hx:x==n with
  |true=>rw[hx]at h;cases h
  |false=>rw[hx]at h;exact qh h
noncomputable def kz(scope:Scope)(C:Addr)(cl:List (Str×Addr)):List (Str×Addr):=cellsFrom (C+1) scope.names cl
theorem iy{scope:Scope}{C:Addr}{cl:List (Str×Addr)}{x:Str}{c:Addr}(h:(kz scope C cl).lookup x=some c):(x,c)∈cellsFrom (C+1) scope.names []∨cl.lookup x=some c:=by
 unfold kz at h
 rw[gp]at h
 rcases nD h with h|h
 · exact .inl (PySem.mem_of_lookup h)
 · exact .inr h.2
theorem GQ(names:List (Str×NameKind))(h:Heap){C:Addr}(e:h.objs.size=C+1):CellsOk (pushCells h names) (C+1) (cellsFrom (C+1) names []):=by
 have:=cellsFrom_ok names h (C+1) [] ⟨fun _ _ hm=>(nomatch hm),List.Pairwise.nil⟩ (by rw[e];exact Nat.le_refl _)
 rw[e]at this
 exact this
theorem lq{names:List (Str×NameKind)}{C:Addr}{x:Str}{c:Addr}:∀ {L:Nat},C≤L→(x,c)∈cellsFrom L names []→C≤c:=by
 induction names with
 |nil=>intro L _ h;unfold cellsFrom at h;cases h
 |cons p r ih=>
  obtain⟨n,k⟩:=p
  intro L hL h
  unfold cellsFrom at h
  by_cases hk:(k==NameKind.cell)=true
  · rw[if_pos hk,gp]at h
    rcases List.mem_append.mp h with h|h
    · exact ih (Nat.le_trans hL (Nat.le_succ L)) h
    · have:(x,c)=(n,L):=by simpa using h
      cases this
      exact hL
  · rw[if_neg hk]at h
    exact ih hL h
theorem own_apart{names:List (Str×NameKind)}{x y:Str}{c:Addr}:∀ {L:Nat},(x,c)∈cellsFrom L names []→(y,c)∈cellsFrom L names []→x=y:=by
 induction names with
 |nil=>intro L h;unfold cellsFrom at h;cases h
 |cons p r ih=>
  obtain⟨n,k⟩:=p
  intro L h1 h2
  unfold cellsFrom at h1 h2
  by_cases hk:(k==NameKind.cell)=true
  · rw[if_pos hk,gp]at h1 h2
    rcases List.mem_append.mp h1 with g1|g1<;>rcases List.mem_append.mp h2 with g2|g2
    · exact ih g1 g2
    · have e2:(y,c)=(n,L):=by simpa using g2
      have ec:c=L:=(Prod.mk.inj e2).2
      have:=lq (C:=L+1) (Nat.le_refl _) g1
      rw[ec]at this
      exact absurd this (Nat.not_succ_le_self _)
    · have e1:(x,c)=(n,L):=by simpa using g1
      have ec:c=L:=(Prod.mk.inj e1).2
      have:=lq (C:=L+1) (Nat.le_refl _) g2
      rw[ec]at this
      exact absurd this (Nat.not_succ_le_self _)
    · have e1:(x,c)=(n,L):=by simpa using g1
      have e2:(y,c)=(n,L):=by simpa using g2
      exact(Prod.mk.inj e1).1.trans (Prod.mk.inj e2).1.symm
  · rw[if_neg hk]at h1 h2
    exact ih h1 h2
theorem qJ{M:Model}{A:Around}{E:Value→Shared→Prop}{s:Shared}{scope:Scope}{globals:Addr}{cl:List (Str×Addr)}{qual:Str}{env:Env}{Q:Env→Shared→Prop}
 (hQ:Q (newEnv scope s.heap.objs.size globals (kz scope s.heap.objs.size cl) qual none .none (some env) builtinsNs) {s with heap:=pushCells (s.heap.push {cls:= .type "dict",data:= .dict #[]}) scope.names}):
 wpAny M A (newFunctionEnv scope globals cl [] qual none .none (some env)) Q E s:=by
 simp only[newFunctionEnv,Option.isSome_some,if_true]
 refine wpAny_bind (wpAny_alloc ?_)
 refine wpAny_bind (wpAny_layCells _ (fun name kind cells=>by cases hkc:kind==NameKind.cell<;>simp[hkc]) _ _ _ _ ?_)
 rw[show({s with heap:=s.heap.push {cls:= .type "dict",data:= .dict #[]}}:Shared).heap.objs.size=s.heap.objs.size+1 from Heap.size_push ..]
 rw[List.forIn_nil]
 exact wpAny_bind (wpAny_pure (wpAny_pure hQ))
structure bT(X:Cx)(scope:Scope)(Nc:List Str)(fr:List (Option Nat)):Prop where
 kind:scope.kind= .function
 cells:∀x∈scope.names,x.2= .cell→scope.names.lookup x.1=some .cell
 names:∀x∈scope.names,x.2= .local→scope.names.lookup x.1=some .local
 free:∀x∈scope.names,x.2= .free→X.env.kindOf x.1=some .cell∨X.env.kindOf x.1=some .free
 len:fr.length=Nc.length
 map:∀(i j:Nat) (x:Str),Nc[i]?=some x→fr[i]?=some (some j)→X.N[j]?=some x∧scope.names.lookup x=some .free∧(X.env.kindOf x=some .cell∨X.env.kindOf x=some .free)
noncomputable def σC(fr:List (Option Nat))(σ:St):St:=fr.map fun o=>o.bind fun j=>(σ[j]?).join
noncomputable def fV(X:Cx)(scope:Scope)(Nc:List Str)(C:Addr)(s:Shared)(H:Hp)(ex:List Addr):Cx:=
 {X with N:=Nc,s₀:=s,H₀:=H,env:=compEnvC scope (kz scope C (fk X.env.cells scope.names [])) C X.env,outer:=X.stack,stack:=X.stack,ex:=ex,fn:=fun x=>scope.names.lookup x==some .cell,pn:=[],xe:=fun _ _=>False}
noncomputable def rT(wi:TI)(fr:List (Option Nat))(g:TG)(c:TT)(te:TE):TE:=fun σ H Q=>wi σ H fun J H1=>∀l,H1 l=none→
 ∃W:Nat→Nat→L2.St→Hp→Prop,(∃m,W 0 m (σC fr σ) (upd H1 l (.lst [])))∧∀i m σ H,W i m σ H→
  (J.stop i H∧Q (.ref l) H)∨(J.go i H∧∃N:L2.St→Hp→Prop,(∀σ' H',N σ' H'→∃m',m'<m∧W (i+1) m' σ' H')∧∀x H',J.mj i H x H'→
    g x σ H' fun σ2 H2=>c σ2 H2 fun b H3=>if b=true then te σ2 H3 fun y H4=>∃ys,H4 l=some (.lst ys)∧ys.length<sizeLine∧N σ2 (upd H4 l (.lst (ys++[y])))else N σ2 H3)
noncomputable def rh(X:Cx)(ifs:List Expr)(t:TT):Prop:=
 ∀(pins:List (Addr×Obj)) (s:Shared) (σ:St) (H:Hp) (Q:Bool→Hp→Prop),Inv X pins σ H s→t σ H Q→
  wpAny (model X.prog X.w) X.A (forIn ifs true fun c r=>if r=true then do let ok ←isTrue c X.env (eval c X.env);pure (ForInStep.yield ok)else pure (ForInStep.yield r)) (TP X pins σ Q) X.xe s
noncomputable def JK:TT:=fun _ H Q=>Q true H
theorem DZ{X:Cx}:rh X [] JK:=fun _ _ _ H _ I h=>wpAny_tests_nil ⟨H,I,h⟩
section
variable {X:Cx}{scope:Scope}{Nc:List Str}{fr:List (Option Nat)}{pins:List (Addr×Obj)}{σ:St}{H:Hp}{s:Shared}
theorem Ft{C:Addr}{fp:List Addr}(S:bT X scope Nc fr)(I:Inv X pins σ H s)(hC:C=s.heap.objs.size)(hf:∀b∈fp,j5 X pins H b)(hlt:∀b∈fp,b<s.heap.objs.size)(hnc:∀b∈fp,∀x c,X.env.cells.lookup x=some c→c≠b):
 (fV X scope Nc C s H fp).Ok where
 mod:=I.ok.mod
 kind:=S.kind
 glob:=I.ok.glob
 blt:=I.ok.blt
 above:=Nat.le_of_eq hC.symm
 inj:=fun x y c h1 h2=>by
  have low:∀ {z},(fk X.env.cells scope.names []).lookup z=some c→c<s.heap.objs.size:=fun{z} hz=>by
   obtain⟨v,q⟩:=I.cell z c (fc _ [] (fun _ _ e=>by cases e) z c hz)
   exact q.lt
  rcases iy h1 with h1|h1<;>rcases iy h2 with h2|h2
  · exact own_apart h1 h2
  · have a:=lq (C:=C+1) (Nat.le_refl _) h1
    have b:c<C:=by rw[hC];exact low h2
    exact absurd a (Nat.not_le_of_gt (Nat.lt_succ_of_lt b))
  · have a:=lq (C:=C+1) (Nat.le_refl _) h2
    have b:c<C:=by rw[hC];exact low h1
    exact absurd a (Nat.not_le_of_gt (Nat.lt_succ_of_lt b))
  · exact I.ok.inj x y c (fc _ [] (fun _ _ e=>by cases e) x c h1) (fc _ [] (fun _ _ e=>by cases e) y c h2)
 has:=fun x hx=>by
  rcases vM hx with m|m
  · obtain⟨c,e⟩:=kr scope.names [] (I.ok.has x (S.free _ m rfl)) (.inl m)
    exact Option.isSome_iff_exists.mp (PySem.W.cellsFrom_some _ _ _ (.inr (by rw[e];rfl)))
  · exact Option.isSome_iff_exists.mp (PySem.W.cellsFrom_some _ _ _ (.inl m))
 xB:=fun x c hf h=>by
  have hl:scope.names.lookup x=some .cell:=by
   have:(scope.names.lookup x==some .cell)=true:=hf
   simpa using this
  obtain⟨c',e⟩:=Option.isSome_iff_exists.mp (PySem.W.cellsFrom_some (x:=x) scope.names (C+1) [] (.inl hl))
  have h':(cellsFrom (C+1) scope.names []++fk X.env.cells scope.names []).lookup x=some c:=by
   rw[←gp];exact h
  rcases nD h' with q|q
  · have:=lq (C:=C+1) (Nat.le_refl _) (PySem.mem_of_lookup q)
    show s.heap.objs.size≤c
    rw[←hC];exact Nat.le_of_succ_le this
  · rw[q.1]at e;cases e
 hd:=I.ok.hd
 frames:=I.ok.frames
 z8:= .inl rfl
 CF:=fun b hb=>⟨by rw[show(fV X scope Nc C s H fp).env.locals=s.heap.objs.size from hC];exact Nat.ne_of_lt (hlt b hb),fun x c h=>by
  rcases iy h with h|h
  · have a:=lq (C:=C+1) (Nat.le_refl _) h
    have b':b<C:=by rw[hC];exact hlt b hb
    exact Nat.ne_of_gt (Nat.lt_of_lt_of_le b' (Nat.le_of_succ_le a))
  · exact hnc b hb x c (fc _ [] (fun _ _ e=>by cases e) x c h)⟩
 bs:=I.bs
 rS:=Nat.le_trans I.ok.rS I.sz
 sS:=fun b o e hb=>by
  have hn:=(hf b hb).2.2.2.1
  rcases hn with hn|hn
  · exact I.ok.sS b o e hn
  · exact absurd (Heap.lt_size (I.ok.bs b o e).1) (Nat.not_lt.mpr hn)
 sV:=fun b hb z=>by
  have q:=I.vf b z
  rcases List.mem_cons.mp q with q|q
  · exact(hf b hb).2.1 q
  · exact(hf b hb).2.2.1 q
 jR:=I.stack
 t5:=fun b hb=>I.xT b hb
 gt:=I.ok.gt
theorem En{i:Nat}{v:V}(h:(σC fr σ)[i]?=some (some v)):∃j,fr[i]?=some (some j)∧σ[j]?=some (some v):=by
 unfold σC at h
 rw[List.getElem?_map]at h
 cases q:fr[i]? with
 |none=>rw[q]at h;cases h
 |some o=>
  rw[q]at h
  cases o with
  |none=>simp at h
  |some j=>
   simp only[Option.map_some,Option.some.injEq,Option.bind_some]at h
   refine⟨j,rfl,?_⟩
   cases r:σ[j]? with
   |none=>rw[r]at h;cases h
   |some u=>rw[r]at h;simp at h;rw[h]
theorem Bo{s':Shared}{h':Heap}{C:Addr}{fp:List Addr}{t':Nat}(S:bT X scope Nc fr)(I:Inv X pins σ H s)(hC:C=s.heap.objs.size)(ok:(fV X scope Nc C s H fp).Ok)(hfr:∀b∈fp,H b=none)
 (k:∀b o,s.heap.get? b=some o→h'.get? b=some o) (hn:h'.Ns C (fun _=>none)) (hcs:∀x c,(x,c)∈cellsFrom (C+1) scope.names []→h'.IsCell c none):Inv (fV X scope Nc C s H fp) [] (σC fr σ) H {s with heap:=h',toks:=t'} where
 ok:=ok
 os:=rfl
 bare:=I.bare
 base:=Un.kept k
 loc:=⟨_,hn,fun i x v h1 h2 h3=>by
  obtain⟨j,q1,q2⟩:=En h2
  obtain⟨n1,n2,n3⟩:=S.map i j x h1 q1
  obtain⟨m,hm,hl⟩:=I.loc
  have vis:vV X.env.scope x:=by
   rcases n3 with z|z
   · exact .inr (.inl z)
   · exact .inr (.inr z)
  obtain⟨u,r,lk⟩:=hl j x v n1 q2 vis
  refine⟨u,r,?_⟩
  rcases lk with⟨z,_⟩|⟨z,c,e,ic⟩
  · rcases n3 with y|y
    · rw[y]at z;cases z
    · rw[y]at z;cases z
  · refine .inr ⟨wt n2,?_⟩
    obtain⟨c',e'⟩:=kr scope.names [] ⟨c,e⟩ (.inl (PySem.mem_of_lookup n2))
    have e2:=fc _ [] (fun _ _ e=>by cases e) x c' e'
    rw[e]at e2;cases e2
    refine⟨c,?_,ic.keeps k⟩
    show(kz scope C (fk X.env.cells scope.names [])).lookup x=some c
    unfold kz
    rw[gp,qh ?_]
    · exact e'
    · cases q:(cellsFrom (C+1) scope.names []).lookup x with
      |none=>rfl
      |some c2=>
       have:=S.cells _ (oF (PySem.mem_of_lookup q)) rfl
       rw[n2]at this;cases this⟩
 cell:=fun x c h=>by
  rcases iy h with h|h
  · exact⟨_,hcs x c h⟩
  obtain⟨v,q⟩:=I.cell x c (fc _ [] (fun _ _ e=>by cases e) x c h)
  exact⟨v,q.keeps k⟩
 free:=by show H C=none;rw[hC];exact I.aP.fresh (Nat.le_refl _)
 jI:=fun x c h=>by
  rcases iy h with h|h
  · have a:=lq (C:=C+1) (Nat.le_refl _) h
    exact I.aP.fresh (by rw[←hC];exact Nat.le_of_succ_le a)
  · exact I.jI x c (fc _ [] (fun _ _ e=>by cases e) x c h)
 pin:=fun p hp=>by cases hp
 aP:=I.aP.kept k
 len:=by unfold σC;rw[List.length_map];exact S.len
theorem Inv.forget{C:Addr}{h':Heap}(I:Inv X pins σ H s)(f:j5 X pins H C)(hs:Heap.SameBut C s.heap h'):Inv X pins σ H {s with heap:=h'}:=by
 refine I.CU (s':={s with heap:=h'}) (ch:=[C]) rfl ?_ ?_ I.bare fun b hb=>?_
 · have ne:∀b,b∉[C]→b≠C:=fun b hb z=>hb (by simp[z])
   exact{keep:=fun b o q _ _ hx=>(hs.2 b (ne b hx)).trans q,slot:=fun b o q _ _ hx=>⟨o.slots,(hs.2 b (ne b hx)).trans q⟩,free:=fun b o q n _=>n,there:=fun b o q hx=>⟨o,(hs.2 b (ne b hx)).trans q⟩,ny:=fun _ _ e=>e,mI:=fun _ _ _ e=>e,mH:=fun b ps e=>⟨#[],by rw[e];simp⟩}
 · intro a o q
   have na:∀b u,H b=some u→b≠C:=fun b u q z=>by rw[z,f.1]at q;cases q
   refine(I.aP a o q).oN (fun b u hb e=>?_) (fun _ q=>q) fun _ _ q=>q
   rw[hs.2 b ?_]
   · exact e
   · rcases hb with rfl|hb
     · exact na _ _ q
     · exact na _ _ hb
 · have:b=C:=by simpa using hb
   subst this
   exact⟨f.2.2.2.1,f.2.1,f.2.2.2.2.1,f.2.2.2.2.2⟩
theorem rQ{elt tg iter:Expr}{ifs:List Expr}{wi:TI}{g:TG}{c:TT}{te:TE}{pos:Pos}{Q:VK}{RR:Value→Addr→Result→Shared→Prop}(hx:X.xe=fun _ _=>False)(hc:X.calm=true)(S:bT X scope Nc fr)(hi:PI X tg iter wi)
 (hg:∀C s H ex,PG (fV X scope Nc C s H ex) tg g) (ht:∀C s H ex,rh (fV X scope Nc C s H ex) ifs c) (he:∀C s H ex,PE (fV X scope Nc C s H ex) elt te) (I:Inv X pins σ H s) (h:rT wi fr g c te σ H Q)
 (fin:∀(l C:Addr) (s6:Shared) (H5:Hp) (m:Str→Option Value),s6.heap.Ns C m→j5 X pins H5 C→Inv X pins σ H5 s6→Q (.ref l) H5→RR (.ref l) C (.ok .next) s6):
 wpAny (model X.prog X.w) X.A (eval iter X.env) (fun x s₁=>wpAny (model X.prog X.w) X.A (pyIter x) (fun it s₂=>wpAny (model X.prog X.w) X.A (newList []) (fun acc s₃=>
  wpAny (model X.prog X.w) X.A (newFunctionEnv scope X.env.globals (fk X.env.cells scope.names []) [] X.env.qual none .none (some X.env)) (fun cenv s₄=>
   codeAny (model X.prog X.w) X.A (.compStart (.ListComp elt [⟨tg,iter,ifs,0⟩] scope pos) 0 it acc {cenv with scope:=relabel scope X.env}) (RR acc cenv.locals) s₄) X.xe s₃) X.xe s₂) X.xe s₁) X.xe s:=by
 refine bD (hi pins s σ H _ I h) fun v s1 h1=>bD h1 fun itv s2 h2=>?_
 obtain⟨it,fp,tn,J,H2,e,I2,T,st2,f2,hR⟩:=h2
 subst e
 refine wpAny_newList ?_ (Nat.zero_le _)
 have I3:=I2.B3 (t':=s2.toks) (its:=[]) (ys:=[]) .nil (Nat.zero_le _)
 generalize e3:({s2 with heap:=s2.heap.push {cls:= .type "list",data:= .seq ([]:List Value).toArray}}:Shared)=s3
 have I3:Inv X pins σ (upd H2 s2.heap.objs.size (.lst [])) s3:=by rw[←e3];exact I3
 have ml:s2.heap.objs.size<s3.heap.objs.size:=by rw[←e3];show _<(s2.heap.push _).objs.size;rw[Heap.size_push];omega
 have k3:∀b o,s2.heap.get? b=some o→s3.heap.get? b=some o:=fun b o q=>by rw[←e3];exact Heap.get?_push_of_some _ q
 obtain⟨W,⟨m0,w0⟩,turn⟩:=hR s2.heap.objs.size (I2.aP.fresh (Nat.le_refl _))
 refine qJ ?_
 have hn:(pushCells (s3.heap.push {cls:= .type "dict",data:= .dict #[]}) scope.names).Ns s3.heap.objs.size (fun _=>none):=(Heap.Ns.new s3.heap (.type "dict")).keeps (pushCells_keeps _ _)
 have hcs:∀x c,(x,c)∈cellsFrom (s3.heap.objs.size+1) scope.names []→(pushCells (s3.heap.push {cls:= .type "dict",data:= .dict #[]}) scope.names).IsCell c none:=fun x c h=>((GQ scope.names _ (Heap.size_push ..)).empty x c h).1
 have k4:∀b o,s3.heap.get? b=some o→(pushCells (s3.heap.push {cls:= .type "dict",data:= .dict #[]}) scope.names).get? b=some o:=fun b o q=>pushCells_keeps _ _ b o (Heap.get?_push_of_some _ q)
 generalize(pushCells (s3.heap.push {cls:= .type "dict",data:= .dict #[]}) scope.names)=h' at hn hcs k4⊢
 have hobj:∀b∈fp,∃o,s2.heap.get? b=some o∧∀v,o.data≠ .cell v:=T.obj _ _ st2
 have hlt2:∀b∈fp,b<s3.heap.objs.size:=fun b hb=>let⟨o,q,_⟩:=hobj b hb;Heap.lt_size (k3 b o q)
 have hnl:∀b∈fp,b≠s2.heap.objs.size:=fun b hb=>by
  obtain⟨o,q,_⟩:=hobj b hb
  exact Nat.ne_of_lt (Heap.lt_size q)
 have f3:∀b∈fp,j5 X pins (upd H2 s2.heap.objs.size (.lst [])) b:=fun b hb=>⟨by rw[aE (hnl b hb)];exact(f2 b hb).1,(f2 b hb).2⟩
 have ok:=Ft (C:=s3.heap.objs.size) (fp:=fp) S I3 rfl f3 hlt2 fun b hb=>(f2 b hb).2.2.2.2.1
 have I4:Inv (fV X scope Nc s3.heap.objs.size s3 (upd H2 s2.heap.objs.size (.lst [])) fp) [] (σC fr σ) (upd H2 s2.heap.objs.size (.lst [])) {s3 with heap:=h',toks:=s3.toks}:=
  Bo (s':=s3) S I3 rfl ok (fun b hb=>(f3 b hb).1) k4 hn hcs
 have st4:tn 0 h':=T.keep _ _ _ st2 fun b _ o q=>k4 b o (k3 b o q)
 generalize hXc:fV X scope Nc s3.heap.objs.size s3 (upd H2 s2.heap.objs.size (.lst [])) fp=Xc at I4
 have hgc:PG Xc tg g:=by rw[←hXc];exact hg _ _ _ _
 have htc:rh Xc ifs c:=by rw[←hXc];exact ht _ _ _ _
 have hec:PE Xc elt te:=by rw[←hXc];exact he _ _ _ _
 have xP:Xc.prog=X.prog:=by rw[←hXc];rfl
 have xW:Xc.w=X.w:=by rw[←hXc];rfl
 have xK:Xc.K=X.K:=by rw[←hXc];rfl
 have xc:Xc.calm=true:=by rw[←hXc];exact hc
 have xA:Xc.A=X.A:=by rw[←hXc];rfl
 have xE:Xc.env=compEnvC scope (kz scope s3.heap.objs.size (fk X.env.cells scope.names [])) s3.heap.objs.size X.env:=by rw[←hXc];rfl
 have xx:Xc.xe=fun _ _=>False:=by rw[←hXc];rfl
 have fpc:∀ {H':Hp},(∀b∈fp,H' b=none)→∀b∈fp,j5 Xc [] H' b:=fun{H'} hn b hb=>by
  rw[←hXc]
  refine⟨hn b hb,Nat.ne_of_lt (hlt2 b hb),ok.sV b hb,.inl hb,(ok.CF b hb).2,fun p hp=>by cases hp⟩
 have loop:codeAny (model X.prog X.w) X.A (.compLoop (.ListComp elt [⟨tg,iter,ifs,0⟩] scope pos) 0 (.ref it) (.ref s2.heap.objs.size) (compEnvC scope (kz scope s3.heap.objs.size (fk X.env.cells scope.names [])) s3.heap.objs.size X.env))
  (RR (.ref s2.heap.objs.size) s3.heap.objs.size) {s3 with heap:=h',toks:=s3.toks}:=by
  refine wN (fun n s'=>∃i σ' H',Inv Xc [] σ' H' s'∧tn i s'.heap∧(∀b∈fp,H' b=none)∧W i n σ' H') ?_ m0 ⟨0,_,_,I4,st4,fun b hb=>(f3 b hb).1,w0⟩
  rintro n s5 ⟨i,σ5,H5,I5,st5,fr5,w5⟩
  rcases turn i n σ5 H5 w5 with⟨stop,qn⟩|⟨go,N,hN,step⟩
  · have q:=T.done Xc xP xW xK xc i [] s5 σ5 H5 (fun _ _=>False) I5 (fpc fr5) st5 stop
    rw[xA]at q
    refine bD q fun r s6 ⟨hr,I6⟩=>?_
    subst hr
    obtain⟨m,hm,_⟩:=I6.loc
    rw[xE]at hm
    have free6:H5 s3.heap.objs.size=none:=by have:=I6.free;rw[xE]at this;exact this
    have un6:Un (mZ X.stack) fp (upd H2 s2.heap.objs.size (.lst [])) H5 s3.heap s6.heap:=by have:=I6.base;rw[←hXc]at this;exact this
    have os6:s6.os=s3.os:=by have:=I6.os;rw[←hXc]at this;exact this
    have hok6:g6 X.prog X.w H5 s6.heap:=by have:=I6.aP;rw[xP,xW]at this;exact this
    have J:=I3.CU (s':=s6) (ch:=fp) os6 un6 hok6 I6.bare fun b hb=>⟨(f3 b hb).2.2.2.1,(f3 b hb).2.1,(f3 b hb).2.2.2.2.1,(f3 b hb).2.2.2.2.2⟩
    exact fin _ _ s6 H5 m hm (I3.qz (Nat.le_refl _) free6) J qn
  · have q:=T.item Xc xP xW xK xc i [] s5 σ5 H5 (fun _ _=>False) I5 (fpc fr5) st5 go
    rw[xA]at q
    refine bD q fun r s6 ⟨u,hr,h6⟩=>?_
    subst hr
    refine bD h6 fun _ s7 ⟨x,H7,I7,r7,y7,st7,fr7⟩=>?_
    have I7':=I7.pinned (fpc fr7) (T.obj _ _ st7)
    have q8:=hgc _ s7 σ5 H7 x u _ I7' r7 (step x H7 y7)
    rw[xP,xW,xA,xE,xx]at q8
    refine bD q8 fun _ s8 ⟨σ8,H8,I8,q8⟩=>?_
    have q9:=htc _ s8 σ8 H8 _ I8 q8
    rw[xP,xW,xA,xE,xx]at q9
    refine bD q9 fun b s9 ⟨H9,I9,q9⟩=>?_
    have again:∀ {H':Hp} {s':Shared},Inv Xc ([]++oX fp s7.heap) σ8 H' s'→N σ8 H'→∃m,m<n∧∃i σ' H',Inv Xc [] σ' H' s'∧tn i s'.heap∧(∀b∈fp,H' b=none)∧W i m σ' H':=fun{H' s'} J nn=>by
     obtain⟨m',hm,w7⟩:=hN σ8 H' nn
     refine⟨m',hm,i+1,σ8,H',J.nk,T.keep _ _ _ st7 fun b hb o e=>(J.pin (b,o) (List.mem_append_right _ (List.mem_append_right _ (kP hb e)))).1,fun b hb=>?_,w7⟩
     obtain⟨o,e,d⟩:=T.obj _ _ st7 b hb
     exact(J.pin (b,o) (List.mem_append_right _ (List.mem_append_right _ (kP hb e)))).2.1
    cases b with
    |false=>exact again I9 q9
    |true=>
     have qe:=hec _ s9 σ8 H9 _ I9 q9
     rw[xP,xW,xA,xE,xx]at qe
     refine bD qe fun y s10 ⟨vy,H10,I10,ry,ys,hy,hlt,qN⟩=>?_
     have qa:=tP (X:=Xc) _ s10 σ8 H10 (.ref s2.heap.objs.size) [vy] (.ref s2.heap.objs.size) [y] (fun _ H'=>N σ8 H') I10 rfl (.cons ry .nil) ⟨_,ys,vy,rfl,rfl,hy,hlt,qN⟩
     rw[xP,xW,xA,xx]at qa
     exact bD qa fun _ s11 ⟨_,H11,I11,_,q11⟩=>again I11 q11
 refine codeAny_compStart_list ?_ ?_
 · exact loop
 · exact T.self _ 0 _ _ _ st4 loop
theorem xY{elt tg iter:Expr}{ifs:List Expr}{wi:TI}{g:TG}{c:TT}{te:TE}{pos:Pos}(hx:X.xe=fun _ _=>False)(hc:X.calm=true)(S:bT X scope Nc fr)(hi:PI X tg iter wi)
 (hg:∀C s H ex,PG (fV X scope Nc C s H ex) tg g) (ht:∀C s H ex,rh (fV X scope Nc C s H ex) ifs c) (he:∀C s H ex,PE (fV X scope Nc C s H ex) elt te)
 (hs:∀x,foldedSetIterable iter X.env x=pure x:=by intro _;rfl):PE X (.ListComp elt [⟨tg,iter,ifs,0⟩] scope pos) (rT wi fr g c te):=by
 intro pins s σ H Q I h
 rw[eval_ListComp]
 have hcl:closureFor scope X.env=pure (fk X.env.cells scope.names []):=nX fun x hx hk=>I.ok.has x.1 (S.free x hx hk)
 refine wpAny_comprehension_free rfl hs hcl S.kind S.names ?_
 exact rQ (RR:=fun acc C=>compPost (model X.prog X.w) X.A X.xe none (EP X pins σ Q) acc C) hx hc S hi hg ht he I h fun l C s6 H5 m hm f J q=>⟨m,hm,fun h'' hs''=>⟨.ref l,H5,Inv.forget J f hs'',rfl,q⟩⟩
theorem DH{elt tg iter:Expr}{ifs:List Expr}{wi:TI}{g:TG}{c:TT}{te:TE}{pos pos' spos:Pos}{i:Nat}{x:Str}(hx:X.xe=fun _ _=>False)(hc:X.calm=true)(S:bT X scope Nc fr)(hi:PI X tg iter wi)
 (hg:∀C s H ex,PG (fV X scope Nc C s H ex) tg g) (ht:∀C s H ex,rh (fV X scope Nc C s H ex) ifs c) (he:∀C s H ex,PE (fV X scope Nc C s H ex) elt te) (hN:X.N.Nodup) (hni:X.N[i]?=some x) (hl:Loc X.env.scope x) (hf:X.fn x=true∨X.env.scope.names.lookup x=some .local)
 (hsw:swapsWith (.ListComp elt [⟨tg,iter,ifs,0⟩] scope pos) (some (.Name x pos')) spos.line X.env=pure true)
 (hs:∀x,foldedSetIterable iter X.env x=pure x:=by intro _;rfl):PS X (.Assign [.Name x pos'] (.ListComp elt [⟨tg,iter,ifs,0⟩] scope pos) spos) (mN (rT wi fr g c te) (i9 i)):=by
 intro pins s σ H D I h
 have hcl:closureFor scope X.env=pure (fk X.env.cells scope.names []):=nX fun x hx hk=>I.ok.has x.1 (S.free x hx hk)
 rw[exec_Assign_Name_used _ _ _ _ hsw]
 refine wpAny_bind (wpAny_standAt (wpAny_bind ?_))
 show wpAny _ X.A (do let _ ←comprehension (.ListComp elt [⟨tg,iter,ifs,0⟩] scope pos) scope X.env _ (newList []) false (eval iter X.env) (some (assign (.Name x pos') X.env))) _ _ s
 refine wpAny_bind (wpAny_mono (wpAny_comprehension_free (use:=some (assign (.Name x pos') X.env)) (Q:=fun _ s'=>SP X pins D .next s') rfl hs hcl S.kind S.names
  (rQ (RR:=fun acc C=>compPost (model X.prog X.w) X.A X.xe (some (assign (.Name x pos') X.env)) (fun _ s'=>SP X pins D .next s') acc C) hx hc S hi hg ht he I h fun l C s6 H5 m hm f J q=>?_)) (fun _ s' hq=>wpAny_pure (wpAny_pure hq)) fun _ _ e=>e)
 show wpAny _ X.A (assign (.Name x pos') X.env (.ref l)) _ _ _
 refine wpAny_assign_Name (tM J hN hni hl (show RelV (.ref l) (.ref l)from rfl) (fun s7 J7 hch=>?_) hf)
 obtain⟨a,hsame,ha⟩:=hch
 have hCa:C≠a:=by
  rcases ha with rfl|ha
  · exact f.2.1
  · exact fun z=>f.2.2.2.2.1 x a ha z.symm
 refine⟨m,hm.sameBut hsame hCa,fun h'' hs''=>⟨σ.set i (some (.ref l)),H5,Inv.forget J7 f hs'',q⟩⟩
end
end L3
namespace L3
open PySem PySem.Spec L2
open PyProof.Rows hiding St
inductive D where
 |aH|bl (b:Bool)|int (i:Int)|str (x:Str)|ty (n:String)|ref (n:Nat)|lst (xs:List D)|tup (xs:List D)
inductive Cell where
 |lst (xs:List D)|ins (C:Addr) (fs:List (Str×D))|dead
  |tab (P:Addr) (pos:Pos) (qual:Str) (b:Bool)
noncomputable abbrev ag:=List Cell
noncomputable abbrev bR:=List (Option D)
mutual
noncomputable def Rep(α:List (Option Addr))(H:Hp):D→V→Prop
 | .aH,v=>v= .aH
 | .bl b,v=>v= .bl b
 | .int i,v=>v= .int i
 | .str x,v=>v= .str x
 | .ty n,v=>v= .ty n
 | .ref n,v=>α[n]?=some none∨∃a,α[n]?=some (some a)∧v= .ref a
 | .lst xs,v=>∃a vs,v= .ref a∧some a∉α∧Rd H a (.lst vs)∧aG α H xs vs
 | .tup xs,v=>∃a vs,v= .ref a∧some a∉α∧H a=some (.tup vs)∧aG α H xs vs
noncomputable def aG(α:List (Option Addr))(H:Hp):List D→List V→Prop
 | [],vs=>vs=[]
 |d::ds,vs=>∃v r,vs=v::r∧Rep α H d v∧aG α H ds r
end
theorem aR{α:List (Option Addr)}{H:Hp}:∀ {ds:List D} {vs:List V},aG α H ds vs↔Paired (Rep α H) ds vs
 | [],vs=>by
   unfold aG
   constructor
   · rintro rfl;exact .nil
   · intro h;cases h;rfl
 |d::ds,vs=>by
  unfold aG
  constructor
  · rintro⟨v,r,rfl,h1,h2⟩;exact .cons h1 (aR.mp h2)
  · intro h;cases h with|cons h1 h2=>exact⟨_,_,rfl,h1,aR.mpr h2⟩
section
variable {α:List (Option Addr)}{H:Hp}
theorem aG.length{ds:List D}{vs:List V}(h:aG α H ds vs):ds.length=vs.length:=Paired.length (aR.mp h)
theorem rN{A B:Type}{F:A→B→Prop}:∀ {xs:List A} {ys:List B} {i:Nat} {x:A},Paired F xs ys→xs[i]?=some x→∃y,ys[i]?=some y∧F x y
 |_,_,_,_,.nil,e=>by simp at e
 |_,_,0,_,.cons r _,e=>by simp at e;subst e;exact⟨_,rfl,r⟩
 |_,_,i+1,x,.cons _ t,e=>by
  obtain⟨u,h1,h2⟩:=rN (i:=i) (x:=x) t (by simpa using e)
  exact⟨u,by simpa using h1,h2⟩
theorem eQ{A B:Type}{F:A→B→Prop}:∀ {xs xs':List A} {ys ys':List B},Paired F xs ys→Paired F xs' ys'→Paired F (xs++xs') (ys++ys')
 |_,_,_,_,.nil,s=>s
 |_,_,_,_,.cons r t,s=> .cons r (eQ t s)
theorem qk{A B:Type}{F:A→B→Prop}:∀ {xs:List A} {ys:List B} (n:Nat),Paired F xs ys→Paired F (xs.take n) (ys.take n)
 |_,_,0,_=> .nil
 |_,_,_+1,.nil=> .nil
 |_,_,n+1,.cons r t=> .cons r (qk n t)
theorem ql{A B:Type}{F:A→B→Prop}:∀ {xs:List A} {ys:List B} (n:Nat),Paired F xs ys→Paired F (xs.drop n) (ys.drop n)
 |_,_,0,r=>r
 |_,_,_+1,.nil=> .nil
 |_,_,n+1,.cons _ t=>ql n t
theorem nC{A B:Type}{F:A→B→Prop}{x:A}{y:B}(r:F x y):∀ {xs:List A} {ys:List B} (i:Nat),Paired F xs ys→Paired F (xs.set i x) (ys.set i y)
 |_,_,_,.nil=> .nil
 |_,_,0,.cons _ t=> .cons r t
 |_,_,i+1,.cons q t=> .cons q (nC r i t)
theorem mK{A B:Type}{F:A→B→Prop}{xs:List A}{ys:List B}(h:Paired F xs ys):∀k:Nat,Paired F (List.replicate k xs).flatten (List.replicate k ys).flatten
 |0=> .nil
 |k+1=>by
  rw[List.replicate_succ,List.replicate_succ,List.flatten_cons,List.flatten_cons]
  exact eQ h (mK h k)
theorem aG.get{ds:List D}{vs:List V}{i:Nat}{d:D}(h:aG α H ds vs)(e:ds[i]?=some d):∃v,vs[i]?=some v∧Rep α H d v:=rN (aR.mp h) e
end
structure Step(α:List (Option Addr))(H:Hp)(α':List (Option Addr))(H':Hp):Prop where
 ext:∀b o,some b∉α→H b=some o→H' b=some o
 pre:∀(n:Nat) (x:Option Addr),α[n]?=some x→α'[n]?=some x∨α'[n]?=some none
 new:∀b,some b∈α'→some b∉α→H b=none
theorem Step.refl{α:List (Option Addr)}{H:Hp}:Step α H α H:=⟨fun _ _ _ h=>h,fun _ _ h=> .inl h,fun _ h n=>absurd h n⟩
theorem Step.trans{α α1 α2:List (Option Addr)}{H H1 H2:Hp}(a:Step α H α1 H1)(b:Step α1 H1 α2 H2):Step α H α2 H2 where
 ext:=fun c o hc e=>b.ext c o (fun z=>by rw[a.new c z hc]at e;cases e) (a.ext c o hc e)
 pre:=fun n x e=>by
  rcases a.pre n x e with h|h
  · exact b.pre n x h
  · rcases b.pre n none h with h'|h'
    · exact .inr h'
    · exact .inr h'
 new:=fun c hc n=>by
  by_cases h1:some c∈α1
  · exact a.new c h1 n
  · have:=b.new c hc h1
    cases q:H c with
    |none=>rfl
    |some o=>rw[a.ext c o n q]at this;cases this
theorem Step.laid{α:List (Option Addr)}{H:Hp}{p:Addr}{o:HO}(h:H p=none):Step α H α (upd H p o):=
 ⟨fun b u _ e=>by rw[aE (e7 e h)];exact e,fun _ _ h=> .inl h,fun _ h n=>absurd h n⟩
theorem Step.cell{α:List (Option Addr)}{H:Hp}{p:Addr}{o:HO}(h:H p=none):Step α H (α++[some p]) (upd H p o):=
 ⟨fun b u _ e=>by rw[aE (e7 e h)];exact e,fun n x e=> .inl (by rw[List.getElem?_append_left (List.getElem?_eq_some_iff.mp e).1];exact e),fun b hb n=>by
  rcases List.mem_append.mp hb with z|z
  · exact absurd z n
  · have:b=p:=by simpa using z
    subst this;exact h⟩
theorem Step.write{α:List (Option Addr)}{H:Hp}{p:Addr}{o:HO}(h:some p∈α):Step α H α (upd H p o):=
 ⟨fun b u n e=>by rw[aE (fun z=>by subst z;exact n h)];exact e,fun _ _ h=> .inl h,fun _ h n=>absurd h n⟩
mutual
theorem Rep.step{α α':List (Option Addr)}{H H':Hp}(s:Step α H α' H'):∀ {d:D} {v:V},Rep α H d v→Rep α' H' d v
 | .aH,_,h=>by unfold Rep at h⊢;exact h
 | .bl _,_,h=>by unfold Rep at h⊢;exact h
 | .int _,_,h=>by unfold Rep at h⊢;exact h
 | .str _,_,h=>by unfold Rep at h⊢;exact h
 | .ty _,_,h=>by unfold Rep at h⊢;exact h
 | .ref n,_,h=>by
   unfold Rep at h⊢
   rcases h with h|⟨a,e,r⟩
   · rcases s.pre _ _ h with z|z<;>exact .inl z
   · rcases s.pre _ _ e with z|z
     · exact .inr ⟨a,z,r⟩
     · exact .inl z
 | .lst xs,_,h=>by
   unfold Rep at h⊢
   obtain⟨a,vs,e,n,r,q⟩:=h
   refine⟨a,vs,e,fun z=>?_,?_,aG.step s q⟩
   · have:=s.new a z n
     rcases r with r|⟨o,r⟩<;>(rw[this]at r;cases r)
   · rcases r with r|⟨o,r⟩
     · exact .inl (s.ext _ _ n r)
     · exact .inr ⟨o,s.ext _ _ n r⟩
 | .tup xs,_,h=>by
   unfold Rep at h⊢
   obtain⟨a,vs,e,n,r,q⟩:=h
   exact⟨a,vs,e,(fun z=>by rw[s.new a z n]at r;exact nomatch r),s.ext _ _ n r,aG.step s q⟩
theorem aG.step{α α':List (Option Addr)}{H H':Hp}(s:Step α H α' H'):∀ {ds:List D} {vs:List V},aG α H ds vs→aG α' H' ds vs
 | [],_,h=>by unfold aG at h⊢;exact h
 |d::ds,_,h=>by
  unfold aG at h⊢
  obtain⟨v,r,e,h1,h2⟩:=h
  exact⟨v,r,e,Rep.step s h1,aG.step s h2⟩
end
structure cq(G F H:Hp):Prop where
 eq:∀b,H b=(G b).or (F b)
 u4:∀b o,G b=some o→F b=none
section
variable {G F H:Hp}
theorem cq.get(P:cq G F H){b:Addr}{o:HO}(h:G b=some o):H b=some o:=by rw[P.eq b,h];rfl
theorem cq.same(P:cq G F H):Cs G H:=fun _ _ h=>P.get h
theorem cq.none(P:cq G F H){b:Addr}(h:H b=none):G b=none∧F b=none:=by
 have e:=P.eq b
 rw[h]at e
 cases q:G b with
 |none=>rw[q]at e;exact⟨rfl,e.symm⟩
 |some o=>rw[q]at e;cases e
theorem cq.frame(P:cq G F H){b:Addr}{o:HO}(h:F b=some o):H b=some o∧G b=Option.none:=by
 have hn:G b=Option.none:=by
  cases q:G b with
  |none=>rfl
  |some u=>rw[P.u4 b u q]at h;cases h
 exact⟨by rw[P.eq b,hn,h];rfl,hn⟩
theorem cq.laid(P:cq G F H){p:Addr}{o:HO}(h:H p=Option.none):cq (upd G p o) F (upd H p o):=by
 obtain⟨h1,h2⟩:=P.none h
 refine⟨fun b=>?_,fun b u e=>?_⟩
 · by_cases hb:b=p
   · subst hb;rw[bw,bw];rfl
   · rw[aE hb,aE hb];exact P.eq b
 · by_cases hb:b=p
   · subst hb;exact h2
   · rw[aE hb]at e;exact P.u4 b u e
theorem cq.write(P:cq G F H){p:Addr}{o o':HO}(h:G p=some o):cq (upd G p o') F (upd H p o'):=by
 refine⟨fun b=>?_,fun b u e=>?_⟩
 · by_cases hb:b=p
   · subst hb;rw[bw,bw];rfl
   · rw[aE hb,aE hb];exact P.eq b
 · by_cases hb:b=p
   · subst hb;exact P.u4 b o h
   · rw[aE hb]at e;exact P.u4 b u e
theorem cq.hide(P:cq G F H){p:Addr}{o:HO}(h:H p=Option.none):cq G (upd F p o) (upd H p o):=by
 obtain⟨h1,h2⟩:=P.none h
 refine⟨fun b=>?_,fun b u e=>?_⟩
 · by_cases hb:b=p
   · subst hb;rw[bw,bw,h1];rfl
   · rw[aE hb,aE hb];exact P.eq b
 · by_cases hb:b=p
   · subst hb;rw[h1]at e;cases e
   · rw[aE hb];exact P.u4 b u e
theorem cq.Lz(P:cq G F H){p:Addr}{o o':HO}(h:F p=some o):cq G (upd F p o') (upd H p o'):=by
 have h1:=(P.frame h).2
 refine⟨fun b=>?_,fun b u e=>?_⟩
 · by_cases hb:b=p
   · subst hb;rw[bw,bw,h1];rfl
   · rw[aE hb,aE hb];exact P.eq b
 · by_cases hb:b=p
   · subst hb;rw[h1]at e;cases e
   · rw[aE hb];exact P.u4 b u e
theorem cq.show{p:Addr}{o:HO}(P:cq G (upd F p o) H)(h:F p=Option.none):cq (upd G p o) F H:=by
 have h1:=(P.frame (b:=p) bw)
 refine⟨fun b=>?_,fun b u e=>?_⟩
 · by_cases hb:b=p
   · subst hb;rw[bw,h1.1];rfl
   · rw[aE hb,P.eq b,aE hb]
 · by_cases hb:b=p
   · subst hb;exact h
   · rw[aE hb]at e
     have:=P.u4 b u e
     rw[aE hb]at this;exact this
end
mutual
theorem Rep.mono{α:List (Option Addr)}{G H:Hp}(s:Cs G H):∀ {d:D} {v:V},Rep α G d v→Rep α H d v
 | .aH,_,h=>by unfold Rep at h⊢;exact h
 | .bl _,_,h=>by unfold Rep at h⊢;exact h
 | .int _,_,h=>by unfold Rep at h⊢;exact h
 | .str _,_,h=>by unfold Rep at h⊢;exact h
 | .ty _,_,h=>by unfold Rep at h⊢;exact h
 | .ref n,_,h=>by unfold Rep at h⊢;exact h
 | .lst xs,_,h=>by
   unfold Rep at h⊢
   obtain⟨a,vs,e,n,r,q⟩:=h
   refine⟨a,vs,e,n,?_,aG.mono s q⟩
   rcases r with r|⟨o,r⟩
   · exact .inl (s _ _ r)
   · exact .inr ⟨o,s _ _ r⟩
 | .tup xs,_,h=>by
   unfold Rep at h⊢
   obtain⟨a,vs,e,n,r,q⟩:=h
   exact⟨a,vs,e,n,s _ _ r,aG.mono s q⟩
theorem aG.mono{α:List (Option Addr)}{G H:Hp}(s:Cs G H):∀ {ds:List D} {vs:List V},aG α G ds vs→aG α H ds vs
 | [],_,h=>by unfold aG at h⊢;exact h
 |d::ds,_,h=>by
  unfold aG at h⊢
  obtain⟨v,r,e,h1,h2⟩:=h
  exact⟨v,r,e,Rep.mono s h1,aG.mono s h2⟩
end
noncomputable def jh(α:List (Option Addr))(H:Hp):List (Str×D)→List (Str×V)→Prop:=Paired fun p q=>p.1=q.1∧Rep α H p.2 q.2
noncomputable def js(α:List (Option Addr))(H:Hp)(a:Addr):Cell→Prop
 | .lst xs=>∃vs,H a=some (.lst vs)∧aG α H xs vs
 | .ins C fs=>∃dx vs,H a=some (.ins C dx vs)∧jh α H fs vs
 | .dead=>False
 | .tab P pos qual b=>a=P∧∃ps:Array Value,H a=some (.lE ps)∧TriplesOk ps.toList∧
    ((b=false∧codeAmong pos ps.toList=none)∨(b=true∧∃c o vs t,codeAmong pos ps.toList=some (.ref c)∧some c∉α∧H c=some (.iO o (.own c))∧o.data= .fields vs∧vs[1]?=some (.str qual t)))
structure aV(α:List (Option Addr))(st:ag)(H:Hp):Prop where
 len:α.length=st.length
 nd:∀(i j:Nat) (a:Addr),α[i]?=some (some a)→α[j]?=some (some a)→i=j
 at':∀(n:Nat) (c:Cell),st[n]?=some c→(c= .dead∧α[n]?=some none)∨∃a,α[n]?=some (some a)∧js α H a c
theorem jh.step{α α':List (Option Addr)}{H H':Hp}(s:Step α H α' H'){ds:List (Str×D)}{vs:List (Str×V)}(h:jh α H ds vs):jh α' H' ds vs:=Paired.BA h fun _ _ z=>⟨z.1,z.2.step s⟩
theorem js.same{α α':List (Option Addr)}{H H':Hp}{a:Addr}{c:Cell}(s:Step α H α' H')(e:H' a=H a)(h:js α H a c):js α' H' a c:=by
 cases c with
 |lst xs=>obtain⟨vs,h1,h2⟩:=h;exact⟨vs,e.trans h1,h2.step s⟩
 |ins C fs=>obtain⟨dx,vs,h1,h2⟩:=h;exact⟨dx,vs,e.trans h1,h2.step s⟩
 |dead=>exact h.elim
 |tab P pos qual b=>
  obtain⟨z,ps,h1,h2,h3⟩:=h
  refine⟨z,ps,e.trans h1,h2,?_⟩
  rcases h3 with h3|⟨hb,c,o,vs,t,q1,q2,q3,q4⟩
  · exact .inl h3
  · exact .inr ⟨hb,c,o,vs,t,q1,(fun y=>by rw[s.new c y q2]at q3;cases q3),s.ext c _ q2 q3,q4⟩
theorem js.some{α:List (Option Addr)}{H:Hp}{a:Addr}{c:Cell}(h:js α H a c):∃o,H a=some o:=by
 cases c with
 |lst xs=>obtain⟨vs,h1,h2⟩:=h;exact⟨_,h1⟩
 |ins C fs=>obtain⟨dx,vs,h1,h2⟩:=h;exact⟨_,h1⟩
 |dead=>exact h.elim
 |tab P pos qual b=>obtain⟨_,ps,h1,_⟩:=h;exact⟨_,h1⟩
theorem d8{α:List (Option Addr)}{H:Hp}{n:Nat}{v:V}{a:Addr}(e:α[n]?=Option.some (Option.some a))(r:Rep α H (.ref n) v):v= .ref a:=by
 unfold Rep at r
 rcases r with r|⟨b,eb,rfl⟩
 · rw[e]at r;cases r
 · rw[e]at eb;cases eb;rfl
section
variable {α:List (Option Addr)}{st:ag}{H:Hp}
theorem aV.gY(S:aV α st H){n:Nat}{xs:List D}(e:st[n]?=Option.some (.lst xs)):∃a,α[n]?=Option.some (Option.some a)∧∃vs,H a=Option.some (.lst vs)∧aG α H xs vs:=by
 rcases S.at' n _ e with⟨z,_⟩|z
 · cases z
 · exact z
theorem aV.r9(S:aV α st H){n:Nat}{C:Addr}{fs:List (Str×D)}(e:st[n]?=Option.some (.ins C fs)):∃a,α[n]?=Option.some (Option.some a)∧∃dx vs,H a=Option.some (.ins C dx vs)∧jh α H fs vs:=by
 rcases S.at' n _ e with⟨z,_⟩|z
 · cases z
 · exact z
theorem aV.mem(S:aV α st H){a:Addr}(h:Option.some a∈α):∃(n:Nat) (c:Cell),α[n]?=Option.some (Option.some a)∧st[n]?=Option.some c∧js α H a c:=by
 obtain⟨n,hn,e⟩:=List.mem_iff_getElem.mp h
 have hl:n<st.length:=by rw[←S.len];exact hn
 have e':α[n]?=Option.some (Option.some a):=by rw[List.getElem?_eq_getElem hn,e]
 rcases S.at' n st[n] (by simp[hl])with⟨_,q⟩|⟨a',q,ca⟩
 · rw[e']at q;cases q
 · rw[e']at q;cases q
   exact⟨n,_,e',by simp[hl],ca⟩
theorem aV.mv(S:aV α st H){p:Addr}(h:H p=none):Option.some p∉α:=fun z=>by
 obtain⟨n,c,_,_,ca⟩:=S.mem z
 obtain⟨o,e⟩:=ca.some
 rw[h]at e;cases e
theorem aV.laid(S:aV α st H){p:Addr}{o:HO}(h:H p=none):aV α st (upd H p o):=
 ⟨S.len,S.nd,fun n c e=>by
  rcases S.at' n c e with z|⟨a,q,ca⟩
  · exact .inl z
  · exact .inr ⟨a,q,ca.same (Step.laid h) (aE (by obtain⟨u,z⟩:=ca.some;exact e7 z h))⟩⟩
theorem aV.cell(S:aV α st H){p:Addr}{o:HO}{c:Cell}(h:H p=none)(hc:js (α++[Option.some p]) (upd H p o) p c):aV (α++[Option.some p]) (st++[c]) (upd H p o) where
 len:=by rw[List.length_append,List.length_append,S.len];rfl
 nd:=fun i j a ei ej=>by
  have key:∀(i:Nat) (a:Addr),(α++[Option.some p])[i]?=Option.some (Option.some a)→(i<α.length∧α[i]?=Option.some (Option.some a))∨(i=α.length∧a=p):=by
   intro i a e
   by_cases hi:i<α.length
   · rw[List.getElem?_append_left hi]at e;exact .inl ⟨hi,e⟩
   · rw[List.getElem?_append_right (Nat.le_of_not_lt hi)]at e
     have h0:i-α.length=0:=by
      cases q:i-α.length with
      |zero=>rfl
      |succ k=>rw[q]at e;simp at e
     rw[h0]at e
     have:p=a:=by simpa using e
     exact .inr ⟨by omega,this.symm⟩
  rcases key i a ei with⟨h1,e1⟩|⟨h1,e1⟩<;>rcases key j a ej with⟨h2,e2⟩|⟨h2,e2⟩
  · exact S.nd i j a e1 e2
  · subst e2;exact absurd (List.mem_of_getElem? e1) (S.mv h)
  · subst e1;exact absurd (List.mem_of_getElem? e2) (S.mv h)
  · omega
 at':=fun n d e=>by
  by_cases hn:n<st.length
  · rw[List.getElem?_append_left hn]at e
    have hl:n<α.length:=by rw[S.len];exact hn
    rcases S.at' n d e with⟨z,q⟩|⟨a,q,ca⟩
    · exact .inl ⟨z,by rw[List.getElem?_append_left hl];exact q⟩
    · exact .inr ⟨a,by rw[List.getElem?_append_left hl];exact q,ca.same (Step.cell h) (aE (by obtain⟨u,z⟩:=ca.some;exact e7 z h))⟩
  · rw[List.getElem?_append_right (Nat.le_of_not_lt hn)]at e
    have h0:n-st.length=0:=by
     cases q:n-st.length with
     |zero=>rfl
     |succ k=>rw[q]at e;simp at e
    rw[h0]at e
    have hd:c=d:=by simpa using e
    subst hd
    refine .inr ⟨p,?_,hc⟩
    rw[List.getElem?_append_right (by rw[S.len];exact Nat.le_of_not_lt hn),S.len,h0]
    rfl
theorem aV.write(S:aV α st H){p:Addr}{o:HO}{c:Cell}{n:Nat}(e:α[n]?=Option.some (Option.some p))(hc:js α (upd H p o) p c):aV α (st.set n c) (upd H p o) where
 len:=by rw[List.length_set];exact S.len
 nd:=S.nd
 at':=fun m d q=>by
  have hp:Option.some p∈α:=List.mem_of_getElem? e
  by_cases hm:m=n
  · subst hm
    have hl:m<st.length:=by
     have:=(List.getElem?_eq_some_iff.mp q).1
     rw[List.length_set]at this;exact this
    rw[List.getElem?_set_self hl]at q
    cases q
    exact .inr ⟨p,e,hc⟩
  · rw[List.getElem?_set_ne (Ne.symm hm)]at q
    rcases S.at' m d q with z|⟨a,r,ca⟩
    · exact .inl z
    · refine .inr ⟨a,r,ca.same (Step.write hp) (aE fun z=>?_)⟩
      subst z
      exact hm (S.nd m n _ r e)
end
end L3
namespace L3
open PySem PySem.Spec L2
open PyProof.Rows hiding St
noncomputable abbrev DK:=D→ag→Prop
noncomputable abbrev DE:=bR→ag→DK→Prop
noncomputable abbrev DT:=bR→ag→(Bool→ag→Prop)→Prop
noncomputable abbrev DA:=bR→ag→(List D→ag→Prop)→Prop
structure jb where
 nx:bR→ag→Prop
 rt:DK
 bk:bR→ag→Prop:=fun _ _=>False
 ct:bR→ag→Prop:=fun _ _=>False
noncomputable abbrev DS:=jb→bR→ag→Prop
structure eD(α:List (Option Addr))(H:Hp)(σd:bR)(σ:L2.St):Prop where
 len:σd.length=σ.length
 at':∀(i:Nat) (d:D),σd[i]?=some (some d)→∃v,σ[i]?=some (some v)∧Rep α H d v
theorem eD.step{α α':List (Option Addr)}{H H':Hp}{σd:bR}{σ:L2.St}(s:Step α H α' H')(h:eD α H σd σ):eD α' H' σd σ:=
 ⟨h.len,fun i d e=>let⟨v,q,r⟩:=h.at' i d e;⟨v,q,r.step s⟩⟩
theorem eD.set{α:List (Option Addr)}{H:Hp}{σd:bR}{σ:L2.St}(h:eD α H σd σ)(i:Nat){d:D}{v:V}(r:Rep α H d v):eD α H (σd.set i (some d)) (σ.set i (some v)):=by
 refine⟨by rw[List.length_set,List.length_set,h.len],fun j e q=>?_⟩
 have hl:=h.len
 by_cases hj:j=i
 · subst hj
   have hlt:j<σd.length:=by
    have:=(List.getElem?_eq_some_iff.mp q).1
    rw[List.length_set]at this;exact this
   rw[List.getElem?_set_self hlt]at q
   cases q
   exact⟨v,List.getElem?_set_self (by omega),r⟩
 · rw[List.getElem?_set_ne (Ne.symm hj)]at q
   rw[List.getElem?_set_ne (Ne.symm hj)]
   exact h.at' j e q
noncomputable def LK(α:List (Option Addr))(G F:Hp)(K:DK)(Q:VK):Prop:=∀d st',K d st'→∀α' G' H' v,Step α G α' G'→cq G' F H'→aV α' st' G'→Rep α' G' d v→Q v H'
noncomputable def Dn(α:List (Option Addr))(G F:Hp)(K:Bool→ag→Prop)(Q:Bool→Hp→Prop):Prop:=∀b st',K b st'→∀α' G' H',Step α G α' G'→cq G' F H'→aV α' st' G'→Q b H'
noncomputable def LB(α:List (Option Addr))(G F:Hp)(K:List D→ag→Prop)(Q:List V→Hp→Prop):Prop:=∀ds st',K ds st'→∀α' G' H' vs,Step α G α' G'→cq G' F H'→aV α' st' G'→aG α' G' ds vs→Q vs H'
inductive Kc(t:DE)(σ:L2.St)(H:Hp)(Q:VK):Prop
 |mk (α:List (Option Addr)) (σd:bR) (st:ag) (K:DK) (G F:Hp) (P:cq G F H) (R:eD α G σd σ) (S:aV α st G) (h:t σd st K) (k:LK α G F K Q):Kc t σ H Q
noncomputable def LE(t:DE):TE:=Kc t
inductive Kw(t:DT)(σ:L2.St)(H:Hp)(Q:Bool→Hp→Prop):Prop
 |mk (α:List (Option Addr)) (σd:bR) (st:ag) (K:Bool→ag→Prop) (G F:Hp) (P:cq G F H) (R:eD α G σd σ) (S:aV α st G) (h:t σd st K) (k:Dn α G F K Q):Kw t σ H Q
noncomputable def LT(t:DT):TT:=Kw t
inductive Kt(t:DA)(σ:L2.St)(H:Hp)(Q:List V→Hp→Prop):Prop
 |mk (α:List (Option Addr)) (σd:bR) (st:ag) (K:List D→ag→Prop) (G F:Hp) (P:cq G F H) (R:eD α G σd σ) (S:aV α st G) (h:t σd st K) (k:LB α G F K Q):Kt t σ H Q
noncomputable def LA(t:DA):TA:=Kt t
theorem LK.here{α:List (Option Addr)}{G F H:Hp}{K:DK}{Q:VK}(h:LK α G F K Q)(P:cq G F H){d:D}{st:ag}{v:V}(k:K d st)(S:aV α st G)(r:Rep α G d v):Q v H:=h d st k α G H v Step.refl P S r
theorem LK.at{α α1:List (Option Addr)}{G F G1:Hp}{K:DK}{Q:VK}(h:LK α G F K Q)(s:Step α G α1 G1):LK α1 G1 F K Q:=fun d st' k α' G' H' v s' P S r=>h d st' k α' G' H' v (s.trans s') P S r
theorem Dn.at{α α1:List (Option Addr)}{G F G1:Hp}{K:Bool→ag→Prop}{Q:Bool→Hp→Prop}(h:Dn α G F K Q)(s:Step α G α1 G1):Dn α1 G1 F K Q:=fun d st' k α' G' H' s' P S=>h d st' k α' G' H' (s.trans s') P S
section
variable {X:Cx}{a b c e:Expr}{es:List Expr}{ta tb tc te:DE}{pos:Pos}
theorem PE.imp{t t':TE}(h:PE X e t)(f:∀σ H Q,t' σ H Q→t σ H Q):PE X e t':=fun pins s σ H Q I q=>h pins s σ H Q I (f σ H Q q)
theorem PT.imp{t t':TT}(h:PT X e t)(f:∀σ H Q,t' σ H Q→t σ H Q):PT X e t':=fun pins s σ H Q I q=>h pins s σ H Q I (f σ H Q q)
theorem PW.imp{t t':TT}(h:PW X e t)(f:∀σ H Q,t' σ H Q→t σ H Q):PW X e t':=fun w pins s σ H Q I q=>h w pins s σ H Q I (f σ H Q q)
theorem PA.imp{t t':TA}(h:PA X es t)(f:∀σ H Q,t' σ H Q→t σ H Q):PA X es t':=fun p pins s σ H Q I q=>h p pins s σ H Q I (f σ H Q q)
noncomputable def aa(i:Nat):DE:=fun σ st K=>match σ[i]? with|some (some d)=>K d st|_=>False
noncomputable def dC(d:D):DE:=fun _ st K=>K d st
theorem IX{i:Nat}{x:Str}(h:PE X (.Name x pos) (FJ i)):PE X (.Name x pos) (LE (aa i)):=PE.imp h fun σ H Q ⟨α,σd,st,K,G,F,P,R,S,t,k⟩=>by
 unfold aa at t
 split at t
 · rename_i d q
   obtain⟨v,e,r⟩:=R.at' i d q
   exact⟨v,e,k.here P t S r⟩
 · exact t.elim
theorem pR{v:V}{d:D}(h:PE X e (tC v))(r:∀α H,Rep α H d v):PE X e (LE (dC d)):=PE.imp h fun σ H Q ⟨α,σd,st,K,G,F,P,R,S,t,k⟩=>k.here P t S (r α G)
theorem Jd{i:Int}{j:Nat}:PE X (.Constant (.int i) j pos) (LE (dC (.int i))):=pR Gf fun _ _=>by unfold Rep;rfl
theorem KW{i:Bool}{j:Nat}:PE X (.Constant (.bool i) j pos) (LE (dC (.bl i))):=pR JR fun _ _=>by unfold Rep;rfl
theorem Jf{j:Nat}:PE X (.Constant .none j pos) (LE (dC .aH)):=pR Gx fun _ _=>by unfold Rep;rfl
noncomputable abbrev dG:=D→D→ag→DK→Prop
noncomputable abbrev vW:=D→ag→DK→Prop
noncomputable abbrev fE:=List D→ag→DK→Prop
inductive Kq(r:dG)(x y:V)(H:Hp)(Q:VK):Prop
 |mk (α:List (Option Addr)) (d e:D) (st:ag) (K:DK) (G F:Hp) (P:cq G F H) (rx:Rep α G d x) (ry:Rep α G e y) (S:aV α st G) (h:r d e st K) (k:LK α G F K Q):Kq r x y H Q
noncomputable def LR(r:dG):R2:=Kq r
inductive HL(r:vW)(x:V)(H:Hp)(Q:VK):Prop
 |mk (α:List (Option Addr)) (d:D) (st:ag) (K:DK) (G F:Hp) (P:cq G F H) (rx:Rep α G d x) (S:aV α st G) (h:r d st K) (k:LK α G F K Q):HL r x H Q
noncomputable def Dv(r:vW):V→Hp→VK→Prop:=HL r
inductive Hi(r:fE)(xs:List V)(H:Hp)(Q:VK):Prop
 |mk (α:List (Option Addr)) (ds:List D) (st:ag) (K:DK) (G F:Hp) (P:cq G F H) (rx:aG α G ds xs) (S:aV α st G) (h:r ds st K) (k:LK α G F K Q):Hi r xs H Q
noncomputable def gJ(r:fE):List V→Hp→VK→Prop:=Hi r
noncomputable def ak(r:dG)(ta tb:DE):DE:=fun σ st K=>ta σ st fun x st1=>tb σ st1 fun y st2=>r x y st2 K
noncomputable def nS(r:vW)(ta:DE):DE:=fun σ st K=>ta σ st fun x st1=>r x st1 K
theorem LE.op{r:dG}{σ:L2.St}{H:Hp}{Q:VK}(h:LE (ak r ta tb) σ H Q):AW (LR r) (LE ta) (LE tb) σ H Q:=by
 obtain⟨α,σd,st,K,G,F,P,R,S,t,k⟩:=h
 refine⟨α,σd,st,_,G,F,P,R,S,t,fun d st1 q α1 G1 H1 v s1 P1 S1 r1=>?_⟩
 refine⟨α1,σd,st1,_,G1,F,P1,R.step s1,S1,q,fun d2 st2 q2 α2 G2 H2 v2 s2 P2 S2 r2=>?_⟩
 exact⟨α2,d,d2,st2,K,G2,F,P2,r1.step s2,r2,S2,q2,(k.at s1).at s2⟩
theorem LE.un{r:vW}{σ:L2.St}{H:Hp}{Q:VK}(h:LE (nS r ta) σ H Q):Kk (Dv r) (LE ta) σ H Q:=by
 obtain⟨α,σd,st,K,G,F,P,R,S,t,k⟩:=h
 refine⟨α,σd,st,_,G,F,P,R,S,t,fun d st1 q α1 G1 H1 v s1 P1 S1 r1=>?_⟩
 exact⟨α1,d,st1,K,G1,F,P1,r1,S1,q,k.at s1⟩
theorem Lb{op:Operator}{r:dG}(ho:cc X (binaryOp op) (LR r))(ha:PE X a (LE ta))(hb:PE X b (LE tb)):PE X (.BinOp a op b pos) (LE (ak r ta tb)):=PE.imp (JZ ho ha hb) fun _ _ _ h=>LE.op h
theorem Lo{op:UnaryOp}{r:vW}(ho:ya X (unaryOp op) (Dv r))(ha:PE X a (LE ta)):PE X (.UnaryOp op a pos) (LE (nS r ta)):=PE.imp (Iz ho ha) fun _ _ _ h=>LE.un h
theorem Jm{op:CmpOp}{r:dG}(ho:cc X (compareOp op) (LR r))(ha:PE X a (LE ta))(hb:PE X b (LE tb))(hm:behindInMarks op b=false:=by first|exact cF _|rfl):PE X (.Compare a [op] [b] pos) (LE (ak r ta tb)):=PE.imp (Es ho ha hb hm) fun _ _ _ h=>LE.op h
noncomputable def bL(t:DE):DT:=fun σ st K=>t σ st fun d st1=>match d with| .bl b=>K b st1|_=>False
theorem LT.test{σ:L2.St}{H:Hp}{Q:Bool→Hp→Prop}(h:LT (bL te) σ H Q):LE te σ H fun x H'=>∃k,x= .bl k∧Q k H':=by
 obtain⟨α,σd,st,K,G,F,P,R,S,t,k⟩:=h
 refine⟨α,σd,st,_,G,F,P,R,S,t,fun d st1 q α1 G1 H1 v s1 P1 S1 r1=>?_⟩
 cases d with
 |bl b=>
  unfold Rep at r1
  exact⟨b,r1,k b st1 q α1 G1 H1 s1 P1 S1⟩
 |_=>exact q.elim
theorem Gu{op:CmpOp}{r:dG}(ho:cc X (compareOp op) (LR r))(ha:PE X a (LE ta))(hb:PE X b (LE tb))(hm:behindInMarks op b=false:=by first|exact cF _|rfl):PT X (.Compare a [op] [b] pos) (LT (bL (ak r ta tb))):=PT.imp (DL ho ha hb hm) fun σ H Q h=>by
 have q:=LT.test h
 exact LE.op (Q:=fun x H'=>∃k,x= .bl k∧Q k H') q
theorem FU(he:PE X e (LE te))(hv:∀whole,isTrue e X.env whole=(do let v ←whole;standAt e.pos;holding [v] (truthy v)):=by intro _;rfl):PT X e (LT (bL te)):=PT.imp (Gh he hv) fun σ H Q h=>LT.test h
noncomputable def jz(t:DT):DT:=fun σ st K=>t σ st fun b st1=>K (!b) st1
noncomputable def uA(t u:DT):DT:=fun σ st K=>t σ st fun b st1=>if b=true then u σ st1 K else K false st1
noncomputable def mJ(t u:DT):DT:=fun σ st K=>t σ st fun b st1=>if b=true then K true st1 else u σ st1 K
theorem GX{t:DT}(ha:PT X a (LT t)):PT X (.UnaryOp .Not a pos) (LT (jz t)):=PT.imp (F_ ha) fun σ H Q ⟨α,σd,st,K,G,F,P,R,S,t,k⟩=>
 ⟨α,σd,st,_,G,F,P,R,S,t,fun b st1 q α1 G1 H1 s1 P1 S1=>k _ st1 q α1 G1 H1 s1 P1 S1⟩
theorem LT.and{t u:DT}{σ:L2.St}{H:Hp}{Q:Bool→Hp→Prop}(h:LT (uA t u) σ H Q):Hf (LT t) (LT u) σ H Q:=by
 obtain⟨α,σd,st,K,G,F,P,R,S,t,k⟩:=h
 refine⟨α,σd,st,_,G,F,P,R,S,t,fun b st1 q α1 G1 H1 s1 P1 S1=>?_⟩
 cases b with
 |true=>exact⟨α1,σd,st1,K,G1,F,P1,R.step s1,S1,q,k.at s1⟩
 |false=>exact k _ st1 q α1 G1 H1 s1 P1 S1
theorem LT.or{t u:DT}{σ:L2.St}{H:Hp}{Q:Bool→Hp→Prop}(h:LT (mJ t u) σ H Q):Ku (LT t) (LT u) σ H Q:=by
 obtain⟨α,σd,st,K,G,F,P,R,S,t,k⟩:=h
 refine⟨α,σd,st,_,G,F,P,R,S,t,fun b st1 q α1 G1 H1 s1 P1 S1=>?_⟩
 cases b with
 |false=>exact⟨α1,σd,st1,K,G1,F,P1,R.step s1,S1,q,k.at s1⟩
 |true=>exact k _ st1 q α1 G1 H1 s1 P1 S1
theorem DJ{t:DT}(ha:PT X a (LT t)):PW X (.BoolOp .And [a] pos) (LT t):=pw_and1 ha
theorem Hq{t:DT}(ha:PT X a (LT t)):PW X (.BoolOp .Or [a] pos) (LT t):=pw_or1 ha
theorem Gb{t u:DT}(ha:PT X a (LT t))(hb:PW X (.BoolOp .And (b::es) pos) (LT u)):PW X (.BoolOp .And (a::b::es) pos) (LT (uA t u)):=PW.imp (pw_and ha hb) fun _ _ _ h=>LT.and h
theorem Iq{t u:DT}(ha:PT X a (LT t))(hb:PW X (.BoolOp .Or (b::es) pos) (LT u)):PW X (.BoolOp .Or (a::b::es) pos) (LT (mJ t u)):=PW.imp (pw_or ha hb) fun _ _ _ h=>LT.or h
noncomputable def ym(ta tb:DE):DE:=fun σ st K=>ta σ st fun d st1=>match d with| .bl b=>if b=true then tb σ st1 K else K (.bl false) st1|_=>False
noncomputable def ze(t:DT):DE:=fun σ st K=>t σ st fun b st1=>K (.bl (!b)) st1
theorem Iy{op:BoolOp}(ha:PE X a (LE ta)):PE X (.BoolOp op [a] pos) (LE ta):=FI ha
theorem IU(ha:PE X a (LE ta))(hb:PE X (.BoolOp .And (b::es) pos) (LE tb)):PE X (.BoolOp .And (a::b::es) pos) (LE (ym ta tb)):=PE.imp (HN ha hb) fun σ H Q ⟨α,σd,st,K,G,F,P,R,S,t,k⟩=>by
 refine⟨α,σd,st,_,G,F,P,R,S,t,fun d st1 q α1 G1 H1 v s1 P1 S1 r1=>?_⟩
 cases d with
 |bl b=>
  unfold Rep at r1
  refine⟨b,r1,?_⟩
  cases b with
  |true=>exact⟨α1,σd,st1,K,G1,F,P1,R.step s1,S1,q,k.at s1⟩
  |false=>exact k _ st1 q α1 G1 H1 _ s1 P1 S1 (by unfold Rep;rfl)
 |_=>exact q.elim
theorem Jl(ha:PE X a (LE ta)):PE X (.UnaryOp .Not a pos) (LE (ze (bL ta))):=PE.imp (HQ ha) fun σ H Q ⟨α,σd,st,K,G,F,P,R,S,t,k⟩=>by
 refine⟨α,σd,st,_,G,F,P,R,S,t,fun d st1 q α1 G1 H1 v s1 P1 S1 r1=>?_⟩
 cases d with
 |bl b=>
  unfold Rep at r1
  exact⟨b,r1,k _ st1 q α1 G1 H1 _ s1 P1 S1 (by unfold Rep;rfl)⟩
 |_=>exact q.elim
noncomputable def zP(t:DT)(ta tb:DE):DE:=fun σ st K=>t σ st fun b st1=>if b=true then ta σ st1 K else tb σ st1 K
theorem Jp{t:DT}(hc:PT X c (LT t))(ha:PE X a (LE ta))(hb:PE X b (LE tb)):PE X (.IfExp c a b pos) (LE (zP t ta tb)):=PE.imp (Cf hc ha hb) fun σ H Q ⟨α,σd,st,K,G,F,P,R,S,t,k⟩=>by
 refine⟨α,σd,st,_,G,F,P,R,S,t,fun b st1 q α1 G1 H1 s1 P1 S1=>?_⟩
 cases b with
 |true=>exact⟨α1,σd,st1,K,G1,F,P1,R.step s1,S1,q,k.at s1⟩
 |false=>exact⟨α1,σd,st1,K,G1,F,P1,R.step s1,S1,q,k.at s1⟩
noncomputable def ao:DA:=fun _ st K=>K [] st
noncomputable def af(ta:DE)(tr:DA):DA:=fun σ st K=>ta σ st fun x st1=>tr σ st1 fun xs st2=>K (x::xs) st2
theorem Bf:PA X [] (LA ao):=PA.imp GC fun σ H Q ⟨α,σd,st,K,G,F,P,R,S,t,k⟩=>k [] st t α G H [] Step.refl P S (by unfold aG;rfl)
theorem xk{tr:DA}(ha:PE X e (LE te))(hr:PA X es (LA tr))(hs:starEach (e::es) X.env=(false,eval e X.env)::starEach es X.env:=by rfl):PA X (e::es) (LA (af te tr)):=PA.imp (E9 ha hr hs) fun σ H Q ⟨α,σd,st,K,G,F,P,R,S,t,k⟩=>by
 refine⟨α,σd,st,_,G,F,P,R,S,t,fun d st1 q α1 G1 H1 v s1 P1 S1 r1=>?_⟩
 refine⟨α1,σd,st1,_,G1,F,P1,R.step s1,S1,q,fun ds st2 q2 α2 G2 H2 vs s2 P2 S2 r2=>?_⟩
 exact k _ st2 q2 α2 G2 H2 (v::vs) (s1.trans s2) P2 S2 (by unfold aG;exact⟨v,vs,rfl,r1.step s2,r2⟩)
noncomputable def yw(t:DA):DE:=fun σ st K=>t σ st fun ds st1=>ds.length≤sizeLine∧K (.tup ds) st1
noncomputable def kC(t:DA):DE:=fun σ st K=>t σ st fun ds st1=>ds.length≤sizeLine∧K (.lst ds) st1
noncomputable def lT(t:DA):DE:=fun σ st K=>t σ st fun ds st1=>ds.length≤sizeLine∧K (.ref st1.length) (st1++[.lst ds])
theorem LK.tup{α:List (Option Addr)}{G F H:Hp}{K:DK}{Q:VK}{ds:List D}{vs:List V}{st:ag}{p:Addr}(k:LK α G F K Q)(P:cq G F H)(q:K (.tup ds) st)(S:aV α st G)(r:aG α G ds vs)(hp:H p=none):Q (.ref p) (upd H p (.tup vs)):=
 have hg:=(P.none hp).1
 k _ st q α _ _ _ (Step.laid hg) (P.laid hp) (S.laid hg) (by unfold Rep;exact⟨p,vs,rfl,S.mv hg,bw,r.step (Step.laid hg)⟩)
theorem LK.lst{α:List (Option Addr)}{G F H:Hp}{K:DK}{Q:VK}{ds:List D}{vs:List V}{st:ag}{p:Addr}(k:LK α G F K Q)(P:cq G F H)(q:K (.lst ds) st)(S:aV α st G)(r:aG α G ds vs)(hp:H p=none):Q (.ref p) (upd H p (.lst vs)):=
 have hg:=(P.none hp).1
 k _ st q α _ _ _ (Step.laid hg) (P.laid hp) (S.laid hg) (by unfold Rep;exact⟨p,vs,rfl,S.mv hg,.of bw,r.step (Step.laid hg)⟩)
theorem LK.new{α:List (Option Addr)}{G F H:Hp}{K:DK}{Q:VK}{ds:List D}{vs:List V}{st:ag}{p:Addr}(k:LK α G F K Q)(P:cq G F H)(q:K (.ref st.length) (st++[.lst ds]))(S:aV α st G)(r:aG α G ds vs)(hp:H p=none):Q (.ref p) (upd H p (.lst vs)):=
 have hg:=(P.none hp).1
 k _ _ q (α++[some p]) _ _ _ (Step.cell hg) (P.laid hp) (S.cell hg ⟨vs,bw,r.step (Step.cell hg)⟩) (by
  unfold Rep
  refine .inr ⟨p,?_,rfl⟩
  rw[List.getElem?_append_right (by rw[S.len];exact Nat.le_refl _),S.len,Nat.sub_self]
  rfl)
theorem Jn{n:Nat}{t:DA}(h:PA X es (LA t)):PE X (.Tuple es n pos) (LE (yw t)):=PE.imp (FN h) fun σ H Q ⟨α,σd,st,K,G,F,P,R,S,t,k⟩=>
 ⟨α,σd,st,_,G,F,P,R,S,t,fun ds st1 q α1 G1 H1 vs s1 P1 S1 r1=>⟨by rw[←r1.length];exact q.1,fun p hp=>(k.at s1).tup P1 q.2 S1 r1 hp⟩⟩
theorem IC{t:DA}(h:PA X es (LA t)):PE X (.List es pos) (LE (kC t)):=PE.imp (AZ h) fun σ H Q ⟨α,σd,st,K,G,F,P,R,S,t,k⟩=>
 ⟨α,σd,st,_,G,F,P,R,S,t,fun ds st1 q α1 G1 H1 vs s1 P1 S1 r1=>⟨by rw[←r1.length];exact q.1,fun p hp=>(k.at s1).lst P1 q.2 S1 r1 hp⟩⟩
theorem JN{t:DA}(h:PA X es (LA t)):PE X (.List es pos) (LE (lT t)):=PE.imp (AZ h) fun σ H Q ⟨α,σd,st,K,G,F,P,R,S,t,k⟩=>
 ⟨α,σd,st,_,G,F,P,R,S,t,fun ds st1 q α1 G1 H1 vs s1 P1 S1 r1=>⟨by rw[←r1.length];exact q.1,fun p hp=>(k.at s1).new P1 q.2 S1 r1 hp⟩⟩
noncomputable abbrev cW:=List D→ag→DK→Prop
inductive GV(T:cW)(vs:List V)(H:Hp)(Q:VK):Prop
 |mk (α:List (Option Addr)) (ds:List D) (st:ag) (K:DK) (G F:Hp) (P:cq G F H) (rx:aG α G ds vs) (S:aV α st G) (h:T ds st K) (k:LK α G F K Q):GV T vs H Q
noncomputable def aK(S:cW):Sp:=fun vs H Q _=>GV S vs H Q
noncomputable def a_(S:cW)(t:DA):DE:=fun σ st K=>t σ st fun ds st1=>S ds st1 K
theorem LE.call{S:cW}{t:DA}{σ:L2.St}{H:Hp}{Q:VK}(h:LE (a_ S t) σ H Q):Dl (aK S) [] E0 (LA t) σ H Q:=by
 obtain⟨α,σd,st,K,G,F,P,R,S,t,k⟩:=h
 refine⟨α,σd,st,_,G,F,P,R,S,t,fun ds st1 q α1 G1 H1 vs s1 P1 S1 r1=>?_⟩
 try dsimp only
 rw[List.append_nil]
 exact⟨α1,ds,st1,K,G1,F,P1,r1,S1,q,k.at s1⟩
theorem Ij{S:cW}{k:Nat}{f:Addr}{fd:FuncData}{ps:List Str}{x:Str}{p:Pos}{t:DA}(F:ay X.prog X.w X.K X.mg X.base aJ k f fd ps (aK S))(hr:dj k X.A)(hg:Gl X x)(hm:X.mg x=some (.ref f))(hk:PySem.W.keepIn X.K (.ref f)=true)(hb:Binds X.K fd ps [])
 (ha:PA X (e::es) (LA t)) (hdb:(x==("__debug__":Str))=false:=by decide) (he:starEach (e::es) X.env=(false,eval e X.env)::starEach es X.env:=by rfl) (hpl:(backTo pos (starEach es X.env)).any (·.1)=false:=by rfl):
 PE X (.Call (.Name x p) (e::es) [] pos) (LE (a_ S t)):=PE.imp (Ek F hr hg hm hk hb .nil uM ha hdb he hpl) fun _ _ _ h=>LE.call h
noncomputable def cJ(r:fE)(t:DA):DE:=fun σ st K=>t σ st fun ds st1=>r ds st1 K
theorem LE.cb{r:fE}{t:DA}{σ:L2.St}{H:Hp}{Q:VK}(h:LE (cJ r t) σ H Q):HR (gJ r) (LA t) σ H Q:=by
 obtain⟨α,σd,st,K,G,F,P,R,S,t,k⟩:=h
 refine⟨α,σd,st,_,G,F,P,R,S,t,fun ds st1 q α1 G1 H1 vs s1 P1 S1 r1=>?_⟩
 exact⟨α1,ds,st1,K,G1,F,P1,r1,S1,q,k.at s1⟩
end
end L3
namespace L3
open PySem PySem.Spec L2
open PyProof.Rows hiding St
section
variable {X:Cx}
theorem cc.imp{f:Value→Value→Sem Value}{r r':R2}(h:cc X f r)(k:∀x y H Q,r' x y H Q→r x y H Q):cc X f r':=fun pins s σ H x y v u Q I rx ry q=>h pins s σ H x y v u Q I rx ry (k x y H Q q)
theorem bJ.imp{f:Value}{r r':List V→Hp→VK→Prop}(h:bJ X f r)(k:∀xs H Q,r' xs H Q→r xs H Q):bJ X f r':=fun pins s σ H xs us Q I rs q=>h pins s σ H xs us Q I rs (k xs H Q q)
noncomputable def tJ(C:Int→Int→Prop)(g:Int→Int→D):dG:=fun x y st K=>match x,y with| .int i,.int j=>C i j∧K (g i j) st|_,_=>False
theorem ly{f:Value→Value→Sem Value}{C:Int→Int→Prop}{g:Int→Int→D}{g':Int→Int→V}(hg:∀i j α H,Rep α H (g i j) (g' i j))(h:cc X f (rI C g')):cc X f (LR (tJ C g)):=cc.imp h fun x y H Q ⟨α,d,e,st,K,G,F',P,r1,r2,S,q,k⟩=>by
 cases d<;>cases e<;>first
  |exact q.elim
  |(unfold Rep at r1 r2;exact⟨_,_,r1,r2,q.1,k.here P q.2 S (hg _ _ _ _)⟩)
noncomputable abbrev T2:Int→Int→Prop:=fun _ _=>True
theorem uv{g:Int→Int→V}{f:Value→Value→Sem Value}(h:cc X f (tD g)):cc X f (rI T2 g):=cc.imp h fun x y H Q ⟨i,j,e1,e2,_,q⟩=>⟨i,j,e1,e2,q⟩
noncomputable abbrev C0:dG:=tJ T2 fun i j=> .int (i-j)
noncomputable abbrev zE:dG:=tJ (fun _ j=>j≠0∧j.natAbs.log2<9000) fun i j=> .int (i.fdiv j)
noncomputable abbrev Du:dG:=tJ (fun _ j=>j≠0) fun i j=> .int (i.fmod j)
noncomputable abbrev CO:dG:=tJ Ci fun i j=> .int (i^j.toNat)
noncomputable abbrev FK:dG:=tJ T2 fun i j=> .bl (decide (i<j))
noncomputable abbrev HG:dG:=tJ T2 fun i j=> .bl (decide (j<i))
noncomputable abbrev FW:dG:=tJ T2 fun i j=> .bl (decide (j≤i))
theorem Jj:cc X (binaryOp .Sub) (LR C0):=ly (fun _ _ _ _=>by unfold Rep;rfl) (uv Gs)
theorem Ig:cc X (binaryOp .FloorDiv) (LR zE):=ly (fun _ _ _ _=>by unfold Rep;rfl) (CD fun i j _ _ _ _ _ hc q=>floordiv_int hc.1 q (.inl (PyProof.noPylong_of_log2 hc.2)))
theorem I0:cc X (binaryOp .Mod) (LR Du):=ly (fun _ _ _ _=>by unfold Rep;rfl) E6
theorem Ja:cc X (binaryOp .Pow) (LR CO):=ly (fun _ _ _ _=>by unfold Rep;rfl) FX
theorem Li:cc X (compareOp .Lt) (LR FK):=ly (fun _ _ _ _=>by unfold Rep;rfl) (uv JP)
theorem K0:cc X (compareOp .Gt) (LR HG):=ly (fun _ _ _ _=>by unfold Rep;rfl) (uv IJ)
theorem Lj:cc X (compareOp .GtE) (LR FW):=ly (fun _ _ _ _=>by unfold Rep;rfl) (uv II)
noncomputable def CM:vW:=fun x st K=>match x with| .int i=>K (.int (-i)) st|_=>False
theorem JD:ya X (unaryOp .USub) (Dv CM):=fun pins s σ H x v Q I rx ⟨α,d,st,K,G,F',P,r,S,q,k⟩=>by
 cases d<;>first
  |exact q.elim
  |(unfold Rep at r;exact GR pins s σ H x v Q I rx ⟨_,r,k.here P q S (by unfold Rep;rfl)⟩)
theorem Inv.sv{pins:List (Addr×Obj)}{σ:L2.St}{H:Hp}{s:Shared}{l:Addr}{xs:List V}(I:Inv X pins σ H s)(h:Rd H l (.lst xs)):
 xs.length≤sizeLine∧∃(its:List Value) (n:Nat),Vals xs its∧xs.length=its.length∧s.heap.get? l=some {cls:= .type "list",data:= .seq its.toArray n}:=by
 obtain⟨z,its,n,r,e⟩:=h.ok I.aP
 exact⟨z,its,n,r,r.length,e⟩
theorem fY{G F H:Hp}(P:cq G F H){a:Addr}{u:HO}(h:Rd G a u):Rd H a u:=by
 rcases h with h|⟨o,h⟩
 · exact .inl (P.get h)
 · exact .inr ⟨o,P.get h⟩
theorem sU:cc X (binaryOp .Add) (fun x y H Q=>∃l b xs zs,x= .ref l∧y= .ref b∧Rd H l (.lst xs)∧Rd H b (.lst zs)∧xs.length+zs.length≤sizeLine∧∀p,H p=none→Q (.ref p) (upd H p (.lst (xs++zs)))):=by
 intro pins s σ H x y v u Q I rx ry h
 obtain⟨l,b,xs,zs,rfl,rfl,hH,hB,hz,q⟩:=h
 cases rx
 cases ry
 obtain⟨z,its,n,r,hl,e⟩:=Inv.sv I hH
 obtain⟨z2,its2,n2,r2,hl2,e2⟩:=Inv.sv I hB
 refine PySem.P.add_list e e2 ?_ (by rw[List.size_toArray,List.size_toArray];omega)
 have ea:its.toArray++its2.toArray=(its++its2).toArray:=by simp
 rw[ea]
 exact⟨.ref _,_,I.B3 (t':=s.toks) (r.append r2) (by rw[List.length_append];omega),rfl,q _ I.fresh⟩
theorem EF:cc X (binaryOp .Mult) (fun x y H Q=>∃l k xs,x= .ref l∧y= .int k∧Rd H l (.lst xs)∧ -(2^63)≤k∧k<2^63∧xs.length*k.toNat≤sizeLine∧
 ∀p,H p=none→Q (.ref p) (upd H p (.lst (List.replicate k.toNat xs).flatten))):=by
 intro pins s σ H x y v u Q I rx ry h
 obtain⟨l,k,xs,rfl,rfl,hH,h1,h2,hz,q⟩:=h
 cases rx
 obtain⟨t,rfl⟩:=ry
 obtain⟨z,its,n,r,hl,e⟩:=Inv.sv I hH
 have hlen:its.toArray.size*k.toNat≤sizeLine:=by rw[List.size_toArray,←hl];exact hz
 have hcap:¬its.toArray.size*k.toNat>(2^63-1)/8:=by
  have:(sizeLine:Nat)≤(2^63-1)/8:=by decide
  omega
 have hfit:¬(!Builtin.List.listFitsIndex k)=true:=by
  rw[fitsIndex_both h1 h2]
  exact Bool.false_ne_true
 have hlong:¬Builtin.List.listTooLong (its.toArray.size*k.toNat)=true:=by
  rw[Bv hlen]
  exact Bool.false_ne_true
 have hnew:List.foldl (fun x1 x2=>x1++x2) #[] (List.replicate (if its.toArray.isEmpty=true then 0 else k.toNat) its.toArray)=(List.replicate k.toNat its).flatten.toArray:=by
  have f0:∀m:Nat,List.foldl (fun x1 x2=>x1++x2) #[] (List.replicate m its.toArray)=(List.replicate m its).flatten.toArray:=fun m=>by
   have:=foldl_rep its m []
   rw[List.nil_append]at this
   exact this
  rw[f0]
  cases its with
  |nil=>simp
  |cons a r'=>rw[if_neg (by simp)]
 refine wpAny_binaryOp_repeat_ref (T:="list") (U:="int") (by decide) ⟨_,e,rfl⟩ (fun s'=>typeIs_int s' k t) noFill_list_mul F.fills_int_mul F.slot_int_rmul repeat_list F.slot_int_index.lookup
  (call_meets F.slot_int_rmul (typeIs_int s k t) F.entry_int_rmul (F.args_int_rmul_2 _ _) (int___rmul___int_list k t l its.toArray n)
    ⟨e,rfl,⟨_,e,rfl⟩,call_meets F.slot_list_mul ⟨_,e,rfl⟩ F.entry_list_mul (F.args_list_mul_2 _ _) (AutoListH.list___mul___list_int_3 l its.toArray n k t hfit hcap hlong) ⟨e,?_⟩⟩)
 rw[hnew]
 exact⟨.ref _,_,I.B3 (t':=s.toks) (r.rep k.toNat) (by rw[len_rep,Nat.mul_comm];exact hz),rfl,q _ I.fresh⟩
theorem Bx:cc X (binaryOp .Add) (fun x y H Q=>∃a b xs ys,x= .ref a∧y= .ref b∧H a=some (.tup xs)∧H b=some (.tup ys)∧xs.length+ys.length≤sizeLine∧
 (xs=[]→Q (.ref b) H)∧(xs≠ []→ys=[]→Q (.ref a) H)∧(xs≠ []→ys≠ []→∀p,H p=none→Q (.ref p) (upd H p (.tup (xs++ys))))):=by
 intro pins s σ H x y v u Q I rx ry h
 obtain⟨a,b,xs,ys,rfl,rfl,ha,hb,hz,q0,q1,q2⟩:=h
 by_cases hx:xs=[]
 · cases rx
   cases ry
   obtain⟨its,r1,p1,_⟩:=I.tuple (.of ha)
   obtain⟨its2,r2,p2,_⟩:=I.tuple (.of hb)
   obtain⟨⟨cls,dd,data,sl⟩,ho,hc,n,hd⟩:=id p1
   obtain⟨⟨cls2,dd2,data2,sl2⟩,ho2,hc2,n2,hd2⟩:=id p2
   simp only at hc hd hc2 hd2
   subst hc hd hc2 hd2
   have hi:its=[]:=(L2.Vals.pF r1).mpr hx
   exact concat_meets ⟨_,ho,rfl⟩ ⟨_,ho2,rfl⟩ noFill_tuple_add seq_tuple_add PySem.F.slot_tuple_add PySem.F.entry_tuple_add (PySem.F.args_tuple_add_2 _ _)
    (tuple_addW0 a b its.toArray its2.toArray n n2 dd dd2 sl sl2 (by simp[hi])) ⟨ho,ho2,⟨.ref b,H,I,rfl,q0 hx⟩⟩
 · exact E3 pins s σ H _ _ v u Q I rx ry ⟨a,b,xs,ys,rfl,rfl,.of ha,.of hb,hx,hz,q1 hx,q2 hx⟩
theorem sq:fillsNumberSlot (.type "tuple") "mul"=pure false:=
 PySem.fillsNumberSlot_seq (id:="tuple.__mul__") (r:=some (.builtin "tuple.__rmul__")) F.slot_tuple_mul.lookup (by decide+kernel) F.slot_tuple_rmul.lookup (by decide+kernel)
theorem zq:seqRepeat? (.type "tuple")=pure (some (.builtin "tuple.__mul__")):=by
 unfold seqRepeat?
 rw[PySem.seqSlot_of (T:="tuple") (name:="__mul__") (id:="tuple.__mul__") F.slot_tuple_mul.lookup (by decide+kernel),PySem.seqSlot_of (T:="tuple") (name:="__rmul__") (id:="tuple.__rmul__") F.slot_tuple_rmul.lookup (by decide+kernel)]
 rfl
theorem vH(a:Int)(t:Tok)(l:Addr)(its:Array Value)(n:Nat)(dd:Option Addr)(sl:Array (Option Value)):Meets (Builtin.«int.__rmul__» ⟨[.int a t,.ref l],[]⟩) (fun _ R s=>s.heap.get? l=some {cls:= .type "tuple",dict:=dd,data:= .seq its n,slots:=sl}∧R (.ok (.ret Value.notImplemented)) s):=
 .of_wp fun P w A R s h=>by
  obtain⟨hp,g,d,tk,os⟩:=s
  obtain⟨hl,h⟩:=h
  wp_walk
  exact⟨_,rfl,h⟩
theorem wa(l:Addr)(its:Array Value)(n:Nat)(dd:Option Addr)(sl:Array (Option Value))(x:Int)(u:Tok)(h0:(decide (x< -(2^63))||decide (x≥2^63))=false)(h1:(its.isEmpty||x==1)=true):
 Meets (Builtin.«tuple.__mul__» ⟨[.ref l,.int x u],[]⟩) (fun _ R s=>s.heap.get? l=some {cls:= .type "tuple",dict:=dd,data:= .seq its n,slots:=sl}∧R (.ok (.ret (.ref l))) s):=
 .of_wp fun P w A R s h=>by
  obtain⟨hp,g,d,tk,os⟩:=s
  obtain⟨hl,h⟩:=h
  wp_walk
  refine wpAny_ite_false (by rw[h0];rfl) ?_
  wp_walk
  exact⟨_,rfl,h⟩
theorem uQ(l:Addr)(its:Array Value)(n:Nat)(dd:Option Addr)(sl:Array (Option Value))(x:Int)(u:Tok)(h0:(decide (x< -(2^63))||decide (x≥2^63))=false)(h1:(its.isEmpty||x==1)=false)(h2:(decide (x≤0)||its.isEmpty)=true):
 Meets (Builtin.«tuple.__mul__» ⟨[.ref l,.int x u],[]⟩) (fun _ R s=>s.heap.get? l=some {cls:= .type "tuple",dict:=dd,data:= .seq its n,slots:=sl}∧R (.ok (.ret (.ref s.heap.objs.size))) {s with heap:=s.heap.push {cls:= .type "tuple",data:= .seq #[]}}):=
 .of_wp fun P w A R s h=>by
  obtain⟨hp,g,d,tk,os⟩:=s
  obtain⟨hl,h⟩:=h
  wp_walk
  refine wpAny_ite_false (by rw[h0];rfl) ?_
  wp_walk
  exact⟨_,rfl,h⟩
theorem vd(l:Addr)(its:Array Value)(n:Nat)(dd:Option Addr)(sl:Array (Option Value))(x:Int)(u:Tok)(h0:(decide (x< -(2^63))||decide (x≥2^63))=false)(h1:(its.isEmpty||x==1)=false)(h2:(decide (x≤0)||its.isEmpty)=false)(h3:¬((its.size:Int)*x>(2^63-1)/8))(h4:Builtin.Tuple.tupleTooMany (its.size*x)=false)
 (hz:(List.foldl (fun x1 x2=>x1++x2) #[] (List.replicate x.toNat its)).size≤sizeLine):
 Meets (Builtin.«tuple.__mul__» ⟨[.ref l,.int x u],[]⟩) (fun _ R s=>s.heap.get? l=some {cls:= .type "tuple",dict:=dd,data:= .seq its n,slots:=sl}∧R (.ok (.ret (.ref s.heap.objs.size))) {s with heap:=s.heap.push {cls:= .type "tuple",data:= .seq (List.foldl (fun x1 x2=>x1++x2) #[] (List.replicate x.toNat its))}}):=
 .of_wp fun P w A R s h=>by
  obtain⟨hp,g,d,tk,os⟩:=s
  obtain⟨hl,h⟩:=h
  wp_walk
  refine wpAny_ite_false (by rw[h0];rfl) ?_
  wp_walk
  refine wpAny_ite_false (decide_eq_false h3) ?_
  wp_walk
  exact⟨_,rfl,h⟩
theorem EX:cc X (binaryOp .Mult) (fun x y H Q=>∃l k xs,x= .ref l∧y= .int k∧H l=some (.tup xs)∧ -(2^63)≤k∧k<2^63∧xs.length*k.toNat≤sizeLine∧
 ((xs=[]∨k=1)→Q (.ref l) H)∧(¬(xs=[]∨k=1)→∀p,H p=none→Q (.ref p) (upd H p (.tup (List.replicate k.toNat xs).flatten)))):=by
 intro pins s σ H x y v u Q I rx ry h
 obtain⟨l,k,xs,rfl,rfl,hH,h1,h2,hz,q1,q2⟩:=h
 cases rx
 obtain⟨t,rfl⟩:=ry
 obtain⟨its,r,p1,_⟩:=I.tuple (.of hH)
 obtain⟨⟨cls,dd,data,sl⟩,ho,hc,n,hd⟩:=id p1
 simp only at hc hd
 subst hc hd
 have hl:xs.length=its.length:=r.length
 have f0:(decide (k< -(2^63))||decide (k≥2^63))=false:=by
  rw[decide_eq_false (by omega),decide_eq_false (by omega)];rfl
 refine wpAny_binaryOp_repeat_ref (T:="tuple") (U:="int") (by decide) ⟨_,ho,rfl⟩ (fun s'=>typeIs_int s' k t) sq F.fills_int_mul F.slot_int_rmul zq F.slot_int_index.lookup
  (call_meets F.slot_int_rmul (typeIs_int s k t) F.entry_int_rmul (F.args_int_rmul_2 _ _) (vH k t l its.toArray n dd sl) ⟨ho,rfl,⟨_,ho,rfl⟩,?_⟩)
 by_cases hs:xs=[]∨k=1
 · have f1:(its.toArray.isEmpty||k==1)=true:=by
    rcases hs with z|z
    · have:its=[]:=List.length_eq_zero_iff.mp (by rw[←hl,z];rfl)
      rw[this];rfl
    · rw[z];simp
   exact call_meets F.slot_tuple_mul ⟨_,ho,rfl⟩ F.entry_tuple_mul (F.args_tuple_mul_2 _ _) (wa l its.toArray n dd sl k t f0 f1) ⟨ho,⟨.ref l,H,I,rfl,q1 hs⟩⟩
 · have hne:its≠ []:=fun z=>hs (.inl (List.length_eq_zero_iff.mp (by rw[hl,z];rfl)))
   have hk1:k≠1:=fun z=>hs (.inr z)
   have e1:its.toArray.isEmpty=false:=by simpa using hne
   have f1:(its.toArray.isEmpty||k==1)=false:=by rw[e1];simpa using hk1
   have new:∀(us:List Value) (ys:List V),Vals ys us→ys.length≤sizeLine→Inv X pins σ (upd H s.heap.objs.size (.tup ys)) {s with heap:=s.heap.push {cls:= .type "tuple",data:= .seq us.toArray}}:=fun us ys hv hy=>
    I.laid (t':=s.toks) (fun _ _ q=>Heap.get?_push_of_some _ q) (Nat.le_refl _) ⟨hy,us,hv,⟨_,Heap.get?_push_size _ rfl,rfl,_,rfl⟩⟩
   by_cases h0:k≤0
   · have f2:(decide (k≤0)||its.toArray.isEmpty)=true:=by rw[decide_eq_true h0];rfl
     refine call_meets F.slot_tuple_mul ⟨_,ho,rfl⟩ F.entry_tuple_mul (F.args_tuple_mul_2 _ _) (uQ l its.toArray n dd sl k t f0 f1 f2) ⟨ho,?_⟩
     have ez:k.toNat=0:=by omega
     rw[ez]at q2
     exact⟨.ref _,_,new [] [] .nil (Nat.zero_le _),rfl,q2 hs _ I.fresh⟩
   · have f2:(decide (k≤0)||its.toArray.isEmpty)=false:=by rw[decide_eq_false h0,e1];rfl
     have hk:(k.toNat:Int)=k:=by omega
     have hlen:its.toArray.size*k.toNat≤sizeLine:=by rw[List.size_toArray,←hl];exact hz
     have hsz:((its.toArray.size:Nat):Int)*k≤(sizeLine:Int):=by
      rw[←hk]
      exact_mod_cast hlen
     have f3:¬(((its.toArray.size:Nat):Int)*k>(2^63-1)/8):=by
      have:((sizeLine:Nat):Int)≤(2^63-1)/8:=by decide
      omega
     have f4:Builtin.Tuple.tupleTooMany (((its.toArray.size:Nat):Int)*k)=false:=by
      unfold Builtin.Tuple.tupleTooMany
      exact decide_eq_false (by omega)
     have hnew:List.foldl (fun x1 x2=>x1++x2) #[] (List.replicate k.toNat its.toArray)=(List.replicate k.toNat its).flatten.toArray:=by
      have:=foldl_rep its k.toNat []
      rw[List.nil_append]at this
      exact this
     have hfl:(List.replicate k.toNat its).flatten.length=its.length*k.toNat:=by rw[len_rep,Nat.mul_comm]
     refine call_meets F.slot_tuple_mul ⟨_,ho,rfl⟩ F.entry_tuple_mul (F.args_tuple_mul_2 _ _) (vd l its.toArray n dd sl k t f0 f1 f2 f3 f4 (by rw[hnew,List.size_toArray,hfl];exact hlen)) ⟨ho,?_⟩
     rw[hnew]
     exact⟨.ref _,_,new _ _ (r.rep k.toNat) (by rw[len_rep,Nat.mul_comm];exact hz),rfl,q2 hs _ I.fresh⟩
noncomputable def DB:dG:=fun x y st K=>match x,y with
 | .int i,.int j=>K (.int (i+j)) st
 | .tup xs,.tup ys=>xs.length+ys.length≤sizeLine∧K (.tup (xs++ys)) st
 | .lst xs,.lst ys=>xs.length+ys.length≤sizeLine∧K (.lst (xs++ys)) st
 | .str x,.str y=>x.length+y.length≤sizeLine∧K (.str (x++y)) st
 |_,_=>False
theorem JL:cc X (binaryOp .Add) (LR DB):=fun pins s σ H x y v u Q I rx ry ⟨α,d,e,st,K,G,F',P,r1,r2,S,q,k⟩=>by
 cases d<;>cases e<;>try exact q.elim
 · unfold Rep at r1 r2
   exact GA pins s σ H x y v u Q I rx ry ⟨_,_,r1,r2,k.here P q S (by unfold Rep;rfl)⟩
 · unfold Rep at r1 r2
   exact yV pins s σ H x y v u Q I rx ry ⟨_,_,r1,r2,q.1,k.here P q.2 S (by unfold Rep;rfl)⟩
 · unfold Rep at r1 r2
   obtain⟨a,vs,rfl,na,ha,ra⟩:=r1
   obtain⟨b,ws,rfl,nb,hb,rb⟩:=r2
   refine sU pins s σ H _ _ v u Q I rx ry ⟨a,b,vs,ws,rfl,rfl,fY P ha,fY P hb,by rw[←ra.length,←rb.length];exact q.1,fun p hp=>?_⟩
   exact k.lst P q.2 S (aR.mpr (eQ (aR.mp ra) (aR.mp rb))) hp
 · rename_i xs ys
   unfold Rep at r1 r2
   obtain⟨a,vs,rfl,na,ha,ra⟩:=r1
   obtain⟨b,ws,rfl,nb,hb,rb⟩:=r2
   have hl1:=ra.length
   have hl2:=rb.length
   refine Bx pins s σ H _ _ v u Q I rx ry ⟨a,b,vs,ws,rfl,rfl,P.get ha,P.get hb,by rw[←hl1,←hl2];exact q.1,fun z=>?_,fun _ z=>?_,fun _ _ p hp=>?_⟩
   · refine k.here P q.2 S ?_
     unfold Rep
     have:xs=[]:=by rw[z]at hl1;exact List.length_eq_zero_iff.mp hl1
     subst this
     exact⟨b,ws,rfl,nb,hb,rb⟩
   · refine k.here P q.2 S ?_
     unfold Rep
     have:ys=[]:=by rw[z]at hl2;exact List.length_eq_zero_iff.mp hl2
     subst this
     rw[List.append_nil]
     exact⟨a,vs,rfl,na,ha,ra⟩
   · exact k.tup P q.2 S (aR.mpr (eQ (aR.mp ra) (aR.mp rb))) hp
noncomputable def C4:dG:=fun x y st K=>match x,y with
 | .int i,.int j=>IntMulOk i j∧K (.int (i*j)) st
 | .lst xs,.int k=>(-(2^63)≤k∧k<2^63∧xs.length*k.toNat≤sizeLine)∧K (.lst (List.replicate k.toNat xs).flatten) st
 | .tup xs,.int k=>(-(2^63)≤k∧k<2^63∧xs.length*k.toNat≤sizeLine)∧K (.tup (List.replicate k.toNat xs).flatten) st
 |_,_=>False
theorem Jy:cc X (binaryOp .Mult) (LR C4):=fun pins s σ H x y v u Q I rx ry ⟨α,d,e,st,K,G,F',P,r1,r2,S,q,k⟩=>by
 cases d<;>cases e<;>try exact q.elim
 · unfold Rep at r1 r2
   have h:cc X (binaryOp .Mult) (rI IntMulOk fun i j=> .int (i*j)):=CD fun _ _ _ _ _ _ _ hc q=>mul_int q hc
   exact h pins s σ H x y v u Q I rx ry ⟨_,_,r1,r2,q.1,k.here P q.2 S (by unfold Rep;rfl)⟩
 · unfold Rep at r1 r2
   obtain⟨a,vs,rfl,na,ha,ra⟩:=r1
   refine EF pins s σ H _ _ v u Q I rx ry ⟨a,_,vs,rfl,r2,fY P ha,q.1.1,q.1.2.1,by rw[←ra.length];exact q.1.2.2,fun p hp=>?_⟩
   exact k.lst P q.2 S (aR.mpr (mK (aR.mp ra) _)) hp
 · rename_i xs m
   have r1':=r1
   unfold Rep at r1 r2
   obtain⟨a,vs,rfl,na,ha,ra⟩:=r1
   refine EX pins s σ H _ _ v u Q I rx ry ⟨a,_,vs,rfl,r2,P.get ha,q.1.1,q.1.2.1,by rw[←ra.length];exact q.1.2.2,fun hs=>?_,fun _ p hp=>k.tup P q.2 S (aR.mpr (mK (aR.mp ra) _)) hp⟩
   have e:(List.replicate m.toNat xs).flatten=xs:=by
    rcases hs with z|z
    · have:xs=[]:=List.length_eq_zero_iff.mp (by rw[ra.length,z];rfl)
      rw[this];simp
    · rw[z];simp
   have q2:=q.2
   rw[e]at q2
   exact k.here P q2 S r1'
noncomputable def live(st:ag):D→Bool
 | .ref n=>(match st[n]? with|some (.lst _)=>true|some (.ins _ _)=>true|_=>false)
 |_=>true
theorem vL{α:List (Option Addr)}{H:Hp}{st:ag}{n:Nat}{v:V}(S:aV α st H)(h:live st (.ref n)=true)(r:Rep α H (.ref n) v):∃a,v= .ref a:=by
 unfold live at h
 simp only at h
 split at h
 · rename_i e
   obtain⟨a,ea,_⟩:=S.gY e
   exact⟨a,d8 ea r⟩
 · rename_i e
   obtain⟨a,ea,_⟩:=S.r9 e
   exact⟨a,d8 ea r⟩
 · cases h
noncomputable def nA:dG:=fun x y st K=>match y with
 | .int i=>(match x with
   | .lst xs=>(match eW xs i with|some d=>K d st|none=>False)
   | .tup xs=>(match eW xs i with|some d=>K d st|none=>False)
   | .ref n=>(match st[n]? with|some (.lst xs)=>(match eW xs i with|some d=>K d st|none=>False)|_=>False)
   |_=>False)
 |_=>False
theorem aG.eW{α:List (Option Addr)}{H:Hp}{ds:List D}{vs:List V}{i:Int}{d:D}(h:aG α H ds vs)(e:L2.eW ds i=some d):∃v,L2.eW vs i=some v∧Rep α H d v:=by
 unfold L2.eW at e⊢
 rw[←h.length]
 cases q:jP ds.length i with
 |none=>rw[q]at e;cases e
 |some j=>rw[q]at e;exact h.get e
theorem K5:CL X (LR nA):=fun value slice pins s σ H x y v u Q I rx ry ⟨α,d,e,st,K,G,F',P,r1,r2,S,q,k⟩ hs=>by
 cases e<;>try exact q.elim
 unfold Rep at r2
 cases d<;>try exact q.elim
 · rename_i i n
   unfold nA at q
   simp only at q
   split at q
   · split at q
     · rename_i xs e1 _ d' e2
       obtain⟨a,ea,vs,hv,rv⟩:=S.gY e1
       have r1':=d8 ea r1
       subst r1'
       obtain⟨z,ez,rz⟩:=rv.eW e2
       exact xD value slice pins s σ H _ _ v u Q I rx ry ⟨a,vs,_,z,rfl,r2,.of (P.get hv),ez,k.here P q S rz⟩ hs
     · exact q.elim
   · exact q.elim
 · unfold nA at q
   simp only at q
   split at q
   · rename_i xs d' e2
     unfold Rep at r1
     obtain⟨a,vs,rfl,na,ha,ra⟩:=r1
     obtain⟨z,ez,rz⟩:=ra.eW e2
     exact xD value slice pins s σ H _ _ v u Q I rx ry ⟨a,vs,_,z,rfl,r2,.inl (fY P ha),ez,k.here P q S rz⟩ hs
   · exact q.elim
 · unfold nA at q
   simp only at q
   split at q
   · rename_i xs d' e2
     unfold Rep at r1
     obtain⟨a,vs,rfl,na,ha,ra⟩:=r1
     obtain⟨z,ez,rz⟩:=ra.eW e2
     exact HH value slice pins s σ H _ _ v u Q I rx ry ⟨a,vs,_,z,rfl,r2,.of (P.get ha),ez,k.here P q S rz⟩ hs
   · exact q.elim
theorem KZ{a b:Expr}{ta tb:DE}{pos:Pos}(ha:PE X a (LE ta))(hb:PE X b (LE tb))(hs:pM b:=by intro _ _;rfl):PE X (.Subscript a b pos) (LE (ak nA ta tb)):=PE.imp (JU K5 ha hb hs) fun _ _ _ h=>LE.op h
end
end L3
namespace L3
open PySem PySem.Spec L2
open PyProof.Rows hiding St
section
variable {X:Cx}
noncomputable def items?(st:ag):D→Option (List D)
 | .lst xs=>some xs
 | .tup xs=>some xs
 | .ref n=>(match st[n]? with|some (.lst xs)=>some xs|_=>none)
 |_=>none
@[simp] theorem Ky(st:ag)(xs:List D):items? st (.lst xs)=some xs:=rfl
@[simp] theorem Km(st:ag)(xs:List D):items? st (.tup xs)=some xs:=rfl
@[simp] theorem items_int(st:ag)(i:Int):items? st (.int i)=none:=rfl
@[simp] theorem KU(st:ag)(i:Bool):items? st (.bl i)=none:=rfl
@[simp] theorem items_str(st:ag)(i:Str):items? st (.str i)=none:=rfl
@[simp] theorem Kx(st:ag):items? st .aH=none:=rfl
theorem aF{st:ag}{n:Nat}{xs:List D}(h:st[n]?=some (.lst xs)):items? st (.ref n)=some xs:=by unfold items?;simp only[h]
theorem mx{α:List (Option Addr)}{H:Hp}{st:ag}{d:D}{v:V}{xs:List D}(S:aV α st H)(r:Rep α H d v)(e:items? st d=some xs):
 ∃p vs,v= .ref p∧aG α H xs vs∧(Rd H p (.lst vs)∨H p=some (.tup vs)):=by
 cases d<;>try(cases e;done)
 · unfold items? at e
   simp only at e
   split at e
   · rename_i ys q
     cases e
     obtain⟨a,ea,vs,h1,h2⟩:=S.gY q
     have r':=d8 ea r
     subst r'
     exact⟨a,vs,rfl,h2,.inl (.of h1)⟩
   · cases e
 · cases e
   unfold Rep at r
   obtain⟨a,vs,rfl,_,h1,h2⟩:=r
   exact⟨a,vs,rfl,h2,.inl h1⟩
 · cases e
   unfold Rep at r
   obtain⟨a,vs,rfl,_,h1,h2⟩:=r
   exact⟨a,vs,rfl,h2,.inr h1⟩
theorem y8{K:PySem.W.Frag}{G F H:Hp}(P:cq G F H){p:Addr}{vs:List V}(h:Rd G p (.lst vs)∨G p=some (.tup vs)):kA K H p vs∨ia K H p vs:=h.elim (fun z=> .inl (.inl (fY P z))) fun z=> .inr (.of (P.get z))
theorem iI{α:List (Option Addr)}{H:Hp}{ds:List D}{xs:List V}{d:D}(r:aG α H ds xs)(e:ds=[d]):∃v,xs=[v]∧Rep α H d v:=by
 subst e
 unfold aG at r
 obtain⟨v,q,rfl,h1,h2⟩:=r
 unfold aG at h2
 subst h2
 exact⟨v,rfl,h1⟩
theorem ma{α:List (Option Addr)}{H:Hp}{ds:List D}{xs:List V}{d e:D}(r:aG α H ds xs)(q:ds=[d,e]):∃v u,xs=[v,u]∧Rep α H d v∧Rep α H e u:=by
 subst q
 unfold aG at r
 obtain⟨v,q,rfl,h1,h2⟩:=r
 obtain⟨u,rfl,h3⟩:=iI h2 rfl
 exact⟨v,u,rfl,h1,h3⟩
noncomputable def uJ:fE:=fun ds st K=>match ds with
 | [.str x]=>x.length≤sizeLine∧K (.int x.length) st
 | [d]=>(match items? st d with|some xs=>K (.int xs.length) st|none=>False)
 |_=>False
theorem IK:bJ X (.builtin "len") (gJ uJ):=fun pins s σ H xs us Q I rs ⟨α,ds,st,K,G,F',P,r,S,q,k⟩=>by
 unfold uJ at q
 split at q
 · rename_i x
   obtain⟨v,rfl,r1⟩:=iI r rfl
   unfold Rep at r1
   subst r1
   exact vI pins s σ H _ us Q I rs ⟨x,rfl,q.1,k.here P q.2 S (by unfold Rep;rfl)⟩
 · rename_i d _
   split at q
   · rename_i ys e
     obtain⟨v,rfl,r1⟩:=iI r rfl
     obtain⟨p,vs,rfl,r2,h⟩:=mx S r1 e
     refine wu pins s σ H _ us Q I rs ⟨p,vs,rfl,y8 P h,k.here P q S (by unfold Rep;rw[r2.length])⟩
   · exact q.elim
 · exact q.elim
noncomputable def Kd(g:Int→Int):fE:=fun ds st K=>match ds with| [.int i]=>K (.int (g i)) st|_=>False
noncomputable abbrev zm:fE:=Kd fun i=>if i<0 then-i else i
theorem IE:bJ X (.builtin "abs") (gJ zm):=bJ.imp B0 fun xs H Q ⟨α,ds,st,K,G,F',P,r,S,q,k⟩=>by
 unfold zm Kd at q
 split at q
 · obtain⟨v,rfl,r1⟩:=iI r rfl
   unfold Rep at r1
   subst r1
   exact⟨_,rfl,k.here P q S (by unfold Rep;rfl)⟩
 · exact q.elim
noncomputable def Gi(g:Int→Int→Int):fE:=fun ds st K=>match ds with| [.int i,.int j]=>K (.int (g i j)) st|_=>False
noncomputable abbrev yv:fE:=Gi fun i j=>if j>i then j else i
theorem Jo(hc:X.calm=true):bJ X (.builtin "max") (gJ yv):=bJ.imp (AK hc) fun xs H Q ⟨α,ds,st,K,G,F',P,r,S,q,k⟩=>by
 unfold yv Gi at q
 split at q
 · obtain⟨v,u,rfl,r1,r2⟩:=ma r rfl
   unfold Rep at r1 r2
   subst r1 r2
   exact⟨_,_,rfl,k.here P q S (by unfold Rep;rfl)⟩
 · exact q.elim
noncomputable def zl:fE:=fun ds st K=>match ds with| [.int i]=>K (.int i) st| [.bl b]=>K (.int (if b then 1 else 0)) st|_=>False
theorem IQ:bJ X (.type "int") (gJ zl):=bJ.imp zH fun xs H Q ⟨α,ds,st,K,G,F',P,r,S,q,k⟩=>by
 unfold zl at q
 split at q
 · obtain⟨v,rfl,r1⟩:=iI r rfl
   unfold Rep at r1
   subst r1
   exact .inl ⟨_,rfl,k.here P q S (by unfold Rep;rfl)⟩
 · obtain⟨v,rfl,r1⟩:=iI r rfl
   unfold Rep at r1
   subst r1
   exact .inr ⟨_,rfl,k.here P q S (by unfold Rep;rfl)⟩
 · exact q.elim
noncomputable def pq:fE:=fun ds st K=>match ds with| [d]=>(match items? st d with|some xs=>K (.tup xs) st|none=>False)|_=>False
theorem Ep:bJ X (.type "tuple") (gJ pq):=bJ.imp uc fun xs H Q ⟨α,ds,st,K,G,F',P,r,S,q,k⟩=>by
 unfold pq at q
 split at q
 · rename_i d
   split at q
   · rename_i ys e
     obtain⟨v,rfl,r1⟩:=iI r rfl
     cases d with
     |tup zs=>
      cases e
      have r0:=r1
      unfold Rep at r1
      obtain⟨a,vs,rfl,na,h1,h2⟩:=r1
      exact⟨a,vs,rfl,.inr ⟨.of (P.get h1),k.here P q S r0⟩⟩
     |_=>
      obtain⟨p,vs,rfl,r2,h⟩:=mx S r1 e
      refine⟨p,vs,rfl,?_⟩
      rcases h with h|h
      · exact .inl ⟨.inl (fY P h),fun l hl=>k.tup P q S r2 hl⟩
      · first
         |(cases e;done)
         |(exfalso
           unfold items? at e
           simp only at e
           first
            |(split at e
              · rename_i z
                obtain⟨a,ea,vs',h1,h2⟩:=S.gY z
                have e':=d8 ea r1
                cases e'
                rw[h]at h1;cases h1
              · cases e)
            |(unfold Rep at r1
              obtain⟨a,vs',e',_,h1,_⟩:=r1
              cases e'
              rcases h1 with h1|⟨o,h1⟩<;>(rw[h]at h1;cases h1)))
   · exact q.elim
 · exact q.elim
noncomputable def qV:fE:=fun ds st K=>match ds with| [d]=>(match items? st d with|some xs=>K (.lst xs) st|none=>False)|_=>False
theorem Hr:bJ X (.type "list") (gJ qV):=bJ.imp oA fun xs H Q ⟨α,ds,st,K,G,F',P,r,S,q,k⟩=>by
 unfold qV at q
 split at q
 · split at q
   · rename_i ys e
     obtain⟨v,rfl,r1⟩:=iI r rfl
     obtain⟨p,vs,rfl,r2,h⟩:=mx S r1 e
     exact⟨p,vs,rfl,y8 P h,fun l hl=>k.lst P q S r2 hl⟩
   · exact q.elim
 · exact q.elim
noncomputable def pk:fE:=fun ds st K=>match ds with| [d]=>(match items? st d with|some xs=>K (.ref st.length) (st++[.lst xs])|none=>False)|_=>False
theorem Ec:bJ X (.type "list") (gJ pk):=bJ.imp oA fun xs H Q ⟨α,ds,st,K,G,F',P,r,S,q,k⟩=>by
 unfold pk at q
 split at q
 · split at q
   · rename_i ys e
     obtain⟨v,rfl,r1⟩:=iI r rfl
     obtain⟨p,vs,rfl,r2,h⟩:=mx S r1 e
     exact⟨p,vs,rfl,y8 P h,fun l hl=>k.new P q S r2 hl⟩
   · exact q.elim
 · exact q.elim
noncomputable def jA:List D→Option (List Bool)
 | []=>some []
 | .bl b::r=>(jA r).map (b:: ·)
 |_::_=>none
noncomputable def mm:List D→Option (List Int)
 | []=>some []
 | .int b::r=>(mm r).map (b:: ·)
 |_::_=>none
theorem r_{α:List (Option Addr)}{H:Hp}:∀ {ds:List D} {vs:List V} {bs:List Bool},aG α H ds vs→jA ds=some bs→vs=bs.map V.bl
 | [],vs,bs,r,e=>by
   unfold aG at r
   cases e
   exact r
 |d::ds,vs,bs,r,e=>by
  unfold aG at r
  obtain⟨v,q,rfl,h1,h2⟩:=r
  cases d<;>try(cases e;done)
  unfold jA at e
  cases z:jA ds with
  |none=>rw[z]at e;cases e
  |some cs=>
   rw[z]at e
   cases e
   unfold Rep at h1
   rw[h1,r_ h2 z]
   rfl
theorem tx{α:List (Option Addr)}{H:Hp}:∀ {ds:List D} {vs:List V} {bs:List Int},aG α H ds vs→mm ds=some bs→vs=bs.map V.int
 | [],vs,bs,r,e=>by
   unfold aG at r
   cases e
   exact r
 |d::ds,vs,bs,r,e=>by
  unfold aG at r
  obtain⟨v,q,rfl,h1,h2⟩:=r
  cases d<;>try(cases e;done)
  unfold mm at e
  cases z:mm ds with
  |none=>rw[z]at e;cases e
  |some cs=>
   rw[z]at e
   cases e
   unfold Rep at h1
   rw[h1,tx h2 z]
   rfl
theorem rW:∀ {bs:List Bool} {us:List Value},Vals (bs.map V.bl) us→us=bs.map Value.bool
 | [],_,.nil=>rfl
 |b::bs,_,.cons h t=>by
  have h:_=Value.bool b:=h
  rw[h,rW t]
  rfl
end
end L3
namespace L3
open PySem PySem.Spec L2
open PyProof.Rows hiding St
section
variable {X:Cx}
noncomputable def uK:fE:=fun ds st K=>match ds with| [.lst xs]=>(match jA xs with|some bs=>K (.bl (bs.all id)) st|none=>False)|_=>False
theorem range_all{α:Type}(l:List α)(f:α→Bool)(tr:Nat→Bool)(h:∀i x,l[i]?=some x→tr i=f x):(List.range l.length).all tr=l.all f:=by
 induction l generalizing tr with
 |nil=>rfl
 |cons a l ih=>
  rw[List.length_cons,List.range_succ_eq_map,List.all_cons,List.all_cons,List.all_map,h 0 a rfl]
  congr 1
  exact ih (tr∘Nat.succ) fun i x e=>h (i+1) x (by simpa using e)
theorem Jw(hc:X.calm=true):bJ X (.builtin "all") (gJ uK):=fun pins s σ H xs us Q I rs ⟨α,ds,st,K,G,F',P,r,S,q,k⟩=>by
 unfold uK at q
 split at q
 · rename_i ys
   split at q
   · rename_i bs e
     obtain⟨v,rfl,r1⟩:=iI r rfl
     unfold Rep at r1
     obtain⟨a,vs,rfl,na,h1,h2⟩:=r1
     obtain⟨u,rfl,ru⟩:=vals1 rs
     cases ru
     have hv:=r_ h2 e
     subst hv
     obtain⟨z,its,n,rv,hl,eo⟩:=Inv.sv I (fY P h1)
     have hits:=rW rv
     subst hits
     have isL:s.heap.IsList a (bs.map Value.bool).toArray:=⟨_,eo,rfl,n,rfl⟩
     refine call_all_walk (wpAny_pyIter_list isL ?_)
     have hne:a≠s.heap.objs.size:=Nat.ne_of_lt (Heap.lt_size eo)
     refine⟨s.heap.objs.size,_,_,_,_,_,fun i=>(bs[i]?).getD true,rfl,Walks.list (A:=X.A.in1) (I.ok.hd hc) _ a hne (bs.map Value.bool).toArray,⟨⟨_,Heap.get?_push_size _ rfl,rfl,rfl⟩,⟨_,Heap.get?_push_of_some _ eo,rfl,n,rfl⟩⟩,?_,?_⟩
     · intro i w s' Q' E' hP hQ
       rw[List.getElem?_toArray,List.getElem?_map]at hP
       cases zb:bs[i]? with
       |none=>rw[zb]at hP;cases hP
       |some b=>
        rw[zb]at hP
        cases hP
        simp only[zb]at hQ
        exact wpAny_truthy_bool hQ
     · intro h' tk hk
       have kp:∀b o,s.heap.get? b=some o→h'.get? b=some o:=fun b o q=>hk b o (by
        intro hb
        have:b=s.heap.objs.size:=by simpa using hb
        exact absurd (Heap.lt_size q) (by rw[this];exact Nat.lt_irrefl _)) (Heap.get?_push_of_some _ q)
       have ea:(List.range (bs.map Value.bool).toArray.size).all (fun i=>(bs[i]?).getD true)=bs.all id:=by
        rw[List.size_toArray,List.length_map]
        exact range_all bs id _ fun i x e=>by rw[e];rfl
       rw[ea]
       exact⟨.bl (bs.all id),H,I.kept (t':=tk) kp,rfl,k.here P q S (by unfold Rep;rfl)⟩
   · exact q.elim
 · exact q.elim
noncomputable def iG(st:ag):D→Option String
 | .aH=>some "NoneType"
 | .bl _=>some "bool"
 | .int _=>some "int"
 | .str _=>some "str"
 | .lst _=>some "list"
 | .tup _=>some "tuple"
 | .ref n=>(match st[n]? with|some (.lst _)=>some "list"|_=>none)
 | .ty _=>none
@[simp] theorem LF(st:ag)(xs:List D):iG st (.lst xs)=some "list":=rfl
@[simp] theorem Ls(st:ag)(xs:List D):iG st (.tup xs)=some "tuple":=rfl
@[simp] theorem ty_int(st:ag)(i:Int):iG st (.int i)=some "int":=rfl
@[simp] theorem LN(st:ag)(i:Bool):iG st (.bl i)=some "bool":=rfl
@[simp] theorem ty_str(st:ag)(i:Str):iG st (.str i)=some "str":=rfl
@[simp] theorem Lw(st:ag):iG st .aH=some "NoneType":=rfl
noncomputable def qC(t c:String):Bool:=t==c||(t=="bool"&&c=="int")
theorem vY{α:List (Option Addr)}{H:Hp}{st:ag}{K:PySem.W.Frag}{d:D}{v:V}{t:String}(S:aV α st H)(r:Rep α H d v)(e:iG st d=some t):iP K H v (.type t):=by
 cases d<;>unfold iG at e<;>try(cases e;done)
 · unfold Rep at r;cases e;subst r;exact .aH
 · unfold Rep at r;cases e;subst r;exact .bl _
 · unfold Rep at r;cases e;subst r;exact .int _
 · unfold Rep at r;cases e;subst r;exact .str _
 · simp only at e
   split at e
   · rename_i z
     cases e
     obtain⟨a,ea,vs',h1,h2⟩:=S.gY z
     have r':=d8 ea r
     subst r'
     exact .lst h1
   · cases e
 · cases e
   unfold Rep at r
   obtain⟨a,vs,rfl,na,h1,h2⟩:=r
   rcases h1 with h1|⟨o,h1⟩
   · exact .lst h1
   · exact .iO h1
 · cases e
   unfold Rep at r
   obtain⟨a,vs,rfl,na,h1,h2⟩:=r
   exact .tup h1
theorem xG{G F H:Hp}{K:PySem.W.Frag}(P:cq G F H){x:V}{t:Value}(h:iP K G x t):iP K H x t:=by
 cases h with
 |aH=>exact .aH
 |bl x=>exact .bl x
 |int x=>exact .int x
 |str x=>exact .str x
 |qd x=>exact .qd x
 |lst e=>exact .lst (P.get e)
 |iO e=>exact .iO (P.get e)
 |tup e=>exact .tup (P.get e)
 |dK e=>exact .dK (P.get e)
 |dT e=>exact .dT (P.get e)
 |ins e a b c d f=>exact .ins (P.get e) a b c d f
noncomputable def pG:List String:=["NoneType","bool","int","str","list","tuple"]
noncomputable def ll:List String:=["bool","int","str","list","tuple"]
theorem ye(K:PySem.W.Frag){t c:String}(ht:t∈pG)(hc:c∈ll):PySem.W.kitOne K (.type t) (.type c)=some (qC t c):=by
 simp only[pG,ll,List.mem_cons,List.not_mem_nil,or_false]at ht hc
 rcases ht with rfl|rfl|rfl|rfl|rfl|rfl<;>rcases hc with rfl|rfl|rfl|rfl|rfl<;>with_unfolding_all rfl
theorem uV{st:ag}{d:D}{t:String}(e:iG st d=some t):t∈pG:=by
 cases d<;>unfold iG at e<;>first
  |(cases e;done)
  |(cases e;decide)
  |(simp only at e;split at e<;>cases e;decide)
theorem kitx_of{pins:List (Addr×Obj)}{σ:L2.St}{H:Hp}{s:Shared}{x:V}{u:Value}{t:String}(I:Inv X pins σ H s)(rx:RelV x u)(ty:iP X.K H x (.type t)):
 ∃Hh:Heap→Prop,PySem.W.KitX X.K u (.type t) Hh∧Hh s.heap∧u≠ .builtin "__main__.__loader__#opaque":=by
 cases ty with
 |aH=>cases (show u=Value.none from rx);exact⟨_,PySem.W.kitx_none,True.intro,fun z=>nomatch z⟩
 |bl y=>cases (show u=Value.bool y from rx);exact⟨_,PySem.W.kitx_bool,True.intro,fun z=>nomatch z⟩
 |int i=>obtain⟨t,q⟩:=(show∃t,u=Value.int i t from rx);cases q;exact⟨_,PySem.W.kitx_int,True.intro,fun z=>nomatch z⟩
 |str y=>obtain⟨t,q⟩:=(show∃t,u=Value.str y t from rx);cases q;exact⟨_,PySem.W.kitx_str,True.intro,fun z=>nomatch z⟩
 |qd y=>obtain⟨t,q⟩:=(show∃t,u=Value.float y t from rx);cases q;exact⟨_,PySem.W.kitx_float,True.intro,fun z=>nomatch z⟩
 | @lst a xs ea=>
   cases (show u=Value.ref a from rx)
   obtain⟨_,_,n,_,h1⟩:=(show dS X.prog X.w H s.heap a (.lst xs)from I.aP a _ ea)
   exact⟨_,PySem.W.kitx_list,⟨_,h1,rfl⟩,fun z=>nomatch z⟩
 | @iO a ob xs ea=>
   cases (show u=Value.ref a from rx)
   obtain⟨_,_,_,n,_,h1⟩:=(show dS X.prog X.w H s.heap a (.iO ob (.lst xs))from I.aP a _ ea)
   exact⟨_,PySem.W.kitx_list,⟨_,h1,rfl⟩,fun z=>nomatch z⟩
 | @tup a xs ea=>
   cases (show u=Value.ref a from rx)
   obtain⟨_,_,_,p⟩:=(show dS X.prog X.w H s.heap a (.tup xs)from I.aP a _ ea)
   obtain⟨o,h1,h2,_⟩:=p
   exact⟨_,PySem.W.kitx_tuple,⟨o,h1,h2⟩,fun z=>nomatch z⟩
 | @dK a kvs ea=>
   cases (show u=Value.ref a from rx)
   obtain⟨_,_,vs,_,p⟩:=(show dS X.prog X.w H s.heap a (.dK kvs)from I.aP a _ ea)
   obtain⟨o,es,ep,h1,h2,_⟩:=p
   exact⟨_,PySem.W.kitx_dict,⟨o,h1,h2.1⟩,fun z=>nomatch z⟩
 | @dT a kvs ea=>
   cases (show u=Value.ref a from rx)
   obtain⟨_,_,xs,_,o,es,ep,h1,h2,_⟩:=(show dS X.prog X.w H s.heap a (.dT kvs)from I.aP a _ ea)
   exact⟨_,PySem.W.kitx_dict,⟨o,h1,h2.1⟩,fun z=>nomatch z⟩
noncomputable def m4:List D→Option (List String)
 | []=>some []
 | .ty b::r=>(m4 r).map (b:: ·)
 |_::_=>none
theorem vC{α:List (Option Addr)}{H:Hp}:∀ {ds:List D} {vs:List V} {bs:List String},aG α H ds vs→m4 ds=some bs→vs=bs.map V.ty
 | [],vs,bs,r,e=>by
   unfold aG at r
   cases e
   exact r
 |d::ds,vs,bs,r,e=>by
  unfold aG at r
  obtain⟨v,q,rfl,h1,h2⟩:=r
  cases d<;>try(cases e;done)
  unfold m4 at e
  cases z:m4 ds with
  |none=>rw[z]at e;cases e
  |some cs=>
   rw[z]at e
   cases e
   unfold Rep at h1
   rw[h1,vC h2 z]
   rfl
theorem vj:∀ {bs:List String} {us:List Value},Vals (bs.map V.ty) us→us=bs.map Value.type
 | [],_,.nil=>rfl
 |b::bs,_,.cons h t=>by
  have h:_=Value.type b:=h
  rw[h,vj t]
  rfl
theorem xa(K:PySem.W.Frag){t:String}(ht:t∈pG):∀cs:List String,(∀c∈cs,c∈ll)→PySem.W.kitAny K (.type t) (cs.map Value.type)=some (cs.any (qC t))
 | [],_=>rfl
 |c::cs,h=>by
  show(match PySem.W.kitOne K (.type t) (.type c)with|some true=>some true|some false=>PySem.W.kitAny K (.type t) (cs.map Value.type)|none=>none)=_
  rw[ye K ht (h c List.mem_cons_self),List.any_cons]
  cases qC t c with
  |true=>rfl
  |false=>exact xa K ht cs fun c hc=>h c (List.mem_cons_of_mem _ hc)
noncomputable def uD:fE:=fun ds st K=>match ds with
 | [d,.ty c]=>(match iG st d with|some t=>c∈ll∧K (.bl (qC t c)) st|none=>False)
 | [d,.tup cs]=>(match iG st d,m4 cs with|some t,some cl=>(∀c∈cl,c∈ll)∧K (.bl (cl.any (qC t))) st|_,_=>False)
 |_=>False
theorem IZ:bJ X (.builtin "isinstance") (gJ uD):=fun pins s σ H xs us Q I rs ⟨α,ds,st,K,G,F',P,r,S,q,k⟩=>by
 unfold uD at q
 split at q
 · rename_i d c
   split at q
   · rename_i t e
     obtain⟨v,v2,rfl,r1,r2⟩:=ma r rfl
     obtain⟨u,u2,rfl,ru,ru2⟩:=vals2 rs
     unfold Rep at r2
     subst r2
     cases (show u2=Value.type c from ru2)
     exact zX I ru (xG P (vY S r1 e)) (ye _ (uV e) q.1) fun tk=>⟨.bl (qC t c),H,I.tok tk,rfl,k.here P q.2 S (by unfold Rep;rfl)⟩
   · exact q.elim
 · rename_i d cs
   split at q
   · rename_i t cl e ec
     obtain⟨v,v2,rfl,r1,r2⟩:=ma r rfl
     obtain⟨u,u2,rfl,ru,ru2⟩:=vals2 rs
     unfold Rep at r2
     obtain⟨a,vs,rfl,na,h1,h2⟩:=r2
     cases (show u2=Value.ref a from ru2)
     have hv:=vC h2 ec
     subst hv
     obtain⟨Hh,Z,hh,hne⟩:=kitx_of I ru (xG P (vY S r1 e))
     obtain⟨its,r',pl,hz⟩:=I.tuple (ia.of (P.get h1))
     have hi:=vj r'
     subst hi
     obtain⟨⟨cls,dd,data,sl⟩,ho,hc,n,hd⟩:=pl
     simp only at hc hd
     subst hc hd
     exact PySem.W.kia_tup Z I.gK hh ho (xa _ (uV e) cl q.1) hne fun tk=>⟨.bl _,H,I.tok tk,rfl,k.here P q.2 S (by unfold Rep;rfl)⟩
   · exact q.elim
 · exact q.elim
end
end L3
namespace L3
open PySem PySem.Spec L2 PySem.SeqAt
open PyProof.Rows hiding St
mutual
noncomputable def cT:D→D→Bool
 | .aH,.aH=>true
 | .bl a,.bl b=>a==b
 | .bl a,.int b=>(if a then 1 else 0)==b
 | .int a,.bl b=>a==(if b then 1 else 0)
 | .int a,.int b=>a==b
 | .str a,.str b=>a==b
 | .lst xs,.lst ys=>jY xs ys
 | .tup xs,.tup ys=>jY xs ys
 |_,_=>false
noncomputable def jY:List D→List D→Bool
 | [],[]=>true
 |x::xs,y::ys=>cT x y&&jY xs ys
 |_,_=>false
end
noncomputable def pl:Nat→D→Bool
 |_,.aH=>true
 |_,.bl _=>true
 |_,.int _=>true
 |_,.str _=>true
 |n+1,.lst xs=>xs.all (pl n)
 |n+1,.tup xs=>xs.all (pl n)
 |_,_=>false
mutual
theorem qw:∀(n:Nat) (d:D),pl n d=true→cT d d=true
 |_,.aH,_=>rfl
 |_,.bl _,_=>by simp[cT]
 |_,.int _,_=>by simp[cT]
 |_,.str _,_=>by simp[cT]
 |n+1,.lst xs,h=>by unfold cT;exact oH n xs (by unfold pl at h;exact h)
 |n+1,.tup xs,h=>by unfold cT;exact oH n xs (by unfold pl at h;exact h)
 |0,.lst xs,h=>by cases h
 |0,.tup xs,h=>by cases h
 |_,.ref _,h=>by unfold pl at h;cases h
 |_,.ty _,h=>by unfold pl at h;cases h
theorem oH:∀(n:Nat) (xs:List D),xs.all (pl n)=true→jY xs xs=true
 |_,[],_=>by unfold jY;rfl
 |n,x::xs,h=>by
  rw[List.all_cons,Bool.and_eq_true]at h
  unfold jY
  rw[qw n x h.1,oH n xs h.2]
  rfl
end
mutual
theorem Rep.inj{α:List (Option Addr)}{H:Hp}:∀ {d e:D} {v:V} (n:Nat),pl n d=true→pl n e=true→Rep α H d v→Rep α H e v→d=e
 | .aH,e,v,n,_,he,h1,h2=>by
   unfold Rep at h1;subst h1
   cases e<;>first|(unfold pl at he;cases he;done)|(unfold Rep at h2;cases h2;rfl)|(unfold Rep at h2;cases h2;done)|(unfold Rep at h2;obtain⟨_,_,h2,_⟩:=h2;cases h2)|rfl|(cases h2;done)|(obtain⟨_,_,h2,_⟩:=h2;cases h2)|(obtain⟨_,_,h2⟩:=h2;cases h2)
 | .bl b,e,v,n,_,he,h1,h2=>by
   unfold Rep at h1;subst h1
   cases e<;>first|(unfold pl at he;cases he;done)|(unfold Rep at h2;cases h2;rfl)|(unfold Rep at h2;cases h2;done)|(unfold Rep at h2;obtain⟨_,_,h2,_⟩:=h2;cases h2)|(cases h2;rfl)|(cases h2;done)|(obtain⟨_,_,h2,_⟩:=h2;cases h2)|(obtain⟨_,_,h2⟩:=h2;cases h2)
 | .int b,e,v,n,_,he,h1,h2=>by
   unfold Rep at h1;subst h1
   cases e<;>first|(unfold pl at he;cases he;done)|(unfold Rep at h2;cases h2;rfl)|(unfold Rep at h2;cases h2;done)|(unfold Rep at h2;obtain⟨_,_,h2,_⟩:=h2;cases h2)|(cases h2;rfl)|(cases h2;done)|(obtain⟨_,_,h2,_⟩:=h2;cases h2)|(obtain⟨_,_,h2⟩:=h2;cases h2)
 | .str b,e,v,n,_,he,h1,h2=>by
   unfold Rep at h1;subst h1
   cases e<;>first|(unfold pl at he;cases he;done)|(unfold Rep at h2;cases h2;rfl)|(unfold Rep at h2;cases h2;done)|(unfold Rep at h2;obtain⟨_,_,h2,_⟩:=h2;cases h2)|(cases h2;rfl)|(cases h2;done)|(obtain⟨_,_,h2,_⟩:=h2;cases h2)|(obtain⟨_,_,h2⟩:=h2;cases h2)
 | .ty b,e,v,n,hd,he,h1,h2=>by unfold pl at hd;cases hd
 | .ref b,e,v,n,hd,he,h1,h2=>by unfold pl at hd;cases hd
 | .lst xs,e,v,0,hd,he,h1,h2=>by cases hd
 | .tup xs,e,v,0,hd,he,h1,h2=>by cases hd
 | .lst xs,e,v,n+1,hd,he,h1,h2=>by
   unfold Rep at h1
   obtain⟨a,vs,rfl,na,ha,ra⟩:=h1
   cases e<;>unfold Rep at h2<;>try(cases h2;done)
   · unfold pl at he;cases he
   · obtain⟨a',vs',e',na',ha',ra'⟩:=h2
     cases e'
     have:vs=vs':=by
      rcases ha with ha|⟨o,ha⟩<;>rcases ha' with ha'|⟨o',ha'⟩<;>(rw[ha]at ha';first|(cases ha';rfl)|(cases ha';done))
     subst this
     rw[aG.inj n (by unfold pl at hd;exact hd) (by unfold pl at he;exact he) ra ra']
   · obtain⟨a',vs',e',na',ha',ra'⟩:=h2
     cases e'
     rcases ha with ha|⟨o,ha⟩<;>(rw[ha]at ha';cases ha')
 | .tup xs,e,v,n+1,hd,he,h1,h2=>by
   unfold Rep at h1
   obtain⟨a,vs,rfl,na,ha,ra⟩:=h1
   cases e<;>unfold Rep at h2<;>try(cases h2;done)
   · unfold pl at he;cases he
   · obtain⟨a',vs',e',na',ha',ra'⟩:=h2
     cases e'
     rcases ha' with ha'|⟨o,ha'⟩<;>(rw[ha]at ha';cases ha')
   · obtain⟨a',vs',e',na',ha',ra'⟩:=h2
     cases e'
     rw[ha]at ha'
     cases ha'
     rw[aG.inj n (by unfold pl at hd;exact hd) (by unfold pl at he;exact he) ra ra']
theorem aG.inj{α:List (Option Addr)}{H:Hp}:∀ {ds es:List D} {vs:List V} (n:Nat),ds.all (pl n)=true→es.all (pl n)=true→aG α H ds vs→aG α H es vs→ds=es
 | [],es,vs,n,_,_,h1,h2=>by
   unfold aG at h1
   subst h1
   cases es with
   |nil=>rfl
   |cons e es=>unfold aG at h2;obtain⟨_,_,h,_⟩:=h2;cases h
 |d::ds,es,vs,n,hd,he,h1,h2=>by
  unfold aG at h1
  obtain⟨v,r,rfl,r1,r2⟩:=h1
  cases es with
  |nil=>unfold aG at h2;cases h2
  |cons e es=>
   unfold aG at h2
   obtain⟨v',r',h,q1,q2⟩:=h2
   cases h
   rw[List.all_cons,Bool.and_eq_true]at hd he
   rw[Rep.inj n hd.1 he.1 r1 q1,aG.inj n hd.2 he.2 r2 q2]
end
theorem lH:∀ {xs ys:List D},xs.length≠ys.length→jY xs ys=false
 | [],[],h=>absurd rfl h
 | [],_::_,_=>by unfold jY;rfl
 |_::_,[],_=>by unfold jY;rfl
 |x::xs,y::ys,h=>by
  unfold jY
  rw[lH (by simpa using h),Bool.and_false]
theorem lM:∀ {xs ys:List D},xs.length=ys.length→jY xs ys=(List.range xs.length).all fun j=>cT (xs.getD j .aH) (ys.getD j .aH)
 | [],[],_=>by unfold jY;rfl
 | [],_::_,h=>by cases h
 |_::_,[],h=>by cases h
 |x::xs,y::ys,h=>by
  unfold jY
  rw[List.length_cons,List.range_succ_eq_map,List.all_cons,List.all_map,lM (by simpa using h)]
  rfl
section
variable {X:Cx}{pins:List (Addr×Obj)}{σ:L2.St}{H:Hp}{s:Shared}{α:List (Option Addr)}
theorem jj{xs:List D}{vs:List V}{its:List Value}(r:aG α H xs vs)(v:Vals vs its)(j:Nat)(hj:j<its.length):∃x,xs[j]?=some (xs.getD j .aH)∧Rep α H (xs.getD j .aH) x∧RelV x its[j]:=by
 have h1:=r.length
 have h2:=v.length
 have hx:j<xs.length:=by omega
 have e:xs[j]?=some (xs.getD j .aH):=by rw[List.getElem?_eq_getElem hx,List.getD_eq_getElem?_getD,List.getElem?_eq_getElem hx];rfl
 obtain⟨x,q,rr⟩:=r.get e
 obtain⟨u,q2,rv⟩:=v.get q
 rw[List.getElem?_eq_getElem hj]at q2
 cases q2
 exact⟨x,e,rr,rv⟩
theorem ix{xs:List D}{n:Nat}(h:xs.all (pl n)=true)(j:Nat):pl n (xs.getD j .aH)=true:=by
 rw[List.getD_eq_getElem?_getD]
 cases e:xs[j]? with
 |none=>cases n<;>rfl
 |some d=>exact List.all_eq_true.mp h d (List.mem_of_getElem? e)
noncomputable def tG:D→Bool
 | .aH=>true
 | .bl _=>true
 | .int _=>true
 | .str _=>true
 |_=>false
theorem xv{A:Around}{d e:D}{x y:V}{u v:Value}(hd:tG d=true)(he:tG e=true)(rd:Rep α H d x)(re:Rep α H e y)(rx:RelV x u)(ry:RelV y v):RcAt A s u v (cT d e)∧EqAt A s u v (cT d e):=by
 cases d<;>cases e<;>try(first|(cases hd;done)|(cases he;done))
 all_goals(unfold Rep at rd re;subst rd re)
 all_goals(first|(obtain⟨t,rfl⟩:=rx;obtain⟨t',rfl⟩:=ry)|(obtain⟨t,rfl⟩:=rx;cases ry)|(cases rx;obtain⟨t,rfl⟩:=ry)|(cases rx;cases ry))
 all_goals unfold cT
 · exact⟨RcAt.none_none,EqAt.same _⟩
 · exact⟨RcAt.none_bool _,EqAt.none_bool _⟩
 · exact⟨RcAt.none_int _ _,EqAt.none_int _ _⟩
 · exact⟨RcAt.none_str _ _,EqAt.none_str _ _⟩
 · exact⟨RcAt.bool_none _,EqAt.bool_none _⟩
 · exact⟨RcAt.bool_bool _ _,EqAt.bool_bool _ _⟩
 · exact⟨RcAt.bool_int _ _ _,EqAt.bool_int _ _ _⟩
 · exact⟨RcAt.bool_str _ _ _,EqAt.bool_str _ _ _⟩
 · exact⟨RcAt.int_none _ _,EqAt.int_none _ _⟩
 · exact⟨RcAt.int_bool _ _ _,EqAt.int_bool _ _ _⟩
 · exact⟨RcAt.int_int _ _ _ _,EqAt.int_int _ _ _ _⟩
 · exact⟨RcAt.int_str _ _ _ _,EqAt.int_str _ _ _ _⟩
 · exact⟨RcAt.str_none _ _,EqAt.str_none _ _⟩
 · exact⟨RcAt.str_bool _ _ _,EqAt.str_bool _ _ _⟩
 · exact⟨RcAt.str_int _ _ _ _,EqAt.str_int _ _ _ _⟩
 · exact⟨RcAt.str_str _ _ _ _,EqAt.str_str _ _ _ _⟩
theorem lst_is(I:Inv X pins σ H s){xs:List D}{x:V}{u:Value}(r:Rep α H (.lst xs) x)(rx:RelV x u):∃a vs its,u= .ref a∧aG α H xs vs∧Vals vs its∧s.heap.IsList a its.toArray:=by
 unfold Rep at r
 obtain⟨a,vs,rfl,na,ha,ra⟩:=r
 cases rx
 obtain⟨z,its,n,rv,hl,eo⟩:=Inv.sv I ha
 exact⟨a,vs,its,rfl,ra,rv,⟨_,eo,rfl,n,rfl⟩⟩
theorem tup_is(I:Inv X pins σ H s){xs:List D}{x:V}{u:Value}(r:Rep α H (.tup xs) x)(rx:RelV x u):∃a vs its,u= .ref a∧aG α H xs vs∧Vals vs its∧s.heap.IsTuple a its.toArray:=by
 unfold Rep at r
 obtain⟨a,vs,rfl,na,ha,ra⟩:=r
 cases rx
 obtain⟨its,r',p,hz⟩:=I.tuple (ia.of ha)
 exact⟨a,vs,its,rfl,ra,r',p⟩
theorem tm(I:Inv X pins σ H s){A:Around}{xs:List D}{e:D}{x y:V}{u v:Value}(he:tG e=true)(rd:Rep α H (.lst xs) x)(re:Rep α H e y)(rx:RelV x u)(ry:RelV y v)(hu:A.units<cLine):
 (RcAt A s u v (cT (.lst xs) e)∧EqAt A s u v (cT (.lst xs) e))∧RcAt A s v u (cT e (.lst xs))∧EqAt A s v u (cT e (.lst xs)):=by
 obtain⟨a,vs,its,rfl,_,_,hl⟩:=lst_is I rd rx
 cases e<;>try(cases he;done)
 all_goals(unfold Rep at re;subst re)
 all_goals(first|(obtain⟨t,rfl⟩:=ry)|(cases ry))
 all_goals unfold cT
 · exact⟨⟨RcAt.list_none hl hu,EqAt.list_none hl hu⟩,RcAt.none_list hl hu,EqAt.none_list hl hu⟩
 · exact⟨⟨RcAt.list_bool _ hl hu,EqAt.list_bool _ hl hu⟩,RcAt.bool_list _ hl hu,EqAt.bool_list _ hl hu⟩
 · exact⟨⟨RcAt.list_int _ _ hl hu,EqAt.list_int _ _ hl hu⟩,RcAt.int_list _ _ hl hu,EqAt.int_list _ _ hl hu⟩
 · exact⟨⟨RcAt.list_str _ _ hl hu,EqAt.list_str _ _ hl hu⟩,RcAt.str_list _ _ hl hu,EqAt.str_list _ _ hl hu⟩
theorem tF(I:Inv X pins σ H s){A:Around}{xs:List D}{e:D}{x y:V}{u v:Value}(he:tG e=true)(rd:Rep α H (.tup xs) x)(re:Rep α H e y)(rx:RelV x u)(ry:RelV y v)(hu:A.units<cLine):
 (RcAt A s u v (cT (.tup xs) e)∧EqAt A s u v (cT (.tup xs) e))∧RcAt A s v u (cT e (.tup xs))∧EqAt A s v u (cT e (.tup xs)):=by
 obtain⟨a,vs,its,rfl,_,_,hl⟩:=tup_is I rd rx
 cases e<;>try(cases he;done)
 all_goals(unfold Rep at re;subst re)
 all_goals(first|(obtain⟨t,rfl⟩:=ry)|(cases ry))
 all_goals unfold cT
 · exact⟨⟨RcAt.tuple_none hl hu,EqAt.tuple_none hl hu⟩,RcAt.none_tuple hl hu,EqAt.none_tuple hl hu⟩
 · exact⟨⟨RcAt.tuple_bool _ hl hu,EqAt.tuple_bool _ hl hu⟩,RcAt.bool_tuple _ hl hu,EqAt.bool_tuple _ hl hu⟩
 · exact⟨⟨RcAt.tuple_int _ _ hl hu,EqAt.tuple_int _ _ hl hu⟩,RcAt.int_tuple _ _ hl hu,EqAt.int_tuple _ _ hl hu⟩
 · exact⟨⟨RcAt.tuple_str _ _ hl hu,EqAt.tuple_str _ _ hl hu⟩,RcAt.str_tuple _ _ hl hu,EqAt.str_tuple _ _ hl hu⟩
theorem xM{A:Around}{n:Nat}{d e:D}{x y:V}{a b:Addr}(hd:pl n d=true)(he:pl n e=true)(rd:Rep α H d x)(re:Rep α H e y)(rx:RelV x (.ref a))(ry:RelV y (.ref b))(h:RcAt A s (.ref a) (.ref b) (cT d e)):
 RcAt A s (.ref a) (.ref b) (cT d e)∧EqAt A s (.ref a) (.ref b) (cT d e):=by
 refine⟨h,?_⟩
 by_cases hab:a=b
 · subst hab
   have hx:x=y:=RelV.inj rx ry
   subst hx
   have:=Rep.inj n hd he rd re
   subst this
   rw[qw n d hd]
   exact EqAt.same _
 · exact EqAt.of_refs hab h
theorem yz(I:Inv X pins σ H s):∀(n:Nat) (A:Around) (d e:D) (x y:V) (u v:Value),pl n d=true→pl n e=true→Rep α H d x→Rep α H e y→RelV x u→RelV y v→A.units+n<cLine→
 RcAt A s u v (cT d e)∧EqAt A s u v (cT d e):=by
 intro n
 induction n with
 |zero=>
  intro A d e x y u v hd he rd re rx ry hu
  refine xv ?_ ?_ rd re rx ry
  · cases d<;>first|rfl|(cases hd)
  · cases e<;>first|rfl|(cases he)
 |succ n ih=>
  intro A d e x y u v hd he rd re rx ry hu
  have hu0:A.units<cLine:=by omega
  have hin:A.in1.units+n<cLine:=by rw[Around.in1_units];omega
  cases d<;>try(cases hd;done)
  case lst xs=>
   cases e<;>try(cases he;done)
   case lst ys=>
    have rd0:=rd
    have re0:=re
    have rx0:=rx
    have ry0:=ry
    obtain⟨a,vs,its,rfl,r1,v1,l1⟩:=lst_is I rd rx
    obtain⟨b,ws,jts,rfl,r2,v2,l2⟩:=lst_is I re ry
    have e1:=r1.length
    have e2:=v1.length
    have e3:=r2.length
    have e4:=v2.length
    refine xM hd he rd0 re0 rx0 ry0 ?_
    unfold cT
    by_cases hlen:xs.length=ys.length
    · rw[lM hlen]
      have hsz:its.toArray.size=jts.toArray.size:=by simp only[List.size_toArray];omega
      have hx:xs.length=its.toArray.size:=by simp only[List.size_toArray];omega
      rw[hx]
      refine RcAt.lists l1 l2 hsz hu0 fun j h1 h2=>?_
      have h1':j<its.length:=by simpa using h1
      have h2':j<jts.length:=by simpa using h2
      obtain⟨p,_,q1,q2⟩:=jj r1 v1 j h1'
      obtain⟨p',_,q1',q2'⟩:=jj r2 v2 j h2'
      exact(ih A.in1 _ _ p p' _ _ (ix (by unfold pl at hd;exact hd) j) (ix (by unfold pl at he;exact he) j) q1 q1' (by simpa using q2) (by simpa using q2') hin).2
    · rw[lH hlen]
      exact RcAt.lists_lengths l1 l2 (by simp only[List.size_toArray,bne_iff_ne,ne_eq];omega) hu0
   case tup ys=>
    obtain⟨a,vs,its,rfl,r1,v1,l1⟩:=lst_is I rd rx
    obtain⟨b,ws,jts,rfl,r2,v2,l2⟩:=tup_is I re ry
    unfold cT
    exact⟨RcAt.list_tuple l1 l2 hu0,EqAt.list_tuple l1 l2 hu0⟩
   all_goals exact(tm I rfl rd re rx ry hu0).1
  case tup xs=>
   cases e<;>try(cases he;done)
   case tup ys=>
    have rd0:=rd
    have re0:=re
    have rx0:=rx
    have ry0:=ry
    obtain⟨a,vs,its,rfl,r1,v1,l1⟩:=tup_is I rd rx
    obtain⟨b,ws,jts,rfl,r2,v2,l2⟩:=tup_is I re ry
    have e1:=r1.length
    have e2:=v1.length
    have e3:=r2.length
    have e4:=v2.length
    refine xM hd he rd0 re0 rx0 ry0 ?_
    unfold cT
    have key:=RcAt.tuples (e:=fun j=>cT (xs.getD j .aH) (ys.getD j .aH)) l1 l2 hu0 fun j h1 h2=>by
     have h1':j<its.length:=by simpa using h1
     have h2':j<jts.length:=by simpa using h2
     obtain⟨p,_,q1,q2⟩:=jj r1 v1 j h1'
     obtain⟨p',_,q1',q2'⟩:=jj r2 v2 j h2'
     exact(ih A.in1 _ _ p p' _ _ (ix (by unfold pl at hd;exact hd) j) (ix (by unfold pl at he;exact he) j) q1 q1' (by simpa using q2) (by simpa using q2') hin).2
    by_cases hlen:xs.length=ys.length
    · rw[lM hlen]
      have hsz:its.toArray.size=jts.toArray.size:=by simp only[List.size_toArray];omega
      have hx:xs.length=its.toArray.size:=by simp only[List.size_toArray];omega
      rw[hsz,Nat.min_self,beq_self_eq_true,Bool.and_true,←hsz,←hx]at key
      exact key
    · rw[lH hlen]
      have hne:(its.toArray.size==jts.toArray.size)=false:=by simp only[List.size_toArray,beq_eq_false_iff_ne,ne_eq];omega
      rw[hne,Bool.and_false]at key
      exact key
   case lst ys=>
    obtain⟨a,vs,its,rfl,r1,v1,l1⟩:=tup_is I rd rx
    obtain⟨b,ws,jts,rfl,r2,v2,l2⟩:=lst_is I re ry
    unfold cT
    exact⟨RcAt.tuple_list l1 l2 hu0,EqAt.tuple_list l1 l2 hu0⟩
   all_goals exact(tF I rfl rd re rx ry hu0).1
  all_goals
   cases e<;>try(cases he;done)
   case lst ys=>exact(tm I rfl re rd ry rx hu0).2
   case tup ys=>exact(tF I rfl re rd ry rx hu0).2
   all_goals exact xv rfl rfl rd re rx ry
noncomputable def FP:dG:=fun x y st K=>pl 40 x=true∧pl 40 y=true∧K (.bl (cT x y)) st
theorem K3{k:Nat}(hr:dj k X.A):cc X (compareOp .Eq) (LR FP):=fun pins s σ H x y v u Q I rx ry ⟨α,d,e,st,K,G,F',P,r1,r2,S,q,k⟩=>by
 have hu:=hr.units
 exact(yz I 40 X.A d e x y v u q.1 q.2.1 (r1.mono P.same) (r2.mono P.same) rx ry (by omega)).1 _ _ _ _ ⟨.bl (cT d e),H,I,rfl,k.here P q.2.2 S (by unfold Rep;rfl)⟩
noncomputable def HW:dG:=fun x y st K=>match x,y with
 | .int i,.int j=>K (.bl (!decide (i=j))) st
 | .bl i,.bl j=>K (.bl (!decide (i=j))) st
 | .str i,.str j=>K (.bl (!decide (i=j))) st
 |_,_=>False
theorem Ln:cc X (compareOp .NotEq) (LR HW):=cc.imp Jz fun x y H Q ⟨α,d,e,st,K,G,F',P,r1,r2,S,q,k⟩=>by
 cases d<;>cases e<;>try exact q.elim
 all_goals(unfold Rep at r1 r2;subst r1 r2)
 · exact⟨rfl,k.here P q S (by unfold Rep;congr 2;exact decide_eq_decide.mpr ⟨fun h=>by cases h;rfl,fun h=>by rw[h]⟩)⟩
 · exact⟨rfl,k.here P q S (by unfold Rep;congr 2;exact decide_eq_decide.mpr ⟨fun h=>by cases h;rfl,fun h=>by rw[h]⟩)⟩
 · exact⟨rfl,k.here P q S (by unfold Rep;congr 2;exact decide_eq_decide.mpr ⟨fun h=>by cases h;rfl,fun h=>by rw[h]⟩)⟩
end
end L3
namespace L3
open PySem PySem.Spec L2
open PyProof.Rows hiding St
noncomputable def LC(α:List (Option Addr))(G F:Hp)(K:bR→ag→Prop)(Q:L2.St→Hp→Prop):Prop:=∀σd' st',K σd' st'→∀α' G' H' σ',Step α G α' G'→cq G' F H'→eD α' G' σd' σ'→aV α' st' G'→Q σ' H'
structure uH(α:List (Option Addr))(G F:Hp)(DD:jb)(D:Ends):Prop where
 nx:LC α G F DD.nx D.nx
 rt:LK α G F DD.rt D.rt
 bk:LC α G F DD.bk D.bk
 ct:LC α G F DD.ct D.ct
inductive Kg(t:DS)(D:Ends)(σ:L2.St)(H:Hp):Prop
 |mk (α:List (Option Addr)) (σd:bR) (st:ag) (DD:jb) (G F:Hp) (P:cq G F H) (R:eD α G σd σ) (S:aV α st G) (h:t DD σd st) (k:uH α G F DD D):Kg t D σ H
noncomputable def LS(t:DS):TS:=Kg t
theorem LC.at{α α1:List (Option Addr)}{G F G1:Hp}{K:bR→ag→Prop}{Q:L2.St→Hp→Prop}(h:LC α G F K Q)(s:Step α G α1 G1):LC α1 G1 F K Q:=fun d st' k α' G' H' v s' P R S=>h d st' k α' G' H' v (s.trans s') P R S
theorem LC.here{α:List (Option Addr)}{G F H:Hp}{K:bR→ag→Prop}{Q:L2.St→Hp→Prop}(h:LC α G F K Q)(P:cq G F H){σd:bR}{st:ag}{σ:L2.St}(k:K σd st)(R:eD α G σd σ)(S:aV α st G):Q σ H:=h σd st k α G H σ Step.refl P R S
theorem uH.at{α α1:List (Option Addr)}{G F G1:Hp}{DD:jb}{D:Ends}(h:uH α G F DD D)(s:Step α G α1 G1):uH α1 G1 F DD D:=⟨h.nx.at s,h.rt.at s,h.bk.at s,h.ct.at s⟩
section
variable {X:Cx}{a b c e o i:Expr}{es:List Expr}{ta tb tc te:DE}{pos:Pos}{st:Stmt}{sts:List Stmt}{t u:DS}
theorem PS.imp{t t':TS}(h:PS X st t)(f:∀D σ H,t' D σ H→t D σ H):PS X st t':=fun pins s σ H D I q=>h pins s σ H D I (f D σ H q)
theorem gL.imp{t t':TS}(h:gL X sts t)(f:∀D σ H,t' D σ H→t D σ H):gL X sts t':=fun pins s σ H D I q=>h pins s σ H D I (f D σ H q)
noncomputable def d9:DS:=fun D σ st=>D.nx σ st
noncomputable def aD(t u:DS):DS:=fun D σ st=>t {D with nx:=u D} σ st
theorem DP:gL X [] (LS d9):=gL.imp EE fun D σ H ⟨α,σd,st,DD,G,F,P,R,S,t,k⟩=>k.nx.here P t R S
theorem Ex(h:PS X st (LS t)):gL X [st] (LS t):=E7 h
theorem Bq(h:PS X st (LS t))(h2:gL X sts (LS u)):gL X (st::sts) (LS (aD t u)):=gL.imp (Cg h h2) fun D σ H ⟨α,σd,st,DD,G,F,P,R,S,t,k⟩=>
 ⟨α,σd,st,_,G,F,P,R,S,t,fun σd' st' q α' G' H' σ' s' P' R' S'=>⟨α',σd',st',DD,G',F,P',R',S',q,k.at s'⟩,k.rt,k.bk,k.ct⟩
noncomputable def zu:DS:=fun D σ st=>D.ct σ st
theorem w6:PS X (.Continue pos) (LS zu):=PS.imp wA fun D σ H ⟨α,σd,st,DD,G,F,P,R,S,t,k⟩=>k.ct.here P t R S
noncomputable def bX(te:DE):DS:=fun D σ st=>te σ st D.rt
theorem Gv(h:PE X e (LE te)):PS X (.Return (some e) pos) (LS (bX te)):=PS.imp (HC h) fun D σ H ⟨α,σd,st,DD,G,F,P,R,S,t,k⟩=>⟨α,σd,st,_,G,F,P,R,S,t,k.rt⟩
noncomputable def zd:DS:=fun D _ st=>D.rt .aH st
theorem Fo:PS X (.Return none pos) (LS zd):=PS.imp EK fun D σ H ⟨α,σd,st,DD,G,F,P,R,S,t,k⟩=>k.rt.here P t S (by unfold Rep;rfl)
noncomputable def gj(te:DE):DS:=fun D σ st=>te σ st fun _ st1=>D.nx σ st1
theorem Fd(h:PE X e (LE te))(hs:swapsWith e none pos.line X.env=pure false:=by rfl):PS X (.Expr e pos) (LS (gj te)):=PS.imp (EW h hs) fun D σ H ⟨α,σd,st,DD,G,F,P,R,S,t,k⟩=>
 ⟨α,σd,st,_,G,F,P,R,S,t,fun d st1 q α1 G1 H1 v s1 P1 S1 r1=>(k.nx.at s1).here P1 q (R.step s1) S1⟩
noncomputable def fw(c:DT)(t u:DS):DS:=fun D σ st=>c σ st fun b st1=>if b=true then t D σ st1 else u D σ st1
theorem IV{x y:List Stmt}{tc:DT}(hc:PT X c (LT tc))(ha:gL X x (LS t))(hb:gL X y (LS u)):PS X (.If c x y pos) (LS (fw tc t u)):=PS.imp (J9 hc ha hb) fun D σ H ⟨α,σd,st,DD,G,F,P,R,S,t,k⟩=>by
 refine⟨α,σd,st,_,G,F,P,R,S,t,fun b st1 q α1 G1 H1 s1 P1 S1=>?_⟩
 cases b with
 |true=>exact⟨α1,σd,st1,DD,G1,F,P1,R.step s1,S1,q,k.at s1⟩
 |false=>exact⟨α1,σd,st1,DD,G1,F,P1,R.step s1,S1,q,k.at s1⟩
noncomputable abbrev fN:=D→bR→Option bR
noncomputable def bB(i:Nat):fN:=fun d σ=>some (σ.set i (some d))
noncomputable def ja(i j:Nat):fN:=fun d σ=>match d with| .tup [x,y]=>some ((σ.set i (some x)).set j (some y))|_=>none
inductive Ka(t:fN)(v:V)(σ:L2.St)(H:Hp)(Q:L2.St→Hp→Prop):Prop
 |mk (α:List (Option Addr)) (σd:bR) (st:ag) (d:D) (K:bR→ag→Prop) (G F:Hp) (P:cq G F H) (R:eD α G σd σ) (S:aV α st G) (r:Rep α G d v) (h:∃σ',t d σd=some σ'∧K σ' st) (k:LC α G F K Q):Ka t v σ H Q
noncomputable def LG(t:fN):TG:=Ka t
theorem PG.imp{tg:Expr}{t t':TG}(h:PG X tg t)(f:∀v σ H Q,t' v σ H Q→t v σ H Q):PG X tg t':=fun pins s σ H v u Q I r q=>h pins s σ H v u Q I r (f v σ H Q q)
theorem Em{tg:Expr}{i:Nat}(h:PG X tg (i9 i)):PG X tg (LG (bB i)):=PG.imp h fun v σ H Q ⟨α,σd,st,d,K,G,F,P,R,S,r,⟨σ',e,q⟩,k⟩=>by
 cases e
 exact k.here P q (R.set i r) S
theorem Hn{tg:Expr}{i j:Nat}(h:PG X tg (Cz X.K 2 (pC (i9 i) (pC (i9 j) By)))):PG X tg (LG (ja i j)):=PG.imp h fun v σ H Q ⟨α,σd,st,d,K,G,F,P,R,S,r,⟨σ',e,q⟩,k⟩=>by
 unfold ja at e
 split at e
 · rename_i x y
   cases e
   unfold Rep at r
   obtain⟨a,vs,rfl,na,h1,h2⟩:=r
   obtain⟨v1,v2,rfl,r1,r2⟩:=ma h2 rfl
   exact⟨a,_,rfl,.of (P.get h1),rfl,v1,_,rfl,v2,_,rfl,rfl,k.here P q ((R.set i r1).set j r2) S⟩
 · cases e
noncomputable def bg(i:Nat)(te:DE):DS:=fun D σ st=>te σ st fun d st1=>D.nx (σ.set i (some d)) st1
theorem Bc{i:Nat}(h:PS X st (mN (LE te) (i9 i))):PS X st (LS (bg i te)):=PS.imp h fun D σ H ⟨α,σd,st,DD,G,F,P,R,S,t,k⟩=>
 ⟨α,σd,st,_,G,F,P,R,S,t,fun d st1 q α1 G1 H1 v s1 P1 S1 r1=>(k.nx.at s1).here P1 q ((R.step s1).set i r1) S1⟩
noncomputable def yP(tg:fN)(te:DE):DS:=fun D σ st=>te σ st fun d st1=>∃σ',tg d σ=some σ'∧D.nx σ' st1
theorem He{tg:fN}(h:PS X st (mN (LE te) (LG tg))):PS X st (LS (yP tg te)):=PS.imp h fun D σ H ⟨α,σd,st,DD,G,F,P,R,S,t,k⟩=>
 ⟨α,σd,st,_,G,F,P,R,S,t,fun d st1 q α1 G1 H1 v s1 P1 S1 r1=>⟨α1,σd,st1,d,DD.nx,G1,F,P1,R.step s1,S1,r1,q,k.nx.at s1⟩⟩
noncomputable def BI(i j:Nat)(ta:DA):DS:=fun D σ st=>ta σ st fun ds st1=>match ds with| [x,y]=>D.nx ((σ.set i (some x)).set j (some y)) st1|_=>False
theorem GH{i j:Nat}{ta:DA}(h:PS X st (Gn i j (LA ta))):PS X st (LS (BI i j ta)):=PS.imp h fun D σ H ⟨α,σd,st,DD,G,F,P,R,S,t,k⟩=>by
 refine⟨α,σd,st,_,G,F,P,R,S,t,fun ds st1 q α1 G1 H1 vs s1 P1 S1 r1=>?_⟩
 match ds,q,r1 with
 | [x,y],q,r1=>
   obtain⟨v1,v2,rfl,q1,q2⟩:=ma r1 rfl
   exact⟨v1,v2,rfl,(k.nx.at s1).here P1 q (((R.step s1).set i q1).set j q2) S1⟩
noncomputable def zw(i:Nat)(r:dG)(te:DE):DS:=fun D σ st=>match σ[i]? with|some (some x)=>te σ st fun y st1=>r x y st1 fun z st2=>D.nx (σ.set i (some z)) st2|_=>False
noncomputable def vA(f:Int→Int→Int):dG:=fun x y st K=>match x,y with| .int i,.int j=>K (.int (f i j)) st|_,_=>False
theorem FV{i:Nat}{f:Int→Int→Int}(h:PS X st (H_ i (LE te) (xN f))):PS X st (LS (zw i (vA f) te)):=PS.imp h fun D σ H ⟨α,σd,st,DD,G,F,P,R,S,t,k⟩=>by
 unfold zw at t
 split at t
 · rename_i x e
   obtain⟨v,ev,rv⟩:=R.at' i x e
   refine⟨v,ev,α,σd,st,_,G,F,P,R,S,t,fun y st1 q α1 G1 H1 w s1 P1 S1 r1=>?_⟩
   cases x<;>cases y<;>try exact q.elim
   have rv':=rv
   unfold Rep at rv r1
   exact⟨_,_,rv,r1,(k.nx.at s1).here P1 q ((R.step s1).set i (by unfold Rep;rfl)) S1⟩
 · exact t.elim
noncomputable def qA(x y d:D)(st:ag)(K:ag→Prop):Prop:=match x,y with
 | .ref n,.int k=>(match st[n]? with
   |some (.lst xs)=>(match jP xs.length k with|some j=>K (st.set n (.lst (xs.set j d)))|none=>False)
   |_=>False)
 |_,_=>False
noncomputable def GJ(to ti te:DE):DS:=fun D σ st=>te σ st fun d st1=>to σ st1 fun x st2=>ti σ st2 fun y st3=>qA x y d st3 fun st4=>D.nx σ st4
theorem B8{to ti:DE}(h:PS X st (mN (LE te) (yY (LE to) (LE ti) uB))):PS X st (LS (GJ to ti te)):=PS.imp h fun D σ H ⟨α,σd,st,DD,G,F,P,R,S,t,k⟩=>by
 refine⟨α,σd,st,_,G,F,P,R,S,t,fun d st1 q α1 G1 H1 v s1 P1 S1 r1=>?_⟩
 refine⟨α1,σd,st1,_,G1,F,P1,R.step s1,S1,q,fun x st2 q2 α2 G2 H2 v2 s2 P2 S2 r2=>?_⟩
 refine⟨α2,σd,st2,_,G2,F,P2,(R.step s1).step s2,S2,q2,fun y st3 q3 α3 G3 H3 v3 s3 P3 S3 r3=>?_⟩
 cases x<;>cases y<;>try exact q3.elim
 rename_i n kk
 unfold qA at q3
 simp only at q3
 split at q3
 · rename_i xs e
   split at q3
   · rename_i j ej
     obtain⟨p,ep,vs,hv,rv⟩:=S3.gY e
     have r2':=d8 ep (r2.step s3)
     subst r2'
     unfold Rep at r3
     have hm:some p∈α3:=List.mem_of_getElem? ep
     have rd:=(r1.step s2).step s3
     refine⟨p,vs,kk,j,rfl,r3,P3.get hv,by rw[←rv.length];exact ej,?_⟩
     refine(((k.nx.at s1).at s2).at s3) σd _ q3 α3 (upd G3 p (.lst (vs.set j v))) _ σ (Step.write hm) (P3.write hv) ((((R.step s1).step s2).step s3).step (Step.write hm)) ?_
     exact S3.write ep ⟨vs.set j v,bw,(aR.mpr (nC rd j (aR.mp rv))).step (Step.write hm)⟩
   · exact q3.elim
 · exact q3.elim
noncomputable def vO(c:DT)(tb:DS):DS:=fun D σ st=>∃W:Nat→bR→ag→Prop,(∃m,W m σ st)∧∀m σ st,W m σ st→
 c σ st fun b st1=>if b=true then tb {D with nx:=fun σ' st'=>∃m',m'<m∧W m' σ' st',ct:=fun σ' st'=>∃m',m'<m∧W m' σ' st',bk:=D.nx} σ st1 else D.nx σ st1
theorem B4{tc:DT}(h:PS X st (Ae (LT tc) (LS t))):PS X st (LS (vO tc t)):=PS.imp h fun D σ H ⟨α,σd,st,DD,G,F,P,R,S,⟨W,⟨m0,w0⟩,turn⟩,k⟩=>by
 refine⟨fun m σ' H'=>∃α' σd' st' G',Step α G α' G'∧cq G' F H'∧eD α' G' σd' σ'∧aV α' st' G'∧W m σd' st',⟨m0,α,σd,st,G,Step.refl,P,R,S,w0⟩,?_⟩
 rintro m σ1 H1 ⟨α1,σd1,st1,G1,s1,P1,R1,S1,w1⟩
 refine⟨α1,σd1,st1,_,G1,F,P1,R1,S1,turn m σd1 st1 w1,fun b st2 q α2 G2 H2 s2 P2 S2=>?_⟩
 cases b with
 |false=>exact((k.nx.at s1).at s2).here P2 q (R1.step s2) S2
 |true=>
  refine⟨fun σ' H'=>∃m',m'<m∧∃α' σd' st' G',Step α G α' G'∧cq G' F H'∧eD α' G' σd' σ'∧aV α' st' G'∧W m' σd' st',fun σ' H' z=>z,?_⟩
  refine⟨α2,σd1,st2,_,G2,F,P2,R1.step s2,S2,q,?_⟩
  refine⟨?_,(k.rt.at s1).at s2,(k.nx.at s1).at s2,?_⟩
  · rintro σd3 st3 ⟨m',hm,w3⟩ α3 G3 H3 σ3 s3 P3 R3 S3
    exact⟨m',hm,α3,σd3,st3,G3,(s1.trans s2).trans s3,P3,R3,S3,w3⟩
  · rintro σd3 st3 ⟨m',hm,w3⟩ α3 G3 H3 σ3 s3 P3 R3 S3
    exact⟨m',hm,α3,σd3,st3,G3,(s1.trans s2).trans s3,P3,R3,S3,w3⟩
noncomputable abbrev DI:=bR→ag→(List D→(ag→Prop)→ag→Prop)→Prop
structure qP(J:It)(α:List (Option Addr))(G:Hp)(ok:ag→Prop)(xs:List D):Prop where
 stop:∀(n:Nat) α' G' F' H' st',Step α G α' G'→cq G' F' H'→aV α' st' G'→ok st'→xs.length≤n→J.stop n H'
 go:∀(n:Nat) d α' G' F' H' st',Step α G α' G'→cq G' F' H'→aV α' st' G'→ok st'→xs[n]?=some d→J.go n H'
 mj:∀(n:Nat) d α' G' F' H' st' x H'',Step α G α' G'→cq G' F' H'→aV α' st' G'→ok st'→xs[n]?=some d→J.mj n H' x H''→∃G'',Step α' G' α' G''∧cq G'' F' H''∧aV α' st' G''∧Rep α' G'' d x
noncomputable def LI(t:DI):TI:=fun σ H R=>∃α σd st K G F,cq G F H∧eD α G σd σ∧aV α st G∧t σd st K∧∀xs ok st1,K xs ok st1→∀J α1 G1 H1,Step α G α1 G1→cq G1 F H1→aV α1 st1 G1→qP J α1 G1 ok xs→R J H1
noncomputable def sQ(d:D)(st1:ag)(K:List D→(ag→Prop)→ag→Prop):Prop:=match d with
 | .lst xs=>K xs (fun _=>True) st1
 | .tup xs=>K xs (fun _=>True) st1
 | .ref n=>(match st1[n]? with|some (.lst xs)=>K xs (fun st'=>st'[n]?=some (.lst xs)) st1|_=>False)
 |_=>False
noncomputable def Jk(t:DE):DI:=fun σ st K=>t σ st fun d st1=>sQ d st1 K
theorem xZ{K:PySem.W.Frag}{a:Addr}{α:List (Option Addr)}{G:Hp}{ok:ag→Prop}{xs:List D}
 (h:∀α' G' st',Step α G α' G'→aV α' st' G'→ok st'→∃vs,Rd G' a (.lst vs)∧aG α' G' xs vs):qP (FO K a) α G ok xs where
 stop:=fun n α' G' F' H' st' s P S o hn=>by
  obtain⟨vs,h1,h2⟩:=h α' G' st' s S o
  exact⟨vs,.inl (fY P h1),by rw[←h2.length];exact hn⟩
 go:=fun n d α' G' F' H' st' s P S o hn=>by
  obtain⟨vs,h1,h2⟩:=h α' G' st' s S o
  obtain⟨v,e,_⟩:=h2.get hn
  exact⟨vs,v,.inl (fY P h1),e⟩
 mj:=fun n d α' G' F' H' st' x H'' s P S o hn y=>by
  obtain⟨vs,h1,h2⟩:=h α' G' st' s S o
  obtain⟨v,e,r⟩:=h2.get hn
  obtain⟨rfl,y⟩:=y
  have:=y vs (.inl (fY P h1))
  rw[e]at this
  cases this
  exact⟨G',Step.refl,P,S,r⟩
theorem GP{K:PySem.W.Frag}{a:Addr}{α:List (Option Addr)}{G:Hp}{ok:ag→Prop}{xs:List D}
 (h:∀α' G' st',Step α G α' G'→aV α' st' G'→ok st'→∃vs,G' a=some (.tup vs)∧aG α' G' xs vs):qP (HV K a) α G ok xs where
 stop:=fun n α' G' F' H' st' s P S o hn=>by
  obtain⟨vs,h1,h2⟩:=h α' G' st' s S o
  exact⟨vs,.of (P.get h1),by rw[←h2.length];exact hn⟩
 go:=fun n d α' G' F' H' st' s P S o hn=>by
  obtain⟨vs,h1,h2⟩:=h α' G' st' s S o
  obtain⟨v,e,_⟩:=h2.get hn
  exact⟨vs,v,.of (P.get h1),e⟩
 mj:=fun n d α' G' F' H' st' x H'' s P S o hn y=>by
  obtain⟨vs,h1,h2⟩:=h α' G' st' s S o
  obtain⟨v,e,r⟩:=h2.get hn
  obtain⟨rfl,y⟩:=y
  have:=y vs (.of (P.get h1))
  rw[e]at this
  cases this
  exact⟨G',Step.refl,P,S,r⟩
theorem BG{α α':List (Option Addr)}{G G':Hp}{a:Addr}{vs:List V}{xs:List D}(s:Step α G α' G')(na:some a∉α)(h1:Rd G a (.lst vs))(h2:aG α G xs vs):Rd G' a (.lst vs)∧aG α' G' xs vs:=by
 refine⟨?_,h2.step s⟩
 rcases h1 with h|⟨o,h⟩
 · exact .inl (s.ext _ _ na h)
 · exact .inr ⟨o,s.ext _ _ na h⟩
theorem Ga{l tg:Expr}{tl:DE}(hl:PE X l (LE tl)):PI X tg l (LI (Jk tl)):=by
 intro pins s σ H R I h
 obtain⟨α,σd,st,K,G,F,P,RS,S,t,k⟩:=h
 refine bD (hl pins s σ H (fun x H1=>∃d α1 G1 st1,Step α G α1 G1∧cq G1 F H1∧aV α1 st1 G1∧Rep α1 G1 d x∧sQ d st1 K) I ⟨α,σd,st,_,G,F,P,RS,S,t,fun d st1 q α1 G1 H1 v s1 P1 S1 r1=>⟨d,α1,G1,st1,s1,P1,S1,r1,q⟩⟩) fun v s1 ⟨x,H1,I1,rx,d,α1,G1,st1,s1',P1,S1,r1,q⟩=>?_
 unfold sQ at q
 have viaL:∀ {a:Addr} {vs:List V},x= .ref a→Rd H1 a (.lst vs)→R (FO X.K a) H1→wpAny (model X.prog X.w) X.A (pyIter v) (CC X pins σ tg R) X.xe s1:=by
  intro a vs ex hr hR
  subst ex
  cases rx
  obtain⟨its,rv,p,hz⟩:=I1.list (.inl hr)
  refine wpAny_pyIter_list p.isList ?_
  refine⟨s1.heap.objs.size,[s1.heap.objs.size],_,_,H1,rfl,I1.kept (t':=s1.toks) fun b o e=>Heap.get?_push_of_some _ e,A3 a _,⟨_,Heap.get?_push_size _ rfl,rfl,rfl⟩,fun b hb=>?_,hR⟩
  have e:b=s1.heap.objs.size:=by simpa using hb
  subst e
  exact I1.qz (Nat.le_refl _) (I1.aP.fresh (Nat.le_refl _))
 have viaT:∀ {a:Addr} {vs:List V},x= .ref a→H1 a=some (.tup vs)→R (HV X.K a) H1→wpAny (model X.prog X.w) X.A (pyIter v) (CC X pins σ tg R) X.xe s1:=by
  intro a vs ex hr hR
  subst ex
  cases rx
  obtain⟨its,rv,p,hz⟩:=I1.tuple (ia.of hr)
  refine wpAny_pyIter_tuple (show s1.heap.IsTuple a its.toArray from p) ?_
  refine⟨s1.heap.objs.size,[s1.heap.objs.size],_,_,H1,rfl,I1.kept (t':=s1.toks) fun b o e=>Heap.get?_push_of_some _ e,zc a _,⟨_,Heap.get?_push_size _ rfl,rfl,rfl⟩,fun b hb=>?_,hR⟩
  have e:b=s1.heap.objs.size:=by simpa using hb
  subst e
  exact I1.qz (Nat.le_refl _) (I1.aP.fresh (Nat.le_refl _))
 cases d<;>try exact q.elim
 · rename_i n
   simp only at q
   split at q
   · rename_i xs e
     obtain⟨a,ea,vs,h1,h2⟩:=S1.gY e
     have r1':=d8 ea r1
     subst r1'
     refine viaL rfl (fY P1 (.of h1)) (k _ _ st1 q _ α1 G1 H1 s1' P1 S1 (xZ fun α' G' st' s S o=>?_))
     obtain⟨b,eb,ws,g1,g2⟩:=S.gY o
     have hb:b=a:=by
      rcases s.pre _ _ ea with z|z<;>(rw[z]at eb;cases eb)
      rfl
     subst hb
     exact⟨ws,.of g1,g2⟩
   · exact q.elim
 · unfold Rep at r1
   obtain⟨a,vs,rfl,na,ha,ra⟩:=r1
   exact viaL rfl (fY P1 ha) (k _ _ st1 q _ α1 G1 H1 s1' P1 S1 (xZ fun α' G' st' s S o=>⟨vs,BG s na ha ra⟩))
 · unfold Rep at r1
   obtain⟨a,vs,rfl,na,ha,ra⟩:=r1
   exact viaT rfl (P1.get ha) (k _ _ st1 q _ α1 G1 H1 s1' P1 S1 (GP fun α' G' st' s S o=>⟨vs,s.ext _ _ na ha,ra.step s⟩))
noncomputable def dN(lo:Int)(n:Nat):List D:=(List.range n).map fun(k:Nat)=>D.int (lo+(k:Int))
theorem rM{lo:Int}{n k:Nat}:(dN lo n)[k]?=if k<n then some (.int (lo+(k:Int)))else none:=by
 unfold dN
 rw[List.getElem?_map]
 by_cases h:k<n
 · rw[List.getElem?_range h,if_pos h];rfl
 · rw[List.getElem?_eq_none (by simpa using h),if_neg h];rfl
theorem dE{lo:Int}{n:Nat}:(dN lo n).length=n:=by unfold dN;simp
theorem vb{α:List (Option Addr)}{G:Hp}{lo:Int}{n:Nat}:qP (tj lo n) α G (fun _=>True) (dN lo n) where
 stop:=fun m α' G' F' H' st' s P S o hn=>by rw[dE]at hn;exact hn
 go:=fun m d α' G' F' H' st' s P S o hn=>by
  rw[rM]at hn
  split at hn
  · assumption
  · cases hn
 mj:=fun m d α' G' F' H' st' x H'' s P S o hn y=>by
  obtain⟨rfl,rfl⟩:=y
  rw[rM]at hn
  split at hn
  · cases hn
    exact⟨G',Step.refl,P,S,by unfold Rep;rfl⟩
  · cases hn
theorem PI.imp{tg iter:Expr}{t t':TI}(h:PI X tg iter t)(f:∀σ H R,t' σ H R→t σ H R):PI X tg iter t':=fun pins s σ H R I q=>h pins s σ H R I (f σ H R q)
noncomputable def CV(ds:List D)(st1:ag)(K:List D→(ag→Prop)→ag→Prop):Prop:=match ds with
 | [.int j]=>(-(2^62)≤j∧j<2^62)∧K (dN 0 j.toNat) (fun _=>True) st1
 |_=>False
noncomputable def Dt(ds:List D)(st1:ag)(K:List D→(ag→Prop)→ag→Prop):Prop:=match ds with
 | [.int i,.int j]=>(-(2^62)≤i∧i<2^62∧ -(2^62)≤j∧j<2^62)∧K (dN i (j-i).toNat) (fun _=>True) st1
 |_=>False
noncomputable def EZ(t:DA):DI:=fun σ st K=>t σ st fun ds st1=>CV ds st1 K
noncomputable def ER(t:DA):DI:=fun σ st K=>t σ st fun ds st1=>Dt ds st1 K
theorem Aa{tg iter:Expr}{t:DA}(h:PI X tg iter (y6 (LA t))):PI X tg iter (LI (EZ t)):=PI.imp h fun σ H R ⟨α,σd,st,K,G,F,P,RS,S,t,k⟩=>by
 refine⟨α,σd,st,_,G,F,P,RS,S,t,fun ds st1 q α1 G1 H1 vs s1 P1 S1 r1=>?_⟩
 match ds,q,r1 with
 | [.int j],q,r1=>
   obtain⟨v,rfl,r2⟩:=iI r1 rfl
   unfold Rep at r2
   subst r2
   exact⟨j,rfl,q.1.1,q.1.2,k _ _ st1 q.2 _ α1 G1 H1 s1 P1 S1 vb⟩
theorem zL{tg iter:Expr}{t:DA}(h:PI X tg iter (yL (LA t))):PI X tg iter (LI (ER t)):=PI.imp h fun σ H R ⟨α,σd,st,K,G,F,P,RS,S,t,k⟩=>by
 refine⟨α,σd,st,_,G,F,P,RS,S,t,fun ds st1 q α1 G1 H1 vs s1 P1 S1 r1=>?_⟩
 match ds,q,r1 with
 | [.int i,.int j],q,r1=>
   obtain⟨v,u,rfl,r2,r3⟩:=ma r1 rfl
   unfold Rep at r2 r3
   subst r2 r3
   exact⟨i,j,rfl,q.1,k _ _ st1 q.2 _ α1 G1 H1 s1 P1 S1 vb⟩
noncomputable def iB(tg:fN)(body:DS)(ok:ag→Prop)(E:jb):List D→bR→ag→Prop
 | [],σ,st=>ok st∧E.nx σ st
 |x::xs,σ,st=>ok st∧∃σ1,tg x σ=some σ1∧body {E with nx:=iB tg body ok E xs,ct:=iB tg body ok E xs,bk:=E.nx} σ1 st
noncomputable def gc(src:DI)(tg:fN)(body:DS):DS:=fun D σ st=>src σ st fun xs ok st1=>iB tg body ok D xs σ st1
theorem GU{src:DI}{tg:fN}(h:PS X st (Ge (LI src) (LG tg) (LS t))):PS X st (LS (gc src tg t)):=PS.imp h fun D σ H ⟨α,σd,st,DD,G,F,P,R,S,tt,k⟩=>by
 refine⟨α,σd,st,_,G,F,P,R,S,tt,fun xs ok st1 q J α1 G1 H1 s1 P1 S1 it=>?_⟩
 refine⟨fun i m σ' H'=>∃α' σd' st' G',Step α1 G1 α' G'∧cq G' F H'∧eD α' G' σd' σ'∧aV α' st' G'∧iB tg t ok DD (xs.drop i) σd' st'∧m=xs.length-i,⟨xs.length,α1,σd,st1,G1,Step.refl,P1,R.step s1,S1,q,rfl⟩,?_⟩
 rintro i m σ2 H2 ⟨α2,σd2,st2,G2,s2,P2,R2,S2,q2,rfl⟩
 cases e:xs[i]? with
 |none=>
  have hl:xs.length≤i:=List.getElem?_eq_none_iff.mp e
  rw[List.drop_eq_nil_of_le hl]at q2
  unfold iB at q2
  exact .inl ⟨it.stop i α2 G2 F H2 st2 s2 P2 S2 q2.1 hl,((k.nx.at s1).at s2).here P2 q2.2 R2 S2⟩
 |some d=>
  have hl:i<xs.length:=(List.getElem?_eq_some_iff.mp e).1
  have ed:xs.drop i=d::xs.drop (i+1):=by
   rw[List.drop_eq_getElem_cons hl]
   congr 1
   rw[List.getElem?_eq_getElem hl]at e
   exact Option.some.inj e
  rw[ed]at q2
  unfold iB at q2
  obtain⟨aP,σ3,e3,q3⟩:=q2
  refine .inr ⟨it.go i d α2 G2 F H2 st2 s2 P2 S2 aP e,fun σ' H'=>∃α' σd' st' G',Step α1 G1 α' G'∧cq G' F H'∧eD α' G' σd' σ'∧aV α' st' G'∧iB tg t ok DD (xs.drop (i+1)) σd' st',?_,?_⟩
  · rintro σ' H' ⟨α',σd',st',G',z1,z2,z3,z4,z5⟩
    exact⟨xs.length-(i+1),by omega,α',σd',st',G',z1,z2,z3,z4,z5,rfl⟩
  · intro x H' y
    obtain⟨G3,s3,P3,S3,r3⟩:=it.mj i d α2 G2 F H2 st2 x H' s2 P2 S2 aP e y
    refine⟨α2,σd2,st2,d,fun σ' st'=>σ'=σ3∧st'=st2,G3,F,P3,R2.step s3,S3,r3,⟨σ3,e3,rfl,rfl⟩,?_⟩
    rintro σ' st' ⟨rfl,rfl⟩ α4 G4 H4 σ4 s4 P4 R4 S4
    have s24:=(s2.trans s3).trans s4
    refine⟨α4,σ',st',_,G4,F,P4,R4,S4,q3,?_,((k.rt.at s1).at s24),(k.nx.at s1).at s24,?_⟩
    · intro σd5 st5 q5 α5 G5 H5 σ5 s5 P5 R5 S5
      exact⟨α5,σd5,st5,G5,s24.trans s5,P5,R5,S5,q5⟩
    · intro σd5 st5 q5 α5 G5 H5 σ5 s5 P5 R5 S5
      exact⟨α5,σd5,st5,G5,s24.trans s5,P5,R5,S5,q5⟩
end
end L3
namespace L3
open PySem PySem.Spec L2
open PyProof.Rows hiding St
noncomputable def ip(fr:List (Option Nat))(σ:bR):bR:=fr.map fun o=>o.bind fun j=>(σ[j]?).join
theorem eD.comp{α:List (Option Addr)}{G:Hp}{σd:bR}{σ:L2.St}{fr:List (Option Nat)}(h:eD α G σd σ):eD α G (ip fr σd) (σC fr σ):=by
 refine⟨by unfold ip σC;simp,fun i d e=>?_⟩
 unfold ip at e
 rw[List.getElem?_map]at e
 cases q:fr[i]? with
 |none=>rw[q]at e;cases e
 |some o=>
  rw[q]at e
  cases o with
  |none=>simp at e
  |some j=>
   simp only[Option.map_some,Option.some.injEq,Option.bind_some]at e
   have ej:σd[j]?=some (some d):=by
    cases r:σd[j]? with
    |none=>rw[r]at e;cases e
    |some u=>rw[r]at e;simp at e;rw[e]
   obtain⟨v,ev,rv⟩:=h.at' j d ej
   refine⟨v,?_,rv⟩
   unfold σC
   rw[List.getElem?_map,q]
   simp[ev]
noncomputable def dZ(tg:fN)(c:DT)(te:DE)(ok:ag→Prop)(σc:bR):List D→List D→ag→(List D→ag→Prop)→Prop
 | [],acc,st,K=>ok st∧K acc st
 |x::xs,acc,st,K=>ok st∧∃σ2,tg x σc=some σ2∧c σ2 st fun b st1=>if b=true then te σ2 st1 fun y st2=>dZ tg c te ok σc xs (acc++[y]) st2 K else dZ tg c te ok σc xs acc st1 K
noncomputable def eM(src:DI)(fr:List (Option Nat))(tg:fN)(c:DT)(te:DE):DE:=fun σ st K=>src σ st fun xs ok st1=>xs.length≤sizeLine∧dZ tg c te ok (ip fr σ) xs [] st1 fun ys st2=>K (.lst ys) st2
noncomputable def pd(src:DI)(fr:List (Option Nat))(tg:fN)(c:DT)(te:DE):DE:=fun σ st K=>src σ st fun xs ok st1=>xs.length≤sizeLine∧dZ tg c te ok (ip fr σ) xs [] st1 fun ys st2=>K (.ref st2.length) (st2++[.lst ys])
noncomputable def cQ:DT:=fun _ st K=>K true st
noncomputable def rq(fr:List (Option Nat))(tg:fN):Prop:=∀(σ:bR) (d:D) (σ2:bR),tg d (ip fr σ)=some σ2→σ2.length=(ip fr σ).length∧∀(i:Nat) (e:D),(ip fr σ)[i]?=some (some e)→σ2[i]?=some (some e)
theorem oG{fr:List (Option Nat)}{σ:bR}{k:Nat}(h:fr[k]?=some none){e:D}(q:(ip fr σ)[k]?=some (some e)):False:=by
 unfold ip at q
 rw[List.getElem?_map,h]at q
 simp at q
theorem di{fr:List (Option Nat)}{k:Nat}(h:fr[k]?=some none:=by rfl):rq fr (bB k):=fun σ d σ2 e=>by
 cases e
 refine⟨List.length_set,fun i x q=>?_⟩
 by_cases hi:i=k
 · subst hi;exact(oG h q).elim
 · rw[List.getElem?_set_ne (Ne.symm hi)];exact q
theorem pQ{fr:List (Option Nat)}{k j:Nat}(h:fr[k]?=some none:=by rfl)(h':fr[j]?=some none:=by rfl):rq fr (ja k j):=fun σ d σ2 e=>by
 unfold ja at e
 split at e
 · cases e
   refine⟨by rw[List.length_set,List.length_set],fun i x q=>?_⟩
   by_cases hi:i=k
   · subst hi;exact(oG h q).elim
   · by_cases hj:i=j
     · subst hj;exact(oG h' q).elim
     · rw[List.getElem?_set_ne (Ne.symm hj),List.getElem?_set_ne (Ne.symm hi)];exact q
 · cases e
section
variable {X:Cx}
theorem Ce:rh X [] (LT cQ):=fun pins s σ H Q I ⟨α,σd,st,K,G,F,P,R,S,t,k⟩=>DZ pins s σ H Q I (k true st t α G H Step.refl P S)
theorem LE.comp{src:DI}{fr:List (Option Nat)}{tg:fN}{c:DT}{te:DE}(fit:rq fr tg){σ:L2.St}{H:Hp}{Q:VK}{α:List (Option Addr)}{σd:bR}{st:ag}{KE:List D→ag→Prop}{G F:Hp}(P:cq G F H)(R:eD α G σd σ)(S:aV α st G)
 (t:src σd st fun xs ok st1=>xs.length≤sizeLine∧dZ tg c te ok (ip fr σd) xs [] st1 KE)
 (fin:∀ys st2 α2 G2 H2 l vs,KE ys st2→Step α G α2 G2→cq G2 (upd F l (.lst vs)) H2→F l=none→aV α2 st2 G2→aG α2 G2 ys vs→Q (.ref l) H2):
 rT (LI src) fr (LG tg) (LT c) (LE te) σ H Q:=by
 refine⟨α,σd,st,_,G,F,P,R,S,t,fun xs ok st1 q J α1 G1 H1 s1 P1 S1 it l hl=>?_⟩
 obtain⟨hsz,q⟩:=q
 obtain⟨hG,hF⟩:=P1.none hl
 refine⟨fun i m σ' H'=>∃α' st' G' acc vs,Step α1 G1 α' G'∧cq G' (upd F l (.lst vs)) H'∧eD α' G' (ip fr σd) σ'∧aV α' st' G'∧aG α' G' acc vs∧acc.length≤i∧i≤xs.length∧dZ tg c te ok (ip fr σd) (xs.drop i) acc st' KE∧m=xs.length-i,
  ⟨xs.length,α1,st1,G1,[],[],Step.refl,P1.hide hl,(R.step s1).comp,S1,by unfold aG;rfl,Nat.le_refl _,Nat.zero_le _,q,rfl⟩,?_⟩
 rintro i m σ2 H2 ⟨α2,st2,G2,acc,vs,s2,P2,R2,S2,ra,hacc,hi,q2,rfl⟩
 cases e:xs[i]? with
 |none=>
  have hl2:xs.length≤i:=List.getElem?_eq_none_iff.mp e
  rw[List.drop_eq_nil_of_le hl2]at q2
  unfold dZ at q2
  exact .inl ⟨it.stop i α2 G2 _ H2 st2 s2 P2 S2 q2.1 hl2,fin acc st2 α2 G2 H2 l vs q2.2 (s1.trans s2) P2 hF S2 ra⟩
 |some d=>
  have hl2:i<xs.length:=(List.getElem?_eq_some_iff.mp e).1
  have ed:xs.drop i=d::xs.drop (i+1):=by
   rw[List.drop_eq_getElem_cons hl2]
   congr 1
   rw[List.getElem?_eq_getElem hl2]at e
   exact Option.some.inj e
  rw[ed]at q2
  unfold dZ at q2
  obtain⟨aP,σ3,e3,q3⟩:=q2
  refine .inr ⟨it.go i d α2 G2 _ H2 st2 s2 P2 S2 aP e,fun σ' H'=>∃α' st' G' acc vs,Step α1 G1 α' G'∧cq G' (upd F l (.lst vs)) H'∧eD α' G' (ip fr σd) σ'∧aV α' st' G'∧aG α' G' acc vs∧acc.length≤i+1∧dZ tg c te ok (ip fr σd) (xs.drop (i+1)) acc st' KE,?_,?_⟩
  · rintro σ' H' ⟨α',st',G',acc',vs',z1,z2,z3,z4,z5,z6,z7⟩
    exact⟨xs.length-(i+1),by omega,α',st',G',acc',vs',z1,z2,z3,z4,z5,z6,hl2,z7,rfl⟩
  · intro x H' y
    obtain⟨G3,s3,P3,S3,r3⟩:=it.mj i d α2 G2 _ H2 st2 x H' s2 P2 S2 aP e y
    refine⟨α2,ip fr σd,st2,d,fun σ' st'=>σ'=σ3∧st'=st2,G3,_,P3,R2.step s3,S3,r3,⟨σ3,e3,rfl,rfl⟩,?_⟩
    rintro σ' st' ⟨rfl,rfl⟩ α4 G4 H4 σ4 s4 P4 R4 S4
    have s24:=(s2.trans s3).trans s4
    have Rc:eD α4 G4 (ip fr σd) σ4:=⟨by rw[←(fit σd d σ' e3).1];exact R4.len,fun j z hz=>R4.at' j z ((fit σd d σ' e3).2 j z hz)⟩
    refine⟨α4,σ',st',_,G4,_,P4,R4,S4,q3,fun b st5 q5 α5 G5 H5 s5 P5 S5=>?_⟩
    cases b with
    |false=>exact⟨α5,st5,G5,acc,vs,s24.trans s5,P5,Rc.step s5,S5,((ra.step s3).step s4).step s5,by omega,q5⟩
    |true=>
     refine⟨α5,σ',st5,_,G5,_,P5,R4.step s5,S5,q5,fun z st6 q6 α6 G6 H6 v6 s6 P6 S6 r6=>?_⟩
     have hr:=(((ra.step s3).step s4).step s5).step s6
     refine⟨vs,(P6.frame bw).1,by rw[←hr.length];omega,α6,st6,G6,acc++[z],vs++[v6],(s24.trans s5).trans s6,?_,(Rc.step s5).step s6,S6,aR.mpr (eQ (aR.mp hr) (.cons r6 .nil)),by rw[List.length_append,List.length_singleton];omega,q6⟩
     have:=P6.Lz (p:=l) (o':= .lst (vs++[v6])) bw
     rw[Fl]at this
     exact this
theorem GF{scope:Scope}{Nc:List Str}{elt tg iter:Expr}{ifs:List Expr}{pos:Pos}{src:DI}{fr:List (Option Nat)}{dtg:fN}{c:DT}{te:DE}(S:bT X scope Nc fr)(hi:PI X tg iter (LI src))
 (hg:∀C s H ex,PG (fV X scope Nc C s H ex) tg (LG dtg)) (ht:∀C s H ex,rh (fV X scope Nc C s H ex) ifs (LT c)) (he:∀C s H ex,PE (fV X scope Nc C s H ex) elt (LE te)) (fit:rq fr dtg)
 (hx:X.xe=fun _ _=>False:=by rfl) (hc:X.calm=true:=by rfl) (hs:∀x,foldedSetIterable iter X.env x=pure x:=by intro _;rfl):PE X (.ListComp elt [⟨tg,iter,ifs,0⟩] scope pos) (LE (eM src fr dtg c te)):=
 PE.imp (xY hx hc S hi hg ht he hs) fun σ H Q ⟨α,σd,st,K,G,F,P,R,S,t,k⟩=>LE.comp fit P R S t fun ys st2 α2 G2 H2 l vs q s2 P2 hl S2 r=>by
  have hg:G2 l=none:=(P2.frame bw).2
  refine k _ st2 q α2 (upd G2 l (.lst vs)) H2 (.ref l) (s2.trans (Step.laid hg)) (P2.show hl) (S2.laid hg) ?_
  unfold Rep
  exact⟨l,vs,rfl,S2.mv hg,.of bw,r.step (Step.laid hg)⟩
theorem Fm{scope:Scope}{Nc:List Str}{elt tg iter:Expr}{ifs:List Expr}{pos:Pos}{src:DI}{fr:List (Option Nat)}{dtg:fN}{c:DT}{te:DE}(S:bT X scope Nc fr)(hi:PI X tg iter (LI src))
 (hg:∀C s H ex,PG (fV X scope Nc C s H ex) tg (LG dtg)) (ht:∀C s H ex,rh (fV X scope Nc C s H ex) ifs (LT c)) (he:∀C s H ex,PE (fV X scope Nc C s H ex) elt (LE te)) (fit:rq fr dtg)
 (hx:X.xe=fun _ _=>False:=by rfl) (hc:X.calm=true:=by rfl) (hs:∀x,foldedSetIterable iter X.env x=pure x:=by intro _;rfl):PE X (.ListComp elt [⟨tg,iter,ifs,0⟩] scope pos) (LE (pd src fr dtg c te)):=
 PE.imp (xY hx hc S hi hg ht he hs) fun σ H Q ⟨α,σd,st,K,G,F,P,R,S,t,k⟩=>LE.comp fit P R S t fun ys st2 α2 G2 H2 l vs q s2 P2 hl S2 r=>by
  have hg:G2 l=none:=(P2.frame bw).2
  refine k _ _ q (α2++[some l]) (upd G2 l (.lst vs)) H2 (.ref l) (s2.trans (Step.cell hg)) (P2.show hl) (S2.cell hg ⟨vs,bw,r.step (Step.cell hg)⟩) ?_
  unfold Rep
  refine .inr ⟨l,?_,rfl⟩
  rw[List.getElem?_append_right (by rw[S2.len];exact Nat.le_refl _),S2.len,Nat.sub_self]
  rfl
theorem DR{st:Stmt}{k:Nat}{src:DI}{fr:List (Option Nat)}{dtg:fN}{c:DT}{te:DE}(fit:rq fr dtg)(h:PS X st (mN (rT (LI src) fr (LG dtg) (LT c) (LE te)) (i9 k))):PS X st (LS (bg k (eM src fr dtg c te))):=
 PS.imp h fun D σ H ⟨α,σd,st,DD,G,F,P,R,S,t,q⟩=>LE.comp fit P R S t fun ys st2 α2 G2 H2 l vs qq s2 P2 hl S2 r=>by
  have hg:G2 l=none:=(P2.frame bw).2
  have s3:=s2.trans (Step.laid (o:= .lst vs) hg)
  refine q.nx _ st2 qq α2 (upd G2 l (.lst vs)) H2 _ s3 (P2.show hl) ((R.step s3).set k ?_) (S2.laid hg)
  unfold Rep
  exact⟨l,vs,rfl,S2.mv hg,.of bw,r.step (Step.laid hg)⟩
noncomputable def bx(N:List Str)(ds:List D):bR:=ds.map some++List.replicate (N.length-ds.length) none
theorem eD.start{α:List (Option Addr)}{G:Hp}{N:List Str}{ds:List D}{vs:List V}(r:aG α G ds vs):eD α G (bx N ds) (L2.start N vs):=by
 have hl:=r.length
 refine⟨by unfold bx L2.start;simp[hl],fun i d e=>?_⟩
 unfold bx at e
 by_cases hi:i<ds.length
 · rw[List.getElem?_append_left (by simpa using hi),List.getElem?_map]at e
   cases q:ds[i]? with
   |none=>rw[q]at e;cases e
   |some x=>
    rw[q]at e
    cases e
    obtain⟨v,ev,rv⟩:=r.get q
    refine⟨v,?_,rv⟩
    unfold L2.start
    rw[List.getElem?_append_left (by rw[List.length_map];omega),List.getElem?_map,ev]
    rfl
 · rw[List.getElem?_append_right (by simpa using hi),List.getElem?_replicate]at e
   split at e<;>cases e
theorem IL{P:Program}{w:World}{K:PySem.W.Frag}{mg:Str→Option Value}{base:Heap}{x qual:Str}{st:Stmt}{f:Addr}{fd:FuncData}{N ps:List Str}{k:Nat}{sp:cW}{t:DS}(F:nh K x qual st f fd)(S:bb N ps (ah st))
 (hbody:∀(cdv:Value) (A:Around) (outer:List Env) (s:Shared) (H:Hp) (E:XK),dj k (A.deeper (envOfC qual (ah st) s.heap.objs.size f cdv))→gL (pf aJ P w K mg base N qual (ah st) f cdv A outer s H E).xr (aU st) (LS t))
 (hsp:∀ds st K,sp ds st K→ds.length=ps.length∧t {nx:=fun _ st'=>K .aH st',rt:=K} (bx N ds) st):ay P w K mg base aJ (k+1) f fd ps (aK sp):=by
 refine F.ok S (fun vs H Q E h=>?_) fun cdv A outer s H vs Q E hr h=>⟨_,hbody cdv A outer s H E hr,?_⟩
 · obtain⟨α,ds,st,K,G,F,P,r,S,q,k⟩:=h
   rw[←r.length]
   exact(hsp ds st K q).1
 · obtain⟨α,ds,st,K,G,F,P,r,S,q,k⟩:=h
   refine⟨α,bx N ds,st,_,G,F,P,eD.start r,S,(hsp ds st K q).2,?_,k,?_,?_⟩
   · intro σd' st' kk α' G' H' σ' s' P' R' S'
     exact k .aH st' kk α' G' H' .aH s' P' S' (by unfold Rep;rfl)
   · intro σd' st' kk
     exact kk.elim
   · intro σd' st' kk
     exact kk.elim
noncomputable def m5(to te:DE):DE:=fun σ st K=>to σ st fun x st1=>match x with
 | .ref n=>(match st1[n]? with
   |some (.lst _)=>te σ st1 fun y st2=>∃y',[y]=[y']∧(match st2[n]? with|some (.lst xs)=>xs.length<sizeLine∧K .aH (st2.set n (.lst (xs++[y'])))|_=>False)
   |_=>False)
 |_=>False
end
end L3
namespace L3
open PySem PySem.Spec L2
open PyProof.Rows hiding St
structure aC(K:PySem.W.Frag)(mg:Str→Option Value)(x qual:Str)(st:Stmt)(ps:List Str)(f:Addr)(fd:FuncData):Prop where
 fn:nh K x qual st f fd
 mg:mg x=some (.ref f)
 bd:Binds K fd ps []
noncomputable def rJ(sc:Scope)(N:List Str)(scope:Scope)(Nc:List Str)(fr:List (Option Nat)):Bool:=
 (scope.kind== .function)&&scope.names.all (fun x=>x.2 != .cell||scope.names.lookup x.1==some .cell)&&scope.names.all (fun x=>x.2 != .local||scope.names.lookup x.1==some .local)&&
 scope.names.all (fun x=>x.2 != .free||sc.names.lookup x.1==some .cell||sc.names.lookup x.1==some .free)&&(fr.length==Nc.length)&&
 (List.range fr.length).all fun i=>match fr[i]?,Nc[i]? with
   |some (some j),some x=>(N[j]?==some x)&&(scope.names.lookup x==some .free)&&(sc.names.lookup x==some .cell||sc.names.lookup x==some .free)
   |_,_=>true
theorem bT.look{X:Cx}{scope:Scope}{Nc:List Str}{fr:List (Option Nat)}(sc:Scope)(N:List Str)(h:rJ sc N scope Nc fr=true)(hsc:X.env.scope=sc:=by rfl)(hN:X.N=N:=by rfl):bT X scope Nc fr:=by
 unfold rJ at h
 simp only[Bool.and_eq_true]at h
 obtain⟨⟨⟨⟨⟨h1,h2⟩,h3⟩,h4⟩,h5⟩,h6⟩:=h
 subst hsc hN
 refine⟨by simpa using h1,fun x hx hk=>?_,fun x hx hk=>?_,fun x hx hk=>?_,by simpa using h5,fun i j x e1 e2=>?_⟩
 · have:=List.all_eq_true.mp h2 x hx
   rw[hk]at this
   simpa using this
 · have:=List.all_eq_true.mp h3 x hx
   rw[hk]at this
   simpa using this
 · have:=List.all_eq_true.mp h4 x hx
   rw[hk]at this
   have z:X.env.scope.names.lookup x.1=some .cell∨X.env.scope.names.lookup x.1=some .free:=by simpa using this
   exact z
 · have hi:i<fr.length:=(List.getElem?_eq_some_iff.mp e2).1
   have:=List.all_eq_true.mp h6 i (List.mem_range.mpr hi)
   rw[e1,e2]at this
   simp only[Bool.and_eq_true,Bool.or_eq_true,beq_iff_eq]at this
   exact⟨this.1.1,this.1.2,this.2⟩
section
variable {X:Cx}
theorem KI{e:Expr}{es:List Expr}{pos p:Pos}{x:Str}{id:String}{r:fE}{t:DA}(hc:bJ X (.builtin id) (gJ r))(ha:PA X (e::es) (LA t))(hm:X.mg x=none)(hv:bootBuiltins x=some (.builtin id))(hg:Gl X x:=by rfl)(hn:x≠"__name__":=by decide)(hdb:(x==("__debug__":Str))=false:=by decide)
 (he:starEach (e::es) X.env=(false,eval e X.env)::starEach es X.env:=by rfl) (hpl:(backTo pos (starEach es X.env)).any (·.1)=false:=by rfl):PE X (.Call (.Name x p) (e::es) [] pos) (LE (cJ r t)):=PE.imp (BB hc hg hm hv ha hn hdb he hpl) fun _ _ _ h=>LE.cb h
theorem KL{e:Expr}{es:List Expr}{pos p:Pos}{x:Str}{T:String}{r:fE}{t:DA}(hc:bJ X (.type T) (gJ r))(ha:PA X (e::es) (LA t))(hm:X.mg x=none)(hv:bootBuiltins x=some (.type T))(hg:Gl X x:=by rfl)(hn:x≠"__name__":=by decide)(hdb:(x==("__debug__":Str))=false:=by decide)
 (he:starEach (e::es) X.env=(false,eval e X.env)::starEach es X.env:=by rfl) (hpl:(backTo pos (starEach es X.env)).any (·.1)=false:=by rfl):PE X (.Call (.Name x p) (e::es) [] pos) (LE (cJ r t)):=PE.imp (zV hc hg hm hv ha hn hdb he hpl) fun _ _ _ h=>LE.cb h
theorem K2{pos:Pos}{x:Str}{T:String}(hm:X.mg x=none)(hv:bootBuiltins x=some (.type T))(hg:Gl X x:=by rfl)(hn:x≠"__name__":=by decide)(hdb:(x==("__debug__":Str))=false:=by decide):PE X (.Name x pos) (LE (dC (.ty T))):=
 pR (v:= .ty T) (EH hg hm hv rfl hn hdb) fun _ _=>by unfold Rep;rfl
theorem KQ{e:Expr}{es:List Expr}{pos p:Pos}{x qual:Str}{st:Stmt}{ps:List Str}{f:Addr}{fd:FuncData}{k:Nat}{S:cW}{t:DA}(A:aC X.K X.mg x qual st ps f fd)(F:ay X.prog X.w X.K X.mg X.base aJ k f fd ps (aK S))(hr:dj k X.A)
 (ha:PA X (e::es) (LA t)) (hg:Gl X x:=by rfl) (hdb:(x==("__debug__":Str))=false:=by decide) (he:starEach (e::es) X.env=(false,eval e X.env)::starEach es X.env:=by rfl) (hpl:(backTo pos (starEach es X.env)).any (·.1)=false:=by rfl):
 PE X (.Call (.Name x p) (e::es) [] pos) (LE (a_ S t)):=Ij F hr hg A.mg A.fn.kp A.bd ha hdb he hpl
theorem w8{M:Model}{A:Around}{E:Value→Shared→Prop}{s:Shared}{Q:Value→Shared→Prop}{x:V}{v:Value}{b:Bool}(r:RelV x v)(h:Q (.bool (v== .bool b)) s):wpAny M A (compareOp .Is v (.bool b)) Q E s:=by
 cases x
 case bl c=>
  cases r
  have e:(Value.bool c==Value.bool b)=(c==b):=by cases c<;>cases b<;>rfl
  rw[e]at h
  exact is_bool h
 all_goals first
  |(cases r;exact wpAny_pure h)
  |(obtain⟨t,rfl⟩:=r;exact wpAny_pure h)
noncomputable def Ih(d:D)(b:Bool):Bool:=match d with| .bl c=>c==b|_=>false
noncomputable def Kj(d:D):Bool:=match d with| .aH=>true|_=>false
noncomputable def C9:dG:=fun x y st K=>match y with| .aH=>live st x=true∧K (.bl (Kj x)) st| .bl b=>live st x=true∧K (.bl (Ih x b)) st|_=>False
theorem E8{α:List (Option Addr)}{H:Hp}{st:ag}{d:D}{v:V}{u:Value}{b:Bool}(S:aV α st H)(hl:live st d=true)(r:Rep α H d v)(ru:RelV v u):(u==Value.bool b)=Ih d b:=by
 cases d
 case ref n=>
  obtain⟨a,rfl⟩:=vL S hl r
  cases ru;rfl
 all_goals unfold Rep at r
 case bl c=>
  subst r
  cases ru
  cases c<;>cases b<;>rfl
 all_goals first
  |(subst r;first|(cases ru;rfl)|(obtain⟨t,rfl⟩:=ru;rfl))
  |(obtain⟨a,vs,rfl,_⟩:=r;cases ru;rfl)
theorem Jr:cc X (compareOp .Is) (LR C9):=fun pins s σ H x y v u Q I rx ry ⟨α,d,e,st,K,G,F',P,r1,r2,S,q,k⟩=>by
 cases e<;>try exact q.elim
 · unfold Rep at r2
   refine Hb pins s σ H x y v u Q I rx ry ⟨r2,k.here P q.2 S ?_⟩
   unfold Rep
   cases d
   case ref n=>
    obtain⟨a,rfl⟩:=vL S q.1 r1
    rfl
   all_goals(unfold Rep at r1;first|(rw[r1];rfl)|(obtain⟨a,vs,rfl,_⟩:=r1;rfl))
 · rename_i b
   unfold Rep at r2
   subst r2
   cases ry
   refine w8 rx ?_
   rw[E8 S q.1 r1 rx]
   exact⟨.bl (Ih d b),H,I,rfl,k.here P q.2 S (by unfold Rep;rfl)⟩
theorem LE.append{to te:DE}{σ:L2.St}{H:Hp}{Q:VK}(h:LE (m5 to te) σ H Q):Kb X.K "list" xt (LE to) (LA (af te ao)) σ H Q:=by
 obtain⟨α,σd,st,K,G,F,P,R,S,t,k⟩:=h
 refine⟨α,σd,st,_,G,F,P,R,S,t,fun x st1 q α1 G1 H1 v s1 P1 S1 r1=>?_⟩
 cases x<;>try exact q.elim
 rename_i n
 simp only at q
 split at q
 · rename_i ys e
   obtain⟨p,ep,vs,h1,h2⟩:=S1.gY e
   have r1':=d8 ep r1
   subst r1'
   refine⟨.inl ⟨rfl,vs,.inl (.of (P1.get h1))⟩,α1,σd,st1,fun ds st2=>∃y,ds=[y]∧(match st2[n]? with|some (.lst xs)=>xs.length<sizeLine∧K .aH (st2.set n (.lst (xs++[y])))|_=>False),G1,F,P1,R.step s1,S1,?_,?_⟩
   · refine Eq.mp ?_ q
     rfl
   · rintro ds st2 ⟨y,rfl,q2⟩ α2 G2 H2 ws s2 P2 S2 r2
     obtain⟨w,rfl,rw'⟩:=iI r2 rfl
     split at q2
     · rename_i xs e2
       obtain⟨p2,ep2,us,g1,g2⟩:=S2.gY e2
       have:p2=p:=by
        rcases s2.pre _ _ ep with z|z<;>(rw[z]at ep2;cases ep2)
        rfl
       subst this
       have hm:some p2∈α2:=List.mem_of_getElem? ep2
       refine⟨p2,us,w,rfl,rfl,P2.get g1,by rw[←g2.length];exact q2.1,?_⟩
       refine((k.at s1).at s2) _ _ q2.2 α2 (upd G2 p2 (.lst (us++[w]))) _ .aH (Step.write hm) (P2.write g1) ?_ (by unfold Rep;rfl)
       exact S2.write ep2 ⟨us++[w],bw,(aR.mpr (eQ (aR.mp g2) (.cons rw' .nil))).step (Step.write hm)⟩
     · exact q2.elim
 · exact q.elim
theorem B6{o e:Expr}{to te:DE}{apos cpos:Pos}(ho:PE X o (LE to))(he:PE X e (LE te))(hbase:attributeBase o "append" X.env (eval o X.env)=eval o X.env:=by rfl)
 (hfew:((backTo cpos (starEach [e] X.env)).all (fun x=> !x.1)&&(backToKw cpos (keywordEach [] X.env)).all (fun x=>x.1.isSome)
   &&decide (([e]:List Expr).length+([]:List Keyword).length+(if([]:List Keyword).isEmpty then 0 else 1)<30))=true:=by rfl)
 (hline:(apos.endLine==cpos.line)=true:=by rfl) (hs:starEach [e] X.env=(false,eval e X.env)::starEach [] X.env:=by rfl) (hplain:(backTo cpos (starEach [] X.env)).any (·.1)=false:=by rfl):PE X (.Call (.Attribute o "append" apos) [e] [] cpos) (LE (m5 to te)):=
 PE.imp (Jc PySem.F.plainAttrs_list PySem.F.slot_list_append PySem.F.type_list_append tP ho (xk he Bf hs) hbase hfew hline hs hplain) fun _ _ _ h=>LE.append h
end
end L3
namespace L3
open PySem L2
open PySem.Spec hiding items?
open PyProof.Rows hiding St
section
variable {X:Cx}
@[irreducible] noncomputable def cC:dG:=DB
theorem dc:cc X (binaryOp .Add) (LR cC):=by unfold cC;exact JL
@[irreducible] noncomputable def dD:dG:=C0
theorem dR:cc X (binaryOp .Sub) (LR dD):=by unfold dD;exact Jj
@[irreducible] noncomputable def bO:dG:=C4
theorem cy:cc X (binaryOp .Mult) (LR bO):=by unfold bO;exact Jy
@[irreducible] noncomputable def iF:dG:=zE
theorem lL:cc X (binaryOp .FloorDiv) (LR iF):=by unfold iF;exact Ig
@[irreducible] noncomputable def iQ:dG:=Du
theorem lZ:cc X (binaryOp .Mod) (LR iQ):=by unfold iQ;exact I0
@[irreducible] noncomputable def qr:dG:=CO
theorem yE:cc X (binaryOp .Pow) (LR qr):=by unfold qr;exact Ja
@[irreducible] noncomputable def pe:dG:=FK
theorem yT:cc X (compareOp .Lt) (LR pe):=by unfold pe;exact Li
@[irreducible] noncomputable def rk:dG:=HG
theorem Ik:cc X (compareOp .Gt) (LR rk):=by unfold rk;exact K0
@[irreducible] noncomputable def rR:dG:=FW
theorem GW:cc X (compareOp .GtE) (LR rR):=by unfold rR;exact Lj
@[irreducible] noncomputable def tY:dG:=HW
theorem Bs:cc X (compareOp .NotEq) (LR tY):=by unfold tY;exact Ln
@[irreducible] noncomputable def xC:dG:=C9
theorem Hm:cc X (compareOp .Is) (LR xC):=by unfold xC;exact Jr
@[irreducible] noncomputable def jr:dG:=FP
theorem kD{k:Nat}(hr:dj k X.A):cc X (compareOp .Eq) (LR jr):=by unfold jr;exact K3 hr
@[irreducible] noncomputable def jB:vW:=CM
theorem Je:ya X (unaryOp .USub) (Dv jB):=by unfold jB;exact JD
@[irreducible] noncomputable def bU:dG:=nA
theorem KO{a b:Expr}{ta tb:DE}{pos:Pos}(ha:PE X a (LE ta))(hb:PE X b (LE tb))(hs:pM b:=by intro _ _;rfl):PE X (.Subscript a b pos) (LE (ak bU ta tb)):=by unfold bU;exact KZ ha hb hs
@[irreducible] noncomputable def gI:fE:=uJ
theorem gP:bJ X (.builtin "len") (gJ gI):=by unfold gI;exact IK
@[irreducible] noncomputable def qS:fE:=zm
theorem yf:bJ X (.builtin "abs") (gJ qS):=by unfold qS;exact IE
@[irreducible] noncomputable def tf:fE:=yv
theorem CY(hc:X.calm=true):bJ X (.builtin "max") (gJ tf):=by unfold tf;exact Jo hc
@[irreducible] noncomputable def sJ:fE:=zl
theorem Dq:bJ X (.type "int") (gJ sJ):=by unfold sJ;exact IQ
@[irreducible] noncomputable def eV:fE:=pq
theorem fu:bJ X (.type "tuple") (gJ eV):=by unfold eV;exact Ep
@[irreducible] noncomputable def kO:fE:=qV
theorem o9:bJ X (.type "list") (gJ kO):=by unfold kO;exact Hr
@[irreducible] noncomputable def ph:fE:=pk
theorem EM:bJ X (.type "list") (gJ ph):=by unfold ph;exact Ec
@[irreducible] noncomputable def vQ:fE:=uK
theorem IA(hc:X.calm=true):bJ X (.builtin "all") (gJ vQ):=by unfold vQ;exact Jw hc
@[irreducible] noncomputable def nN:fE:=uD
theorem rZ:bJ X (.builtin "isinstance") (gJ nN):=by unfold nN;exact IZ
@[irreducible] noncomputable def mG:D→ag→(List D→(ag→Prop)→ag→Prop)→Prop:=sQ
noncomputable def gU(t:DE):DI:=fun σ st K=>t σ st fun d st1=>mG d st1 K
theorem HA{l tg:Expr}{tl:DE}(hl:PE X l (LE tl)):PI X tg l (LI (gU tl)):=by unfold gU mG;exact Ga hl
@[irreducible] noncomputable def uo:List D→ag→(List D→(ag→Prop)→ag→Prop)→Prop:=CV
@[irreducible] noncomputable def uO:List D→ag→(List D→(ag→Prop)→ag→Prop)→Prop:=Dt
noncomputable def cP(t:DA):DI:=fun σ st K=>t σ st fun ds st1=>uo ds st1 K
noncomputable def nj(t:DA):DI:=fun σ st K=>t σ st fun ds st1=>uO ds st1 K
theorem Bd{tg iter:Expr}{t:DA}(h:PI X tg iter (y6 (LA t))):PI X tg iter (LI (cP t)):=by unfold cP uo;exact Aa h
theorem zM{tg iter:Expr}{t:DA}(h:PI X tg iter (yL (LA t))):PI X tg iter (LI (nj t)):=by unfold nj uO;exact zL h
@[irreducible] noncomputable def yj:D→D→D→ag→(ag→Prop)→Prop:=qA
noncomputable def g9(to ti te:DE):DS:=fun D σ st=>te σ st fun d st1=>to σ st1 fun x st2=>ti σ st2 fun y st3=>yj x y d st3 fun st4=>D.nx σ st4
theorem Ct{st:Stmt}{to ti te:DE}(h:PS X st (mN (LE te) (yY (LE to) (LE ti) uB))):PS X st (LS (g9 to ti te)):=by unfold g9 yj;exact B8 h
end
section
variable {st:ag}{K:DK}{i j:Int}{b c:Bool}{xs ys:List D}{d e:D}{n:Nat}
theorem cM(k:K (.int (i+j)) st):cC (.int i) (.int j) st K:=by unfold cC;exact k
theorem xp(h:xs.length+ys.length≤sizeLine)(k:K (.lst (xs++ys)) st):cC (.lst xs) (.lst ys) st K:=by unfold cC;exact⟨h,k⟩
theorem cS(k:K (.int (i-j)) st):dD (.int i) (.int j) st K:=by unfold dD;exact⟨trivial,k⟩
theorem bY(h:IntMulOk i j)(k:K (.int (i*j)) st):bO (.int i) (.int j) st K:=by unfold bO;exact⟨h,k⟩
theorem DX(h: -(2^63)≤i∧i<2^63∧xs.length*i.toNat≤sizeLine)(k:K (.lst (List.replicate i.toNat xs).flatten) st):bO (.lst xs) (.int i) st K:=by unfold bO;exact⟨h,k⟩
theorem j4(h0:j≠0)(h:j.natAbs.log2<9000)(k:K (.int (i.fdiv j)) st):iF (.int i) (.int j) st K:=by unfold iF;exact⟨⟨h0,h⟩,k⟩
theorem km(h0:j≠0)(k:K (.int (i.fmod j)) st):iQ (.int i) (.int j) st K:=by unfold iQ;exact⟨h0,k⟩
theorem uS(h:Ci i j)(k:K (.int (i^j.toNat)) st):qr (.int i) (.int j) st K:=by unfold qr;exact⟨h,k⟩
theorem yq(k:K (.bl (decide (i<j))) st):pe (.int i) (.int j) st K:=by unfold pe;exact⟨trivial,k⟩
theorem Dk(k:K (.bl (decide (j<i))) st):rk (.int i) (.int j) st K:=by unfold rk;exact⟨trivial,k⟩
theorem Dw(k:K (.bl (decide (j≤i))) st):rR (.int i) (.int j) st K:=by unfold rR;exact⟨trivial,k⟩
theorem JH(k:K (.bl (!decide (i=j))) st):tY (.int i) (.int j) st K:=by unfold tY;exact k
theorem uY(h:live st d=true)(k:K (.bl (Kj d)) st):xC d .aH st K:=by unfold xC;exact⟨h,k⟩
theorem IB(h1:pl 40 d=true)(h2:pl 40 e=true)(k:K (.bl (cT d e)) st):jr d e st K:=by unfold jr;exact⟨h1,h2,k⟩
theorem EG(a b:Int):(a==b)=decide (a=b):=by
 by_cases h:a=b
 · subst h;simp
 · simp[h]
theorem AQ(k:K (.bl (decide (i=j))) st):jr (.int i) (.int j) st K:=by
 refine IB rfl rfl ?_
 have:cT (.int i) (.int j)=decide (i=j):=by unfold cT;exact EG i j
 rw[this];exact k
theorem jv(k:K (.int (-i)) st):jB (.int i) st K:=by unfold jB;exact k
theorem B9(h:items? st d=some xs)(a:eW xs i=some e)(k:K e st):nA d (.int i) st K:=by
 cases d<;>unfold items? at h<;>first
  |(cases h;done)
  |(cases h;simp only[nA,a];exact k)
  |(simp only at h
    split at h
    · rename_i q
      cases h
      simp only[nA,q,a]
      exact k
    · cases h)
theorem aZ(h:items? st d=some xs)(a:eW xs i=some e)(k:K e st):bU d (.int i) st K:=by unfold bU;exact B9 h a k
theorem fX(h:items? st d=some xs)(k:K (.int xs.length) st):gI [d] st K:=by
 unfold gI uJ
 split
 · rename_i z;cases z;cases h
 · rename_i z;cases z;rw[h];exact k
 · rename_i z1 z2;exact absurd rfl (z2 d)
theorem DF(i:Int):(if i<0 then-i else i)=((i.natAbs:Nat):Int):=by split<;>omega
theorem vc(k:K (.int ((i.natAbs:Nat):Int)) st):qS [.int i] st K:=by unfold qS;show K (.int (if i<0 then-i else i)) st;rw[DF];exact k
theorem zJ(k:K (.int (if j>i then j else i)) st):tf [.int i,.int j] st K:=by unfold tf;exact k
theorem pA(k:K (.int (if b then 1 else 0)) st):sJ [.bl b] st K:=by unfold sJ;exact k
theorem eK(h:items? st d=some xs)(k:K (.tup xs) st):eV [d] st K:=by unfold eV pq;simp only[h];exact k
theorem m7(h:items? st d=some xs)(k:K (.lst xs) st):kO [d] st K:=by unfold kO qV;simp only[h];exact k
theorem BV(h:items? st d=some xs)(k:K (.ref st.length) (st++[.lst xs])):ph [d] st K:=by unfold ph pk;simp only[h];exact k
theorem Hc{bs:List Bool}(h:jA xs=some bs)(k:K (.bl (bs.all id)) st):vQ [.lst xs] st K:=by unfold vQ uK;simp only[h];exact k
theorem oB{t c:String}(h:iG st d=some t)(hc:c∈ll)(k:K (.bl (qC t c)) st):nN [d,.ty c] st K:=by unfold nN uD;simp only[h];exact⟨hc,k⟩
theorem vZ{K:List D→(ag→Prop)→ag→Prop}(h:items? st d=some xs)(k:∀ok:ag→Prop,ok st→K xs ok st):mG d st K:=by
 unfold mG sQ
 cases d<;>unfold items? at h<;>first
  |(cases h;done)
  |(cases h;exact k _ trivial)
  |(simp only at h
    split at h
    · rename_i q
      cases h
      simp only[q]
      exact k _ q
    · cases h)
theorem ED{K:List D→(ag→Prop)→ag→Prop}(k:K xs (fun _=>True) st):mG (.lst xs) st K:=by unfold mG;exact k
theorem iJ{K:List D→(ag→Prop)→ag→Prop}(k:K xs (fun _=>True) st):mG (.tup xs) st K:=by unfold mG;exact k
theorem eP{K:List D→(ag→Prop)→ag→Prop}(h: -(2^62)≤j∧j<2^62)(k:K (dN 0 j.toNat) (fun _=>True) st):uo [.int j] st K:=by unfold uo;exact⟨h,k⟩
theorem x8{K:List D→(ag→Prop)→ag→Prop}(h: -(2^62)≤i∧i<2^62∧ -(2^62)≤j∧j<2^62)(k:K (dN i (j-i).toNat) (fun _=>True) st):uO [.int i,.int j] st K:=by unfold uO;exact⟨h,k⟩
theorem jK{K:ag→Prop}{m:Nat}(h:st[n]?=some (.lst xs))(e:jP xs.length i=some m)(k:K (st.set n (.lst (xs.set m d)))):yj (.ref n) (.int i) d st K:=by unfold yj qA;simp only[h,e];exact k
end
end L3
namespace L3
open PySem L2
open PySem.Spec hiding items?
open PyProof.Rows hiding St
noncomputable def vS(K:PySem.W.Frag):Bool:=K.all fun p=>p.2.cls != .type "list"
theorem qo{a:Addr}{o:Obj}:∀ {l:List (Addr×Obj)},l.lookup a=some o→(a,o)∈l
 | [],h=>by cases h
 |(b,u)::r,h=>by
  rw[List.lookup_cons]at h
  split at h
  · rename_i z
    cases h
    have:a=b:=by simpa using z
    subst this
    exact List.mem_cons_self
  · exact List.mem_cons_of_mem _ (qo h)
theorem t9{K:PySem.W.Frag}(h:vS K=true){a:Addr}{o:Obj}(e:K.lookup a=some o):o.cls≠ .type "list":=by
 have:=List.all_eq_true.mp h (a,o) (qo e)
 simpa using this
theorem tS{α:List (Option Addr)}{G:Hp}:∀ns:List Int,aG α G (ns.map D.int) (ns.map V.int)
 | []=>by unfold aG;rfl
 |n::ns=>by
  rw[List.map_cons,List.map_cons]
  unfold aG
  exact⟨_,_,rfl,by unfold Rep;rfl,tS ns⟩
end L3
namespace L3
open PySem L2
open PySem.Spec hiding items?
open PyProof.Rows hiding St
noncomputable def notStar:Expr→Bool
 | .Starred .. =>false
 |_=>true
theorem cB{e:Expr}{es:List Expr}{env:Env}(h:notStar e=true):starEach (e::es) env=(false,eval e env)::starEach es env:=by
 cases e<;>first|rfl|cases h
noncomputable def gd:List Expr→Bool
 | []=>true
 |e::es=>notStar e&&gd es
theorem je{pos:Pos}{env:Env}:∀ {es:List Expr},gd es=true→(backTo pos (starEach es env)).any (·.1)=false
 | [],_=>rfl
 |e::es,h=>by
  unfold gd at h
  rw[Bool.and_eq_true]at h
  rw[cB h.1]
  have ih:=je (pos:=pos) (env:=env) h.2
  unfold backTo at ih⊢
  rw[List.map_cons,List.any_cons,ih]
  rfl
noncomputable def lX:Expr→Bool
 | .Slice .. =>false
 |_=>true
noncomputable def oZ:Expr→Bool
 | .Name .. =>true
 | .Call .. =>true
 | .Subscript .. =>true
 | .Attribute .. =>true
 |_=>false
noncomputable def jT:Expr→Bool
 | .ListComp .. =>false
 | .SetComp .. =>false
 | .DictComp .. =>false
 |_=>true
section
variable {X:Cx}
theorem BQ{b:Expr}(h:lX b=true):pM b:=by
 intro o i
 cases b<;>first|rfl|cases h
theorem yu{e:Expr}(h:oZ e=true):∀whole,isTrue e X.env whole=(do let v ←whole;standAt e.pos;holding [v] (truthy v)):=by
 intro whole
 cases e<;>first|(cases h;done)|rfl
theorem sE{e:Expr}{tg:Option Expr}{n:Nat}{env:Env}(h:jT e=true):swapsWith e tg n env=pure false:=by
 cases e<;>first|(cases h;done)|rfl
theorem B_{e:Expr}{es:List Expr}{te:DE}{tr:DA}(ha:PE X e (LE te))(hr:PA X es (LA tr))(hs:notStar e=true:=by rfl):PA X (e::es) (LA (af te tr)):=xk ha hr (cB hs)
theorem JX{e:Expr}{es:List Expr}{pos p:Pos}{x:Str}{id:String}{r:fE}{t:DA}(hc:bJ X (.builtin id) (gJ r))(ha:PA X (e::es) (LA t))(hm:X.mg x=none)(hv:bootBuiltins x=some (.builtin id))(hn:x≠"__name__")(hdb:(x==("__debug__":Str))=false)(hg:Gl X x:=by rfl)(hs:notStar e=true:=by rfl)(hs2:gd es=true:=by rfl):
 PE X (.Call (.Name x p) (e::es) [] pos) (LE (cJ r t)):=KI hc ha hm hv hg hn hdb (cB hs) (je hs2)
theorem IG{e:Expr}{es:List Expr}{pos p:Pos}{x:Str}{T:String}{r:fE}{t:DA}(hc:bJ X (.type T) (gJ r))(ha:PA X (e::es) (LA t))(hm:X.mg x=none)(hv:bootBuiltins x=some (.type T))(hn:x≠"__name__")(hdb:(x==("__debug__":Str))=false)(hg:Gl X x:=by rfl)(hs:notStar e=true:=by rfl)(hs2:gd es=true:=by rfl):
 PE X (.Call (.Name x p) (e::es) [] pos) (LE (cJ r t)):=KL hc ha hm hv hg hn hdb (cB hs) (je hs2)
theorem J4{e:Expr}{es:List Expr}{pos p:Pos}{x qual:Str}{st:Stmt}{ps:List Str}{f:Addr}{fd:FuncData}{k:Nat}{S:cW}{t:DA}(A:aC X.K X.mg x qual st ps f fd)(F:ay X.prog X.w X.K X.mg X.base aJ k f fd ps (aK S))(hr:dj k X.A)
 (ha:PA X (e::es) (LA t)) (hdb:(x==("__debug__":Str))=false) (hg:Gl X x:=by rfl) (hs:notStar e=true:=by rfl) (hs2:gd es=true:=by rfl):
 PE X (.Call (.Name x p) (e::es) [] pos) (LE (a_ S t)):=KQ A F hr ha hg hdb (cB hs) (je hs2)
theorem JF{a b:Expr}{ta tb:DE}{pos:Pos}(ha:PE X a (LE ta))(hb:PE X b (LE tb))(hs:lX b=true:=by rfl):PE X (.Subscript a b pos) (LE (ak bU ta tb)):=KO ha hb (BQ hs)
theorem Fj{e:Expr}{te:DE}(he:PE X e (LE te))(h:oZ e=true:=by rfl):PT X e (LT (bL te)):=FU he (yu h)
theorem Cb{e:Expr}{te:DE}{pos:Pos}(he:PE X e (LE te))(h:jT e=true:=by rfl):PS X (.Expr e pos) (LS (gj te)):=Fd he (sE h)
theorem EY{i:Nat}{x:Str}{e:Expr}{te:TE}{pos pos':Pos}(hN:X.N.Nodup)(hi:X.N[i]?=some x)(hx:Loc X.env.scope x)(he:PE X e te)(hf:X.fn x=true∨X.env.scope.names.lookup x=some .local:=by first|exact .inl rfl|exact .inr rfl)(h:jT e=true:=by rfl):
 PS X (.Assign [.Name x pos'] e pos) (mN te (i9 i)):=AX hN hi hx he (sE h) hf
theorem Ez{i:Nat}{x:Str}{pos:Pos}(hd:(x==("__debug__":Str))=false)(hcd:(x==("__classdict__":Str))=false)(hv:vV X.env.scope x)(hN:X.N[i]?=some x:=by rfl):PE X (.Name x pos) (LE (aa i)):=IX (FL hN hv hd hcd)
theorem Fs{o i e:Expr}{to ti te:TE}{pos pos':Pos}(he:PE X e te)(ho:PE X o to)(hi:PE X i ti)(h1:jT e=true:=by rfl)(h2:lX i=true:=by rfl):PS X (.Assign [.Subscript o i pos'] e pos) (mN te (yY to ti uB)):=
 As he (Ie ho hi set_list (by intro v;cases i<;>first|rfl|cases h2)) (by unfold swapsWithSole;exact sE h1) (by cases e<;>rfl) rfl
end
end L3
namespace L3
open PySem L2
open PySem.Spec hiding items?
open PyProof.Rows hiding St
@[irreducible] noncomputable def JE(X:Cx)(e:Expr)(t:DE):Prop:=PE X e (LE t)
@[irreducible] noncomputable def JT(X:Cx)(e:Expr)(t:DT):Prop:=PT X e (LT t)
@[irreducible] noncomputable def JW(X:Cx)(e:Expr)(t:DT):Prop:=PW X e (LT t)
@[irreducible] noncomputable def JA(X:Cx)(es:List Expr)(t:DA):Prop:=PA X es (LA t)
@[irreducible] noncomputable def JS(X:Cx)(s:Stmt)(t:DS):Prop:=PS X s (LS t)
@[irreducible] noncomputable def JB(X:Cx)(s:List Stmt)(t:DS):Prop:=gL X s (LS t)
@[irreducible] noncomputable def JG(X:Cx)(e:Expr)(t:fN):Prop:=PG X e (LG t)
@[irreducible] noncomputable def JI(X:Cx)(tg e:Expr)(t:DI):Prop:=PI X tg e (LI t)
@[irreducible] noncomputable def JC(X:Cx)(es:List Expr)(t:DT):Prop:=rh X es (LT t)
section
variable {X:Cx}{a b c e o i:Expr}{es:List Expr}{ta tb tc te to ti:DE}{t u:DT}{ar:DA}{pos p pos':Pos}{s:Stmt}{ss:List Stmt}{T U:DS}
theorem zQ{n:Nat}{x:Str}(hd:(x==("__debug__":Str))=false)(hcd:(x==("__classdict__":Str))=false)(hv:vV X.env.scope x)(hN:X.N[n]?=some x:=by rfl):JE X (.Name x pos) (aa n):=by unfold JE;exact Ez hd hcd hv hN
theorem vw{x:Str}{T:String}(hm:X.mg x=none)(hv:bootBuiltins x=some (.type T))(hn:x≠"__name__")(hdb:(x==("__debug__":Str))=false)(hg:Gl X x):JE X (.Name x pos) (dC (.ty T)):=by unfold JE;exact K2 hm hv hg hn hdb
theorem aw{k:Int}{j:Nat}:JE X (.Constant (.int k) j pos) (dC (.int k)):=by unfold JE;exact Jd
theorem jF{k:Bool}{j:Nat}:JE X (.Constant (.bool k) j pos) (dC (.bl k)):=by unfold JE;exact KW
theorem zh{j:Nat}:JE X (.Constant .none j pos) (dC .aH):=by unfold JE;exact Jf
theorem aB{op:Operator}{r:dG}(ho:cc X (binaryOp op) (LR r))(ha:JE X a ta)(hb:JE X b tb):JE X (.BinOp a op b pos) (ak r ta tb):=by unfold JE at*;exact Lb ho ha hb
theorem kG(ha:JE X a ta):JE X (.UnaryOp .USub a pos) (nS jB ta):=by unfold JE at*;exact Lo Je ha
theorem Jt(ha:JE X a ta):JE X (.UnaryOp .Not a pos) (ze (bL ta)):=by unfold JE at*;exact Jl ha
theorem J8{op:BoolOp}(ha:JE X a ta):JE X (.BoolOp op [a] pos) ta:=by unfold JE at*;exact Iy ha
theorem JJ(ha:JE X a ta)(hb:JE X (.BoolOp .And (b::es) pos) tb):JE X (.BoolOp .And (a::b::es) pos) (ym ta tb):=by unfold JE at*;exact IU ha hb
theorem yZ{op:CmpOp}{r:dG}(ho:cc X (compareOp op) (LR r))(hm:behindInMarks op b=false)(ha:JE X a ta)(hb:JE X b tb):JE X (.Compare a [op] [b] pos) (ak r ta tb):=by unfold JE at*;exact Jm ho ha hb hm
theorem yl(hc:JT X c t)(ha:JE X a ta)(hb:JE X b tb):JE X (.IfExp c a b pos) (zP t ta tb):=by unfold JE at*;unfold JT at hc;exact Jp hc ha hb
theorem Dz{n:Nat}(h:JA X es ar):JE X (.Tuple es n pos) (yw ar):=by unfold JE;unfold JA at h;exact Jn h
theorem mF(h:JA X es ar):JE X (.List es pos) (kC ar):=by unfold JE;unfold JA at h;exact IC h
theorem l_(h:JA X es ar):JE X (.List es pos) (lT ar):=by unfold JE;unfold JA at h;exact JN h
theorem aj:JA X [] ao:=by unfold JA;exact Bf
theorem ab(ha:JE X e te)(hr:JA X es ar)(hs:notStar e=true:=by rfl):JA X (e::es) (af te ar):=by unfold JA at*;unfold JE at ha;exact B_ ha hr hs
theorem bG(ha:JE X a ta)(hb:JE X b tb)(hs:lX b=true:=by rfl):JE X (.Subscript a b pos) (ak bU ta tb):=by unfold JE at*;exact JF ha hb hs
theorem eS{x:Str}{id:String}{r:fE}(hc:bJ X (.builtin id) (gJ r))(ha:JA X (e::es) ar)(hm:X.mg x=none)(hv:bootBuiltins x=some (.builtin id))(hn:x≠"__name__")(hdb:(x==("__debug__":Str))=false)(hg:Gl X x)(hs:notStar e=true:=by rfl)(hs2:gd es=true:=by rfl):JE X (.Call (.Name x p) (e::es) [] pos) (cJ r ar):=by
 unfold JE;unfold JA at ha;exact JX hc ha hm hv hn hdb hg hs hs2
theorem f_{x:Str}{T:String}{r:fE}(hc:bJ X (.type T) (gJ r))(ha:JA X (e::es) ar)(hm:X.mg x=none)(hv:bootBuiltins x=some (.type T))(hn:x≠"__name__")(hdb:(x==("__debug__":Str))=false)(hg:Gl X x)(hs:notStar e=true:=by rfl)(hs2:gd es=true:=by rfl):JE X (.Call (.Name x p) (e::es) [] pos) (cJ r ar):=by
 unfold JE;unfold JA at ha;exact IG hc ha hm hv hn hdb hg hs hs2
theorem cn{x qual:Str}{st:Stmt}{ps:List Str}{f:Addr}{fd:FuncData}{k:Nat}{S:cW}(A:aC X.K X.mg x qual st ps f fd)(F:ay X.prog X.w X.K X.mg X.base aJ k f fd ps (aK S))(hr:dj k X.A)(ha:JA X (e::es) ar)(hdb:(x==("__debug__":Str))=false)(hg:Gl X x)(hs:notStar e=true:=by rfl)(hs2:gd es=true:=by rfl):
 JE X (.Call (.Name x p) (e::es) [] pos) (a_ S ar):=by unfold JE;unfold JA at ha;exact J4 A F hr ha hdb hg hs hs2
theorem Cn{apos cpos:Pos}(ho:JE X o to)(he:JE X e te)(hbase:attributeBase o "append" X.env (eval o X.env)=eval o X.env:=by rfl)(hline:(apos.endLine==cpos.line)=true:=by rfl)(hs:notStar e=true:=by rfl):JE X (.Call (.Attribute o "append" apos) [e] [] cpos) (m5 to te):=by
 unfold JE at*
 refine B6 ho he hbase ?_ hline (cB hs) rfl
 rw[cB hs]
 rfl
theorem cY{op:CmpOp}{r:dG}(ho:cc X (compareOp op) (LR r))(hm:behindInMarks op b=false)(ha:JE X a ta)(hb:JE X b tb):JT X (.Compare a [op] [b] pos) (bL (ak r ta tb)):=by unfold JE at*;unfold JT;exact Gu ho ha hb hm
theorem jN(ha:JT X a t):JT X (.UnaryOp .Not a pos) (jz t):=by unfold JT at*;exact GX ha
theorem iY(he:JE X e te)(h:oZ e=true:=by rfl):JT X e (bL te):=by unfold JT;unfold JE at he;exact Fj he h
theorem Fc(ha:JT X a t):JW X (.BoolOp .And [a] pos) t:=by unfold JW;unfold JT at ha;exact DJ ha
theorem m8(ha:JT X a t):JW X (.BoolOp .Or [a] pos) t:=by unfold JW;unfold JT at ha;exact Hq ha
theorem HU(ha:JT X a t)(hb:JW X (.BoolOp .And (b::es) pos) u):JW X (.BoolOp .And (a::b::es) pos) (uA t u):=by unfold JW at*;unfold JT at ha;exact Gb ha hb
theorem nJ(ha:JT X a t)(hb:JW X (.BoolOp .Or (b::es) pos) u):JW X (.BoolOp .Or (a::b::es) pos) (mJ t u):=by unfold JW at*;unfold JT at ha;exact Iq ha hb
theorem nr(h:JW X e t):JT X e t:=by unfold JT;unfold JW at h;exact PW.pt h
theorem i_{l tg:Expr}(hl:JE X l ta):JI X tg l (gU ta):=by unfold JI;unfold JE at hl;exact HA hl
theorem dO{tg:Expr}(hg:Gl X "range")(hm:X.mg "range"=none)(ha:JA X [a] ar)(hs:notStar a=true:=by rfl):JI X tg (.Call (.Name "range" p) [a] [] pos) (cP ar):=by unfold JI;unfold JA at ha;exact Bd (AF hg hm ha (cB hs))
theorem vD{tg:Expr}(hg:Gl X "range")(hm:X.mg "range"=none)(ha:JA X [a,b] ar)(hs:notStar a=true:=by rfl)(hs2:notStar b=true:=by rfl):JI X tg (.Call (.Name "range" p) [a,b] [] pos) (nj ar):=by unfold JI;unfold JA at ha;exact zM (A6 hg hm ha (by rw[cB hs,cB hs2];rfl) (cB hs2))
theorem d4{k:Nat}{x:Str}(hN:X.N.Nodup)(hx:Loc X.env.scope x)(hf:X.fn x=true∨X.env.scope.names.lookup x=some .local)(hi:X.N[k]?=some x:=by rfl):JG X (.Name x pos) (bB k):=by unfold JG;exact Em (kZ hN hi hx hf)
theorem nO{k j n:Nat}{x y:Str}{px py:Pos}(hc:X.calm=true)(hN:X.N.Nodup)(hx:Loc X.env.scope x)(hf:X.fn x=true∨X.env.scope.names.lookup x=some .local)(hy:Loc X.env.scope y)(hg:X.fn y=true∨X.env.scope.names.lookup y=some .local)(hi:X.N[k]?=some x:=by rfl)(hj:X.N[j]?=some y:=by rfl):
 JG X (.Tuple [.Name x px,.Name y py] n pos) (ja k j):=by unfold JG;exact Hn (zB hc (lx (kZ hN hi hx hf) (lx (kZ hN hj hy hg) x6)))
theorem cU:JC X [] cQ:=by unfold JC;exact Ce
theorem fj{scope:Scope}{Nc:List Str}{elt tg iter:Expr}{ifs:List Expr}{src:DI}{fr:List (Option Nat)}{dtg:fN}(S:bT X scope Nc fr)(hi:JI X tg iter src)(hg:∀C s H ex,JG (fV X scope Nc C s H ex) tg dtg)(ht:∀C s H ex,JC (fV X scope Nc C s H ex) ifs t)(he:∀C s H ex,JE (fV X scope Nc C s H ex) elt te)(fit:rq fr dtg)
 (hx:X.xe=fun _ _=>False:=by rfl) (hc:X.calm=true:=by rfl) (hs:∀x,foldedSetIterable iter X.env x=pure x:=by intro _;rfl):JE X (.ListComp elt [⟨tg,iter,ifs,0⟩] scope pos) (eM src fr dtg t te):=by
 unfold JE JI JG JC at*;exact GF S hi hg ht he fit hx hc hs
theorem sY{scope:Scope}{Nc:List Str}{elt tg iter:Expr}{ifs:List Expr}{src:DI}{fr:List (Option Nat)}{dtg:fN}(S:bT X scope Nc fr)(hi:JI X tg iter src)(hg:∀C s H ex,JG (fV X scope Nc C s H ex) tg dtg)(ht:∀C s H ex,JC (fV X scope Nc C s H ex) ifs t)(he:∀C s H ex,JE (fV X scope Nc C s H ex) elt te)(fit:rq fr dtg)
 (hx:X.xe=fun _ _=>False:=by rfl) (hc:X.calm=true:=by rfl) (hs:∀x,foldedSetIterable iter X.env x=pure x:=by intro _;rfl):JE X (.ListComp elt [⟨tg,iter,ifs,0⟩] scope pos) (pd src fr dtg t te):=by
 unfold JE JI JG JC at*;exact Fm S hi hg ht he fit hx hc hs
theorem dM:JB X [] d9:=by unfold JB;exact DP
theorem aA(h:JS X s T):JB X [s] T:=by unfold JB;unfold JS at h;exact Ex h
theorem aq(h:JS X s T)(h2:JB X ss U):JB X (s::ss) (aD T U):=by unfold JB at*;unfold JS at h;exact Bq h h2
theorem wI:JS X (.Continue pos) zu:=by unfold JS;exact w6
theorem bf(h:JE X e te):JS X (.Return (some e) pos) (bX te):=by unfold JS;unfold JE at h;exact Gv h
theorem EN:JS X (.Return none pos) zd:=by unfold JS;exact Fo
theorem fJ(h:JE X e te)(hc:jT e=true:=by rfl):JS X (.Expr e pos) (gj te):=by unfold JS;unfold JE at h;exact Cb h hc
theorem eO{x y:List Stmt}(hc:JT X c t)(ha:JB X x T)(hb:JB X y U):JS X (.If c x y pos) (fw t T U):=by unfold JS;unfold JB at*;unfold JT at hc;exact IV hc ha hb
theorem BC{x:List Stmt}(hc:JT X c t)(hb:JB X x T)(hx:X.xe=fun _ _=>False:=by rfl):JS X (.While c x [] pos) (vO t T):=by unfold JS;unfold JB at hb;unfold JT at hc;exact B4 (Bm (by rw[hx];exact PassesOwn.never) hc hb)
theorem fA{tg iter:Expr}{x:List Stmt}{src:DI}{dtg:fN}(hi:JI X tg iter src)(hg:JG X tg dtg)(hb:JB X x T)(hx:X.xe=fun _ _=>False:=by rfl)(hc:X.calm=true:=by rfl)(hs:∀x,foldedSetIterable iter X.env x=pure x:=by intro _;rfl):JS X (.For tg iter x [] pos) (gc src dtg T):=by
 unfold JS;unfold JI at hi;unfold JG at hg;unfold JB at hb;exact GU (HD (by rw[hx];exact PassesOwn.never) hc hi hg hb hs)
theorem aY{k:Nat}{x:Str}(hN:X.N.Nodup)(hx:Loc X.env.scope x)(he:JE X e te)(hf:X.fn x=true∨X.env.scope.names.lookup x=some .local:=by first|exact .inl rfl|exact .inr rfl)(h:jT e=true:=by rfl)(hi:X.N[k]?=some x:=by rfl):JS X (.Assign [.Name x pos'] e pos) (bg k te):=by
 unfold JS;unfold JE at he;exact Bc (EY hN hi hx he hf h)
theorem xU{scope:Scope}{Nc:List Str}{elt tg iter:Expr}{ifs:List Expr}{src:DI}{fr:List (Option Nat)}{dtg:fN}{k:Nat}{x:Str}(hN:X.N.Nodup)(hl:Loc X.env.scope x)(S:bT X scope Nc fr)(hi:JI X tg iter src)(hg:∀C s H ex,JG (fV X scope Nc C s H ex) tg dtg)(ht:∀C s H ex,JC (fV X scope Nc C s H ex) ifs t)(he:∀C s H ex,JE (fV X scope Nc C s H ex) elt te)(fit:rq fr dtg)
 (hf:X.fn x=true∨X.env.scope.names.lookup x=some .local:=by first|exact .inl rfl|exact .inr rfl) (hsw:swapsWith (.ListComp elt [⟨tg,iter,ifs,0⟩] scope p) (some (.Name x pos')) pos.line X.env=pure true:=by rfl) (hni:X.N[k]?=some x:=by rfl) (hx:X.xe=fun _ _=>False:=by rfl) (hc:X.calm=true:=by rfl) (hs:∀x,foldedSetIterable iter X.env x=pure x:=by intro _;rfl):
 JS X (.Assign [.Name x pos'] (.ListComp elt [⟨tg,iter,ifs,0⟩] scope p) pos) (bg k (eM src fr dtg t te)):=by
 unfold JS;unfold JE JI JG JC at*;exact DR fit (DH hx hc S hi hg ht he hN hni hl hf hsw hs)
theorem gN(he:JE X e te)(ho:JE X o to)(hi:JE X i ti)(h1:jT e=true:=by rfl)(h2:lX i=true:=by rfl):JS X (.Assign [.Subscript o i pos'] e pos) (g9 to ti te):=by unfold JS;unfold JE at*;exact Ct (Fs he ho hi h1 h2)
theorem HP{k:Nat}{x:Str}{op:Operator}{f:Int→Int→Int}(hN:X.N.Nodup)(hx:Loc X.env.scope x)(he:JE X e te)(ho:vK X op (xN f))(hf:X.fn x=true∨X.env.scope.names.lookup x=some .local:=by first|exact .inl rfl|exact .inr rfl)(hi:X.N[k]?=some x:=by rfl):JS X (.AugAssign (.Name x pos') op e pos) (zw k (vA f) te):=by
 unfold JS;unfold JE at he;exact FV (Ho hN hi hx he ho hf)
theorem HF{k j kt k2:Nat}{x y:Str}{px py pt pt2:Pos}(hN:X.N.Nodup)(hij:k≠j)(hx:X.env.scope.names.lookup x=some .local)(hy:X.env.scope.names.lookup y=some .local)(ha:JA X [a,b] ar)
 (hw:swappedStores [.Tuple [.Name x px,.Name y py] kt pt] (.Tuple [a,b] k2 pt2) X.env=pure (some [x,y]):=by rfl) (hc:X.calm=true:=by rfl) (hi:X.N[k]?=some x:=by rfl) (hj:X.N[j]?=some y:=by rfl) (hs:swapsWithSole [.Tuple [.Name x px,.Name y py] kt pt] (.Tuple [a,b] k2 pt2) pos.line X.env=pure false:=by rfl):
 JS X (.Assign [.Tuple [.Name x px,.Name y py] kt pt] (.Tuple [a,b] k2 pt2) pos) (BI k j ar):=by unfold JS;unfold JA at ha;exact GH (Hu hc hN hi hj hij hx hy ha hw hs)
theorem Bi{tg:Expr}{dtg:fN}(he:JE X e te)(hg:JG X tg dtg)(hs:swapsWithSole [tg] e pos.line X.env=pure false:=by rfl)(hw:swappedStores [tg] e X.env=pure none:=by rfl)(h1:(assignEach [tg] X.env).map (·.2)=[assign tg X.env]:=by rfl):JS X (.Assign [tg] e pos) (yP dtg te):=by
 unfold JS;unfold JE at he;unfold JG at hg;exact He (As he hg hs hw h1)
end
theorem cz{P:Program}{w:World}{K:PySem.W.Frag}{mg:Str→Option Value}{base:Heap}{x qual:Str}{st:Stmt}{f:Addr}{fd:FuncData}{N ps:List Str}{k:Nat}{sp:cW}{t:DS}(F:nh K x qual st f fd)(S:bb N ps (ah st))
 (hbody:∀(cdv:Value) (A:Around) (outer:List Env) (s:Shared) (H:Hp) (E:XK),dj k (A.deeper (envOfC qual (ah st) s.heap.objs.size f cdv))→JB (pf aJ P w K mg base N qual (ah st) f cdv A outer s H E).xr (aU st) t)
 (hsp:∀ds st K,sp ds st K→ds.length=ps.length∧t {nx:=fun _ st'=>K .aH st',rt:=K} (bx N ds) st):ay P w K mg base aJ (k+1) f fd ps (aK sp):=by
 unfold JB at hbody;exact IL F S hbody hsp
end L3
namespace HT
open PySem PyProof.Rows
section
variable {prog:Program}{w:World}{A:Around}{E:Value→Shared→Prop}{s:Shared}
theorem nZ{t sl:Addr}{items:Array Value}{vl vu:Value}{lo hi:Option Int}{Q:Value→Shared→Prop}(ht:IsTup s.heap t items)(hs:s.heap.IsSliceOf sl vl vu .none)(pl:IsPart vl lo)(pu:IsPart vu hi)
 (hw:bV items.size 0 lo=0∧bV items.size items.size hi=items.size) (h:Q (.ref t) s):wpAny (model prog w) A (getItem (.ref t) (.ref sl)) Q E s:=by
 obtain⟨os,hos,hcs,hds⟩:=id hs
 have hTs:s.TypeIs (.ref sl) "slice":=⟨os,hos,hcs⟩
 unfold getItem
 try with_reducible refine wpAny_holding ?_
 first|refine wpAny_bind (wpAny_pure ?_)|skip
 refine wpAny_bind (wpAny_sequenceKey ht.typeIs (by decide) ?_)
 refine wpAny_bind (wpAny_callSpecial?_slot (name:=Str.ofString "__getitem__") ht.typeIs PyProof.Rows.slot_tuple_getitem
  (wpAny_call_entry PyProof.Rows.slot_tuple_getitem ht.typeIs entry_tuple_getitem ?_ (args_tuple_getitem _ _)))
 show wpAny _ _ (Builtin.Tuple.tupleItemsOf (.ref t) >>= _) _ _ s
 refine wpAny_bind (tupleItemsOf_ ht ?_)
 refine wpAny_bind (wpAny_typeOf hTs ?_)
 rw[if_pos (by decide)]
 refine wpAny_bind (lI hs pl pu ?_)
 have hyes:(((bV items.size 0 lo:Nat):Int)==0&&(1:Int)==1&&(bV items.size items.size hi-bV items.size 0 lo)==items.size)=true:=by
  rw[hw.1,hw.2]
  simp
 show wpAny _ _ (if(((bV items.size 0 lo:Nat):Int)==0&&(1:Int)==1&&(bV items.size items.size hi-bV items.size 0 lo)==items.size)=true then _ else _) _ _ s
 rw[if_pos hyes]
 refine wpAny_bind ?_
 unfold Builtin.Tuple.tupleIsExact
 exact wpAny_bind (wpAny_typeOf ht.typeIs (wpAny_pure (wpAny_bind (wpAny_rule (wpAny_pure ⟨_,rfl,wpAny_pure h⟩)))))
end
end HT
namespace L3
open PySem L2
open PySem.Spec hiding items?
open PyProof.Rows hiding St
noncomputable abbrev DO:=bR→ag→(Option Int→ag→Prop)→Prop
noncomputable def lp:DO:=fun _ st K=>K none st
noncomputable def mD(t:DE):DO:=fun σ st K=>t σ st fun d st1=>match d with| .int i=>K (some i) st1|_=>False
noncomputable def cutD(xs:List D)(lo hi:Option Int):List D:=(xs.drop (HT.bV xs.length 0 lo)).take (HT.bV xs.length xs.length hi-HT.bV xs.length 0 lo)
noncomputable def wx(d:D)(lo hi:Option Int)(st:ag)(K:DK):Prop:=match d with
 | .lst xs=>K (.lst (cutD xs lo hi)) st
 | .tup xs=>K (.tup (cutD xs lo hi)) st
 | .ref n=>(match st[n]? with|some (.lst xs)=>K (.lst (cutD xs lo hi)) st|_=>False)
 |_=>False
@[irreducible] noncomputable def lD:D→Option Int→Option Int→ag→DK→Prop:=wx
noncomputable def lN(t:DE)(lo hi:DO):DE:=fun σ st K=>t σ st fun d st1=>lo σ st1 fun l st2=>hi σ st2 fun u st3=>lD d l u st3 K
theorem qG{α:List (Option Addr)}{G:Hp}{xs:List D}{vs:List V}{lo hi:Option Int}(r:aG α G xs vs):aG α G (cutD xs lo hi) (nG vs lo hi):=by
 unfold cutD nG
 rw[←r.length]
 exact aR.mpr (qk _ (ql _ (aR.mp r)))
noncomputable def Lv(α:List (Option Addr))(G F:Hp)(K:Option Int→ag→Prop)(Q:Option Int→Hp→Prop):Prop:=∀o st',K o st'→∀α' G' H',Step α G α' G'→cq G' F H'→aV α' st' G'→Q o H'
inductive Kz(t:DO)(σ:L2.St)(H:Hp)(Q:Option Int→Hp→Prop):Prop
 |mk (α:List (Option Addr)) (σd:bR) (st:ag) (K:Option Int→ag→Prop) (G F:Hp) (P:cq G F H) (R:eD α G σd σ) (S:aV α st G) (h:t σd st K) (k:Lv α G F K Q):Kz t σ H Q
noncomputable def LO(t:DO):TO:=Kz t
section
variable {X:Cx}
theorem PO.imp{e:Option Expr}{t t':TO}(h:PO X e t)(f:∀σ H Q,t' σ H Q→t σ H Q):PO X e t':=fun pins s σ H Q I q=>h pins s σ H Q I (f σ H Q q)
theorem DV:PO X none (LO lp):=PO.imp Ei fun σ H Q ⟨α,σd,st,K,G,F,P,R,S,t,k⟩=>k none st t α G H Step.refl P S
theorem E5{e:Expr}{te:DE}(h:PE X e (LE te)):PO X (some e) (LO (mD te)):=PO.imp (DG h) fun σ H Q ⟨α,σd,st,K,G,F,P,R,S,t,k⟩=>by
 refine⟨α,σd,st,_,G,F,P,R,S,t,fun d st1 q α1 G1 H1 v s1 P1 S1 r1=>?_⟩
 cases d<;>try exact q.elim
 unfold Rep at r1
 exact⟨_,r1,k _ st1 q α1 G1 H1 s1 P1 S1⟩
noncomputable def Lr(x:V)(lo hi:Option Int)(H:Hp)(Q:VK):Prop:=∃α d st K G F,cq G F H∧Rep α G d x∧aV α st G∧lD d lo hi st K∧LK α G F K Q
theorem EJ:AU X (fun x lo hi H Q=>∃a xs,x= .ref a∧H a=some (.tup xs)∧((HT.bV xs.length 0 lo=0∧HT.bV xs.length xs.length hi=xs.length)→Q (.ref a) H)∧(¬(HT.bV xs.length 0 lo=0∧HT.bV xs.length xs.length hi=xs.length)→∀p,H p=none→Q (.ref p) (upd H p (.tup (nG xs lo hi))))):=by
 intro pins s σ H x v vl vu lo hi sl Q I rx hs pl pu h
 obtain⟨a,xs,rfl,hx,q1,q2⟩:=h
 by_cases hw:HT.bV xs.length 0 lo=0∧HT.bV xs.length xs.length hi=xs.length
 · cases rx
   obtain⟨its,r,ht,hz⟩:=I.tuple (ia.of hx)
   have hlen:its.toArray.size=xs.length:=by rw[List.size_toArray];exact r.length.symm
   exact⟨"tuple",_,PyProof.Rows.slot_tuple_getitem.lookup,ht.typeIs,HT.nZ ht hs pl pu (by rw[hlen];exact hw) ⟨.ref a,H,I,rfl,q1 hw⟩⟩
 · exact GL pins s σ H _ v vl vu lo hi sl Q I rx hs pl pu ⟨a,xs,rfl,.of hx,hw,q2 hw⟩
theorem AI{xs:List D}{lo hi:Option Int}(hw:HT.bV xs.length 0 lo=0∧HT.bV xs.length xs.length hi=xs.length):cutD xs lo hi=xs:=by
 unfold cutD
 rw[hw.1,hw.2]
 simp
theorem FZ:AU X Lr:=by
 intro pins s σ H x v vl vu lo hi sl Q I rx hs pl pu ⟨α,d,st,K,G,F',P,r1,S,q,k⟩
 unfold lD wx at q
 cases d<;>try exact q.elim
 · rename_i n
   simp only at q
   split at q
   · rename_i xs e
     obtain⟨a,ea,vs,h1,h2⟩:=S.gY e
     have r1':=d8 ea r1
     subst r1'
     exact xh pins s σ H _ v vl vu lo hi sl Q I rx hs pl pu ⟨a,vs,rfl,.inl (.of (P.get h1)),fun p hp=>k.lst P q S (qG h2) hp⟩
   · exact q.elim
 · unfold Rep at r1
   obtain⟨a,vs,rfl,na,ha,ra⟩:=r1
   exact xh pins s σ H _ v vl vu lo hi sl Q I rx hs pl pu ⟨a,vs,rfl,.inl (fY P ha),fun p hp=>k.lst P q S (qG ra) hp⟩
 · rename_i xs
   have r0:=r1
   unfold Rep at r1
   obtain⟨a,vs,rfl,na,ha,ra⟩:=r1
   refine EJ pins s σ H _ v vl vu lo hi sl Q I rx hs pl pu ⟨a,vs,rfl,P.get ha,fun hw=>?_,fun _ p hp=>k.tup P q S (qG ra) hp⟩
   rw[←ra.length]at hw
   simp only at q
   rw[AI hw]at q
   exact k.here P q S r0
theorem Fb{e:Expr}{lo hi:Option Expr}{te:DE}{tl th:DO}{p2 pos:Pos}(he:PE X e (LE te))(hl:PO X lo (LO tl))(hh:PO X hi (LO th)):PE X (.Subscript e (.Slice lo hi none p2) pos) (LE (lN te tl th)):=PE.imp (BH FZ he hl hh) fun σ H Q ⟨α,σd,st,K,G,F,P,R,S,t,k⟩=>by
 refine⟨α,σd,st,_,G,F,P,R,S,t,fun d st1 q α1 G1 H1 v s1 P1 S1 r1=>?_⟩
 refine⟨α1,σd,st1,_,G1,F,P1,R.step s1,S1,q,fun l st2 q2 α2 G2 H2 s2 P2 S2=>?_⟩
 refine⟨α2,σd,st2,_,G2,F,P2,(R.step s1).step s2,S2,q2,fun u st3 q3 α3 G3 H3 s3 P3 S3=>?_⟩
 exact⟨α3,d,st3,K,G3,F,P3,(r1.step s2).step s3,S3,q3,((k.at s1).at s2).at s3⟩
@[irreducible] noncomputable def JO(X:Cx)(e:Option Expr)(t:DO):Prop:=PO X e (LO t)
theorem pD:JO X none lp:=by unfold JO;exact DV
theorem kX{e:Expr}{te:DE}(h:JE X e te):JO X (some e) (mD te):=by unfold JO;unfold JE at h;exact E5 h
theorem mR{e:Expr}{lo hi:Option Expr}{te:DE}{tl th:DO}{p2 pos:Pos}(he:JE X e te)(hl:JO X lo tl)(hh:JO X hi th):JE X (.Subscript e (.Slice lo hi none p2) pos) (lN te tl th):=by unfold JE at*;unfold JO at*;exact Fb he hl hh
end
theorem zA{st:ag}{K:DK}{xs:List D}{lo hi:Option Int}(k:K (.lst (cutD xs lo hi)) st):lD (.lst xs) lo hi st K:=by unfold lD;exact k
theorem mf{st:ag}{K:DK}{xs:List D}{lo hi:Option Int}{n:Nat}(h:st[n]?=some (.lst xs))(k:K (.lst (cutD xs lo hi)) st):lD (.ref n) lo hi st K:=by unfold lD wx;simp only[h];exact k
end L3
namespace L3
open PySem L2
open PySem.Spec hiding items?
open PyProof.Rows hiding St
section
variable {prog:Program}{w:World}{A:Around}{E:Value→Shared→Prop}{s:Shared}
theorem yt{iT tp:Addr}{n:Nat}{its:Array Value}{v:Value}{Q:Value→Shared→Prop}(hI:s.heap.IsTupleIter iT tp n)(hT:s.heap.IsTuple tp its)(hv:its[n]?=some v)
 (q:∀g,g.IsTupleIter iT tp (n+1)→Heap.SameBut iT s.heap g→Q v {s with heap:=g}):wpAny (model prog w) A (Builtin.SmallTypes.nextOf (.ref iT)) Q E s:=by
 obtain⟨oI,eI,cI,dI⟩:=id hI
 obtain⟨oT,eT,_,nT,dT⟩:=hT
 unfold Builtin.SmallTypes.nextOf
 refine wpAny_bind (wpAny_callSpecial?_slot (name:=Str.ofString "__next__") hI.typeIs F.slot_tuple_iterator_next (wpAny_call_entry F.slot_tuple_iterator_next hI.typeIs F.entry_tuple_iterator_next ?_ (F.args_tuple_iterator_next_1 _)))
 show wpAny _ _ (field (.ref iT) 0 >>= _) _ _ s
 refine wpAny_bind (wpAny_field eI dI (x:= .ref tp) rfl ?_)
 show wpAny _ _ (if(Value.ref tp==Value.none)=true then _ else _) _ _ s
 rw[if_neg (show¬((Value.ref tp==Value.none)=true)from Bool.false_ne_true)]
 show wpAny _ _ (field (.ref iT) 1 >>= _) _ _ s
 refine wpAny_bind (wpAny_field eI dI (x:= .int n 0) rfl ?_)
 show wpAny _ _ (seqItems? (.ref tp) >>= _) _ _ s
 refine wpAny_bind (wpAny_seqItems eT dT ?_)
 simp only[Int.toNat_natCast,hv]
 refine wpAny_bind (wpAny_setField eI dI (by simp) (wpAny_pure ⟨v,rfl,wpAny_pure (q _ ?_ (Heap.SameBut.update ..))⟩))
 refine⟨_,Heap.get?_update_self _ eI (Obj.isFreed_of_fields (Obj.data_mapFields dI _)),(Obj.cls_mapFields ..).trans cI,?_⟩
 rw[Obj.data_mapFields dI]
 simp[rawInt]
theorem zT{iT tp:Addr}{n:Nat}{its:Array Value}{Q:Value→Shared→Prop}(hh:A.handled=none)(hI:s.heap.IsTupleIter iT tp n)(hT:s.heap.IsTuple tp its)(hv:its[n]?=none)
 (q:∀g e,Heap.ExtBut iT s.heap g→(∃o,g.get? e=some o∧o.cls= .type "StopIteration")→E (.ref e) {s with heap:=g}):wpAny (model prog w) A (Builtin.SmallTypes.nextOf (.ref iT)) Q E s:=by
 obtain⟨oI,eI,cI,dI⟩:=id hI
 obtain⟨oT,eT,_,nT,dT⟩:=hT
 unfold Builtin.SmallTypes.nextOf
 refine wpAny_bind (wpAny_callSpecial?_slot (name:=Str.ofString "__next__") hI.typeIs F.slot_tuple_iterator_next (wpAny_call_entry F.slot_tuple_iterator_next hI.typeIs F.entry_tuple_iterator_next ?_ (F.args_tuple_iterator_next_1 _)))
 show wpAny _ _ (field (.ref iT) 0 >>= _) _ _ s
 refine wpAny_bind (wpAny_field eI dI (x:= .ref tp) rfl ?_)
 show wpAny _ _ (if(Value.ref tp==Value.none)=true then _ else _) _ _ s
 rw[if_neg (show¬((Value.ref tp==Value.none)=true)from Bool.false_ne_true)]
 show wpAny _ _ (field (.ref iT) 1 >>= _) _ _ s
 refine wpAny_bind (wpAny_field eI dI (x:= .int n 0) rfl ?_)
 show wpAny _ _ (seqItems? (.ref tp) >>= _) _ _ s
 refine wpAny_bind (wpAny_seqItems eT dT ?_)
 simp only[Int.toNat_natCast,hv]
 refine wpAny_bind (wpAny_rule (wpAny_bind (wpAny_setField eI dI (by simp) ?_)))
 show wpAny _ _ (newExc (.type "StopIteration") [] >>= _) _ _ _
 refine wpAny_bind ?_
 simp only[newExc,newTuple]
 refine wpAny_bind (wpAny_newObj_type ?_ (by size_fits))
 refine wpAny_bind (m:=firstArgMember _ _) (wpAny_of_eq (a:=Value.none) (by first|rfl|(simp only[firstArgMember];rfl)) ?_)
 refine wpAny_newObj_type ?_ (by size_fits)
 simp only[raiseNew]
 refine wpAny_bind (wpAny_handled ?_)
 first|rw[show A.in1.handled=none from hh]|rw[hh]
 refine wpAny_bind (wpAny_pure (wpAny_throw ?_))
 exact q _ _ (((Heap.SameBut.update ..).extBut.push _).push _) ⟨_,Heap.get?_push_size _ rfl,rfl⟩
end
end L3
namespace L3
open PySem L2
open PySem.Spec hiding items?
open PyProof.Rows hiding St
section
variable {st:ag}{K:DK}{i j:Int}{b c:Bool}{xs ys:List D}{d e:D}{n:Nat}
theorem eqT(h:i=j)(k:K (.bl true) st):jr (.int i) (.int j) st K:=AQ (by rw[decide_eq_true h];exact k)
theorem Fq(h:i≠j)(k:K (.bl false) st):jr (.int i) (.int j) st K:=AQ (by rw[decide_eq_false h];exact k)
theorem eq2(h1:i=j→K (.bl true) st)(h2:i≠j→K (.bl false) st):jr (.int i) (.int j) st K:=by
 by_cases h:i=j
 · exact eqT h (h1 h)
 · exact Fq h (h2 h)
theorem GN(h:i=j)(k:K (.bl false) st):tY (.int i) (.int j) st K:=JH (by rw[decide_eq_true h];exact k)
theorem LH(h:i<j)(k:K (.bl true) st):pe (.int i) (.int j) st K:=yq (by rw[decide_eq_true h];exact k)
theorem LM(h:j≤i)(k:K (.bl false) st):pe (.int i) (.int j) st K:=yq (by rw[decide_eq_false (by omega)];exact k)
theorem GS(h1:i<j→K (.bl true) st)(h2:j≤i→K (.bl false) st):pe (.int i) (.int j) st K:=by
 by_cases h:i<j
 · exact LH h (h1 h)
 · exact LM (by omega) (h2 (by omega))
theorem Lq(h:j<i)(k:K (.bl true) st):rk (.int i) (.int j) st K:=Dk (by rw[decide_eq_true h];exact k)
theorem LD(h:i≤j)(k:K (.bl false) st):rk (.int i) (.int j) st K:=Dk (by rw[decide_eq_false (by omega)];exact k)
theorem Kp(h1:j<i→K (.bl true) st)(h2:i≤j→K (.bl false) st):rk (.int i) (.int j) st K:=by
 by_cases h:j<i
 · exact Lq h (h1 h)
 · exact LD (by omega) (h2 (by omega))
theorem Kf(h:j≤i)(k:K (.bl true) st):rR (.int i) (.int j) st K:=Dw (by rw[decide_eq_true h];exact k)
theorem Kv(h:i<j)(k:K (.bl false) st):rR (.int i) (.int j) st K:=Dw (by rw[decide_eq_false (by omega)];exact k)
theorem Lx(h1:j≤i→K (.bl true) st)(h2:i<j→K (.bl false) st):rR (.int i) (.int j) st K:=by
 by_cases h:j≤i
 · exact Kf h (h1 h)
 · exact Kv (by omega) (h2 (by omega))
theorem dJ{m:Nat}(h:m≤1000):m≤sizeLine:=by rw[sizeLine_eq];omega
theorem sf(h0:0≤i)(e:xs[i.toNat]?=some d):eW xs i=some d:=by
 have:=gF e
 rw[Int.toNat_of_nonneg h0]at this
 exact this
theorem Fv{m:Nat}(h0:0≤i)(h:i.toNat<m):jP m i=some i.toNat:=by
 unfold jP
 have:i<(m:Int):=by omega
 simp[h0,this]
end
theorem gi{tg:fN}{body:DS}{ok:ag→Prop}{E:jb}(I:List D→bR→ag→Prop)(hend:∀σ st,I [] σ st→ok st∧E.nx σ st)
 (hstep:∀x xs σ st,I (x::xs) σ st→(∀σ' st',I xs σ' st'→iB tg body ok E xs σ' st')→ok st∧∃σ1,tg x σ=some σ1∧body {E with nx:=iB tg body ok E xs,ct:=iB tg body ok E xs,bk:=E.nx} σ1 st):
 ∀xs σ st,I xs σ st→iB tg body ok E xs σ st
 | [],σ,st,h=>by unfold iB;exact hend σ st h
 |x::xs,σ,st,h=>by unfold iB;exact hstep x xs σ st h fun σ' st' h'=>gi I hend hstep xs σ' st' h'
theorem jU{tg:fN}{c:DT}{te:DE}{ok:ag→Prop}{σc:bR}{K:List D→ag→Prop}(I:List D→List D→ag→Prop)(hend:∀acc st,I [] acc st→ok st∧K acc st)
 (hstep:∀x xs acc st,I (x::xs) acc st→(∀acc' st',I xs acc' st'→dZ tg c te ok σc xs acc' st' K)→ok st∧∃σ2,tg x σc=some σ2∧c σ2 st fun b st1=>if b=true then te σ2 st1 fun y st2=>dZ tg c te ok σc xs (acc++[y]) st2 K else dZ tg c te ok σc xs acc st1 K):
 ∀xs acc st,I xs acc st→dZ tg c te ok σc xs acc st K
 | [],acc,st,h=>by unfold dZ;exact hend acc st h
 |x::xs,acc,st,h=>by unfold dZ;exact hstep x xs acc st h fun acc' st' h'=>jU I hend hstep xs acc' st' h'
theorem comp_map{tg:fN}{te:DE}{ok:ag→Prop}{σc:bR}{st:ag}{K:List D→ag→Prop}{g:D→D}(aP:ok st)(xs:List D)(hx:∀x∈xs,∀K',K' (g x) st→∃σ2,tg x σc=some σ2∧te σ2 st K')(k:K (xs.map g) st):dZ tg cQ te ok σc xs [] st K:=by
 refine jU (fun r acc st'=>st'=st∧(∀x∈r,x∈xs)∧acc++r.map g=xs.map g) (fun acc st' h=>?_) (fun x r acc st' h next=>?_) xs [] st ⟨rfl,fun _ h=>h,rfl⟩
 · obtain⟨rfl,_,e⟩:=h
   rw[List.map_nil,List.append_nil]at e
   rw[e];exact⟨aP,k⟩
 · obtain⟨rfl,hm,e⟩:=h
   obtain⟨σ2,e2,q⟩:=hx x (hm x List.mem_cons_self) (fun y st2=>dZ tg cQ te ok σc r (acc++[y]) st2 K) (next _ _ ⟨rfl,fun z hz=>hm z (List.mem_cons_of_mem _ hz),by rw[←e];simp⟩)
   exact⟨aP,σ2,e2,q⟩
theorem x_{A B:DS}{E:jb}{σ:bR}{st:ag}(J:bR→ag→Prop)(h:∀nx,(∀σ' st',J σ' st'→nx σ' st')→A {E with nx:=nx} σ st)(k:∀σ' st',J σ' st'→B E σ' st'):aD A B E σ st:=h (B E) k
noncomputable def GD(n:Nat)(K:DK)(y:D)(st2:ag):Prop:=∃y',[y]=[y']∧(match st2[n]? with|some (.lst xs)=>xs.length<sizeLine∧K .aH (st2.set n (.lst (xs++[y'])))|_=>False)
theorem jV{n:Nat}{K:DK}{y:D}{st:ag}{xs:List D}(e:st[n]?=some (.lst xs))(h:xs.length<sizeLine)(k:K .aH (st.set n (.lst (xs++[y])))):GD n K y st:=by
 refine⟨y,rfl,?_⟩;simp only[e];exact⟨h,k⟩
@[irreducible] noncomputable def gg(to te:DE):DE:=m5 to te
theorem lF{σ:bR}{st:ag}{K:DK}{i n:Nat}{xs:List D}{te:DE}(ei:σ[i]?=some (some (.ref n)))(e:st[n]?=some (.lst xs))(h:te σ st (GD n K)):gg (aa i) te σ st K:=by
 unfold gg m5 aa
 simp only[ei,e]
 exact h
theorem iC{X:Cx}{o e:Expr}{to te:DE}{apos cpos:Pos}(ho:JE X o to)(he:JE X e te)(hbase:attributeBase o "append" X.env (eval o X.env)=eval o X.env:=by rfl)(hline:(apos.endLine==cpos.line)=true:=by rfl)(hs:notStar e=true:=by rfl):JE X (.Call (.Attribute o "append" apos) [e] [] cpos) (gg to te):=by
 unfold gg;exact Cn ho he hbase hline hs
section
variable {X:Cx}
end
end L3
namespace L3
open PySem L2
open PySem.Spec hiding items?
open PyProof.Rows hiding St
structure Src(P:Program)(w:World)(t a:Addr)(J:Nat→Heap→Prop)(us:Array Value):Prop where
 fr:∀n g k,J n g→(∀b,b=t∨b=a→∀o,g.get? b=some o→k.get? b=some o)→J n k
 lv:∀n g,J n g→(∃o,g.get? t=some o)∧∃o,g.get? a=some o
 nx:∀n (A:Around) (s:Shared) (Q:Value→Shared→Prop) (E:Value→Shared→Prop) v,J n s.heap→us[n]?=some v→(∀k,J (n+1) k→Heap.SameBut t s.heap k→Q v {s with heap:=k})→wpAny (model P w) A (Builtin.SmallTypes.nextOf (.ref t)) Q E s
 en:∀n (A:Around) (s:Shared) (Q:Value→Shared→Prop) (E:Value→Shared→Prop),A.handled=none→J n s.heap→us[n]?=none→(∀k e,Heap.ExtBut t s.heap k→(∃o,k.get? e=some o∧o.cls= .type "StopIteration")→E (.ref e) {s with heap:=k})→wpAny (model P w) A (Builtin.SmallTypes.nextOf (.ref t)) Q E s
section
variable {P:Program}{w:World}
theorem src_list(t a:Addr)(hne:a≠t)(us:Array Value):Src P w t a (fun n g=>g.IsListIter t a n∧g.IsList a us) us where
 fr:=fun n g k j kp=>⟨j.1.at fun o e=>kp t (.inl rfl) o e,j.2.at fun o e=>kp a (.inr rfl) o e⟩
 lv:=fun n g j=>⟨let⟨o,e,_⟩:=j.1;⟨o,e⟩,let⟨o,e,_⟩:=j.2;⟨o,e⟩⟩
 nx:=fun n A s Q E v j hv q=>wpAny_nextOf_list_item j.1 j.2 hv fun k jk sb=>q k ⟨jk,j.2.extBut sb.extBut hne⟩ sb
 en:=fun n A s Q E hh j hv q=>wpAny_nextOf_list_end hh j.1 j.2 hv q
theorem Eh(t a:Addr)(hne:a≠t)(us:Array Value):Src P w t a (fun n g=>g.IsTupleIter t a n∧g.IsTuple a us) us where
 fr:=fun n g k j kp=>by
  obtain⟨⟨o,e,r⟩,⟨o2,e2,r2⟩⟩:=j
  exact⟨⟨o,kp t (.inl rfl) o e,r⟩,⟨o2,kp a (.inr rfl) o2 e2,r2⟩⟩
 lv:=fun n g j=>⟨let⟨o,e,_⟩:=j.1;⟨o,e⟩,let⟨o,e,_⟩:=j.2;⟨o,e⟩⟩
 nx:=fun n A s Q E v j hv q=>yt j.1 j.2 hv fun k jk sb=>q k ⟨jk,j.2.extBut sb.extBut hne⟩ sb
 en:=fun n A s Q E hh j hv q=>zT hh j.1 j.2 hv q
theorem Src.ext{t a c:Addr}{J:Nat→Heap→Prop}{us:Array Value}(S:Src P w t a J us){n:Nat}{g k:Heap}(j:J n g)(x:Heap.ExtBut c g k)(h1:c≠t)(h2:c≠a):J n k:=
 S.fr n g k j fun b hb o e=>x b o (by rcases hb with rfl|rfl;exact Ne.symm h1;exact Ne.symm h2) e
structure xI(z ti to t1 t2 a1 a2:Addr):Prop where
 nd: [z,ti,to,t1,t2].Nodup
 a1:a1∉[z,ti,to,t1,t2]
 a2:a2∉[z,ti,to,t1,t2]
section
variable {z ti to t1 t2 a1 a2:Addr}
theorem xI.n(D:xI z ti to t1 t2 a1 a2):(ti≠z∧to≠z∧t1≠z∧t2≠z)∧(ti≠to∧ti≠t1∧ti≠t2)∧(to≠t1∧to≠t2)∧t1≠t2:=by
 have:=D.nd
 simp only[List.nodup_cons,List.mem_cons,not_or,List.not_mem_nil,not_false_eq_true,and_true,List.nodup_nil]at this
 obtain⟨⟨b1,b2,b3,b4⟩,⟨b5,b6,b7⟩,⟨b8,b9⟩,b10⟩:=this
 exact⟨⟨Ne.symm b1,Ne.symm b2,Ne.symm b3,Ne.symm b4⟩,⟨b5,b6,b7⟩,⟨b8,b9⟩,b10⟩
theorem Bh{A:Around}{s:Shared}{E:Value→Shared→Prop}{J1 J2:Nat→Heap→Prop}{us vs:Array Value}{n:Nat}{x y a b:Value}{Q:Value→Shared→Prop}(D:xI z ti to t1 t2 a1 a2)(S1:Src P w t1 a1 J1 us)(S2:Src P w t2 a2 J2 vs)
 (Z:IsZip s.heap z ti to .none) (pI:IsPair s.heap ti (.ref t1) (.ref t2)) (pO:IsPair s.heap to a b) (j1:J1 n s.heap) (j2:J2 n s.heap) (ex:us[n]?=some x) (ey:vs[n]?=some y)
 (q:∀k,IsZip k z ti to (rawInt s.heap.objs.size)→IsPair k to x y→J1 (n+1) k→J2 (n+1) k→IsPair k s.heap.objs.size x y→k.objs.size=s.heap.objs.size+1→
   (∀c o,c≠z→c≠to→c≠t1→c≠t2→s.heap.get? c=some o→k.get? c=some o)→Q (.ref s.heap.objs.size) {s with heap:=k}):
 wpAny (model P w) A (Builtin.«zip.__next__» ⟨[.ref z],[]⟩) (fun fin s'=>∃v,fin= .done (.ret v)∧Q v s') E s:=by
 obtain⟨⟨n1,n2,n3,n4⟩,⟨n5,n6,n7⟩,⟨n8,n9⟩,n10⟩:=D.n
 have m1:=D.a1
 have m2:=D.a2
 simp only[List.mem_cons,not_or,List.not_mem_nil,not_false_eq_true,and_true]at m1 m2
 show wpAny _ _ (field (.ref z) 2 >>= _) _ _ _
 refine wpAny_bind (wpAny_field Z rfl (x:= .bool false) rfl ?_)
 show wpAny _ _ (field (.ref z) 3 >>= _) _ _ _
 refine wpAny_bind (wpAny_field Z rfl (x:= .ref ti) rfl ?_)
 refine wpAny_bind (wpAny_seqItems pI rfl ?_)
 show wpAny _ _ (Builtin.SmallTypes.ownedTupleIsFree (.ref z) >>= _) _ _ _
 refine wpAny_bind ?_
 unfold Builtin.SmallTypes.ownedTupleIsFree
 refine wpAny_bind (wpAny_field Z rfl (x:= .none) rfl (wpAny_pure ?_))
 simp only[if_true]
 refine wpAny_bind (wpAny_rule ?_)
 refine wpAny_bind (wpAny_field Z rfl (x:= .ref to) rfl ?_)
 refine wpAny_bind (wpAny_setField_rec Z (by simp) fun k1 Z1 b1=>?_)
 replace Z1:IsZip k1 z ti to .ellipsis:=Z1
 refine wpAny_bind ?_
 simp only[List.zipIdx_cons,List.zipIdx_nil,List.forIn_cons,List.forIn_nil]
 refine wpAny_bind (wpAny_bind (wpAny_onRaise ?_))
 show wpAny _ _ (Builtin.SmallTypes.nextOf (.ref t1) >>= _) _ _ _
 refine wpAny_bind (S1.nx n _ _ _ _ x (S1.ext j1 b1.extBut (Ne.symm n3) (Ne.symm m1.1)) ex fun k2 j1b b2=>wpAny_pure ?_)
 have pO2:IsPair k2 to a b:=b2.extBut _ _ n8 (b1.extBut _ _ n2 pO)
 refine wpAny_bind (wpAny_seqItems pO2 rfl ?_)
 refine wpAny_bind (wpAny_updateSeq_pair pO2 fun k3 pO3 b3=>?_)
 replace pO3:IsPair k3 to x b:=pO3
 refine wpAny_bind (wpAny_letGo (wpAny_pure ?_))
 refine wpAny_bind (wpAny_bind (wpAny_onRaise ?_))
 show wpAny _ _ (Builtin.SmallTypes.nextOf (.ref t2) >>= _) _ _ _
 have j2c:J2 n k3:=S2.ext (S2.ext (S2.ext j2 b1.extBut (Ne.symm n4) (Ne.symm m2.1)) b2.extBut n10 (Ne.symm m2.2.2.2.1)) b3.extBut n9 (Ne.symm m2.2.2.1)
 refine wpAny_bind (S2.nx n _ _ _ _ y j2c ey fun k4 j2d b4=>wpAny_pure ?_)
 have pO4:IsPair k4 to x b:=b4.extBut _ _ n9 pO3
 refine wpAny_bind (wpAny_seqItems pO4 rfl ?_)
 refine wpAny_bind (wpAny_updateSeq_pair pO4 fun k5 pO5 b5=>?_)
 replace pO5:IsPair k5 to x y:=pO5
 refine wpAny_bind (wpAny_letGo (wpAny_pure (wpAny_pure ?_)))
 refine wpAny_bind (wpAny_seqItems pO5 rfl ?_)
 refine wpAny_bind (wpAny_newTuple ?_)
 have sz:k5.objs.size=s.heap.objs.size:=by rw[b5.1,b4.1,b3.1,b2.1,b1.1]
 have Z5:IsZip k5 z ti to .ellipsis:=b5.extBut _ _ (Ne.symm n2) (b4.extBut _ _ (Ne.symm n4) (b3.extBut _ _ (Ne.symm n2) (b2.extBut _ _ (Ne.symm n3) Z1)))
 have kp5:∀c o,c≠z→c≠to→c≠t1→c≠t2→s.heap.get? c=some o→k5.get? c=some o:=fun c o c1 c2 c3 c4 e=>b5.extBut _ _ c2 (b4.extBut _ _ c4 (b3.extBut _ _ c2 (b2.extBut _ _ c3 (b1.extBut _ _ c1 e))))
 have j1e:J1 (n+1) k5:=S1.ext (S1.ext (S1.ext j1b b3.extBut n8 (Ne.symm m1.2.2.1)) b4.extBut (Ne.symm n10) (Ne.symm m1.2.2.2.2)) b5.extBut n8 (Ne.symm m1.2.2.1)
 have j2e:J2 (n+1) k5:=S2.ext j2d b5.extBut n9 (Ne.symm m2.2.2.1)
 have ltz:z<k5.objs.size:=Heap.lt_size Z5
 show wpAny _ _ (Builtin.SmallTypes.ownedTupleHandOut (.ref z) (.ref k5.objs.size) >>= _) _ _ _
 refine wpAny_bind ?_
 unfold Builtin.SmallTypes.ownedTupleHandOut
 have Z6:IsZip (k5.push {cls:= .type "tuple",data:= .seq #[x,y]}) z ti to .ellipsis:=Heap.get?_push_of_some _ Z5
 refine wpAny_bind (wpAny_setField_rec Z6 (by simp) fun k7 Z7 b7=>?_)
 replace Z7:IsZip k7 z ti to (rawInt k5.objs.size):=Z7
 refine wpAny_setField_rec Z7 (by simp) fun k8 Z8 b8=>?_
 replace Z8:IsZip k8 z ti to (rawInt k5.objs.size):=Z8
 have up:∀c o,c≠z→k5.get? c=some o→k8.get? c=some o:=fun c o c1 e=>b8.extBut _ _ c1 (b7.extBut _ _ c1 (Heap.get?_push_of_some _ e))
 have pT:IsPair k8 k5.objs.size x y:=b8.extBut _ _ (Nat.ne_of_gt ltz) (b7.extBut _ _ (Nat.ne_of_gt ltz) (Heap.get?_push_size _ rfl))
 have sz8:k8.objs.size=k5.objs.size+1:=by rw[b8.1,b7.1,Heap.size_push]
 rw[sz]at Z8 pT sz8
 refine wpAny_pure ⟨_,rfl,?_⟩
 show Q (.ref k5.objs.size) _
 rw[sz]
 refine q k8 Z8 (up _ _ n2 pO5) (S1.fr _ _ _ j1e fun b hb o e=>up b o ?_ e) (S2.fr _ _ _ j2e fun b hb o e=>up b o ?_ e) pT sz8 fun c o c1 c2 c3 c4 e=>up c o c1 (kp5 c o c1 c2 c3 c4 e)
 · rcases hb with rfl|rfl
   · exact n3
   · exact m1.1
 · rcases hb with rfl|rfl
   · exact n4
   · exact m2.1
theorem Cr{A:Around}{s:Shared}{E:Value→Shared→Prop}{J1 J2:Nat→Heap→Prop}{us vs:Array Value}{n:Nat}{a b:Value}{Q:Fin→Shared→Prop}(hh:A.handled=none)(D:xI z ti to t1 t2 a1 a2)(S1:Src P w t1 a1 J1 us)(S2:Src P w t2 a2 J2 vs)
 (Z:IsZip s.heap z ti to .none) (pI:IsPair s.heap ti (.ref t1) (.ref t2)) (pO:IsPair s.heap to a b) (j1:J1 n s.heap) (j2:J2 n s.heap) (he:us[n]?=none∨vs[n]?=none)
 (q:∀k e,(∀c o,c≠z→c≠to→c≠t1→c≠t2→s.heap.get? c=some o→k.get? c=some o)→(∃o,k.get? e=some o∧o.cls= .type "StopIteration")→E (.ref e) {s with heap:=k}):
 wpAny (model P w) A (Builtin.«zip.__next__» ⟨[.ref z],[]⟩) Q E s:=by
 obtain⟨⟨n1,n2,n3,n4⟩,⟨n5,n6,n7⟩,⟨n8,n9⟩,n10⟩:=D.n
 have m1:=D.a1
 have m2:=D.a2
 simp only[List.mem_cons,not_or,List.not_mem_nil,not_false_eq_true,and_true]at m1 m2
 show wpAny _ _ (field (.ref z) 2 >>= _) _ _ _
 refine wpAny_bind (wpAny_field Z rfl (x:= .bool false) rfl ?_)
 show wpAny _ _ (field (.ref z) 3 >>= _) _ _ _
 refine wpAny_bind (wpAny_field Z rfl (x:= .ref ti) rfl ?_)
 refine wpAny_bind (wpAny_seqItems pI rfl ?_)
 show wpAny _ _ (Builtin.SmallTypes.ownedTupleIsFree (.ref z) >>= _) _ _ _
 refine wpAny_bind ?_
 unfold Builtin.SmallTypes.ownedTupleIsFree
 refine wpAny_bind (wpAny_field Z rfl (x:= .none) rfl (wpAny_pure ?_))
 simp only[if_true]
 refine wpAny_bind (wpAny_rule ?_)
 refine wpAny_bind (wpAny_field Z rfl (x:= .ref to) rfl ?_)
 refine wpAny_bind (wpAny_setField_rec Z (by simp) fun k1 Z1 b1=>?_)
 replace Z1:IsZip k1 z ti to .ellipsis:=Z1
 refine wpAny_bind ?_
 simp only[List.zipIdx_cons,List.zipIdx_nil,List.forIn_cons,List.forIn_nil]
 refine wpAny_bind (wpAny_bind (wpAny_onRaise ?_))
 show wpAny _ _ (Builtin.SmallTypes.nextOf (.ref t1) >>= _) _ _ _
 have j1a:J1 n k1:=S1.ext j1 b1.extBut (Ne.symm n3) (Ne.symm m1.1)
 cases ex:us[n]? with
 |none=>
  refine wpAny_bind (S1.en n _ _ _ _ hh j1a ex fun k2 e b2 hx=>?_)
  obtain⟨oe,he1,he2⟩:=hx
  have Z2:IsZip k2 z ti to .ellipsis:=b2 _ _ (Ne.symm n3) Z1
  have hez:e≠z:=fun c=>by subst c;rw[Z2]at he1;cases he1;simp at he2
  refine wpAny_setField_rec Z2 (by simp) fun k3 _ b3=>q k3 e (fun c o c1 _ c3 _ f=>b3.extBut _ _ c1 (b2 _ _ c3 (b1.extBut _ _ c1 f))) ⟨oe,b3.extBut _ _ hez he1,he2⟩
 |some x=>
  have ey:vs[n]?=none:=by
   rcases he with h|h
   · rw[ex]at h;cases h
   · exact h
  refine wpAny_bind (S1.nx n _ _ _ _ x j1a ex fun k2 j1b b2=>wpAny_pure ?_)
  have pO2:IsPair k2 to a b:=b2.extBut _ _ n8 (b1.extBut _ _ n2 pO)
  refine wpAny_bind (wpAny_seqItems pO2 rfl ?_)
  refine wpAny_bind (wpAny_updateSeq_pair pO2 fun k3 pO3 b3=>?_)
  refine wpAny_bind (wpAny_letGo (wpAny_pure ?_))
  refine wpAny_bind (wpAny_bind (wpAny_onRaise ?_))
  show wpAny _ _ (Builtin.SmallTypes.nextOf (.ref t2) >>= _) _ _ _
  have j2c:J2 n k3:=S2.ext (S2.ext (S2.ext j2 b1.extBut (Ne.symm n4) (Ne.symm m2.1)) b2.extBut n10 (Ne.symm m2.2.2.2.1)) b3.extBut n9 (Ne.symm m2.2.2.1)
  refine wpAny_bind (S2.en n _ _ _ _ hh j2c ey fun k4 e b4 hx=>?_)
  obtain⟨oe,he1,he2⟩:=hx
  have Z4:IsZip k4 z ti to .ellipsis:=b4 _ _ (Ne.symm n4) (b3.extBut _ _ (Ne.symm n2) (b2.extBut _ _ (Ne.symm n3) Z1))
  have hez:e≠z:=fun c=>by subst c;rw[Z4]at he1;cases he1;simp at he2
  refine wpAny_setField_rec Z4 (by simp) fun k5 _ b5=>q k5 e (fun c o c1 c2 c3 c4 f=>b5.extBut _ _ c1 (b4 _ _ c4 (b3.extBut _ _ c2 (b2.extBut _ _ c3 (b1.extBut _ _ c1 f))))) ⟨oe,b5.extBut _ _ hez he1,he2⟩
end
end
end L3
namespace L3
open PySem L2
open PySem.Spec hiding items?
open PyProof.Rows hiding St
theorem Dg{X:Cx}{pins:List (Addr×Obj)}{σ:L2.St}{H:Hp}{s:Shared}{g:Heap}{tk:Nat}{fp:List Addr}{T:Addr}{xs:List V}(I:Inv X pins σ H s)(hf:∀b∈fp,j5 X pins H b)
 (k:∀b o,b∉fp→s.heap.get? b=some o→g.get? b=some o) (hT:s.heap.objs.size≤T) (new:dS X.prog X.w (upd H T (.tup xs)) g T (.tup xs)):Inv X pins σ (upd H T (.tup xs)) {s with heap:=g,toks:=tk}:=by
 have hn:H T=none:=I.aP.fresh hT
 have nfp:∀b u,H b=some u→b∉fp:=fun b u e z=>by rw[(hf b z).1]at e;cases e
 have nT:∀b u,H b=some u→b≠T:=fun b u e=>e7 e hn
 refine I.step (g':=s.gens) (d':=s.drawn) (ch:=fp) (fun b hb=>?_) (fun b o _ _ hc e _=>k b o hc e) (fun b o _ _ hc e _=>⟨o.slots,k b o hc e⟩) (fun b o _ e n=>?_) (fun b o hc e=>⟨o,k b o hc e⟩)
  (fun b ys e=>by rw[aE (nT b _ e)];exact e) (fun b o u e=>by rw[aE (nT b _ e)];exact e) (fun b ps e=>⟨#[],by rw[aE (nT b _ e),e];simp⟩) (fun m hm=>?_) (fun b u e=>?_) I.bare
 · obtain⟨f0,f1,f2,f3,f4,f5⟩:=hf b hb
   exact⟨f3,f1,f4,f5⟩
 · rw[aE (Nat.ne_of_lt (Nat.lt_of_lt_of_le (Heap.lt_size e) hT))];exact n
 · obtain⟨o,es,ep,ho,r⟩:=hm
   exact⟨o,es,ep,k _ o (fun z=>(hf _ z).2.1 rfl) ho,r⟩
 · by_cases hb:b=T
   · subst hb;rw[bw]at e;cases e;exact new
   · rw[aE hb]at e
     refine(I.aP b u e).oN (fun c v hc q=>k c v ?_ q) (fun c q=>by rw[aE (nT c _ q)];exact q) fun c ys q=>by rw[aE (nT c _ q)];exact q
     rcases hc with z|z
     · rw[z];exact nfp b u e
     · exact nfp c _ z
theorem CB{X:Cx}{pins:List (Addr×Obj)}{σ:L2.St}{H:Hp}{s:Shared}{g:Heap}{tk:Nat}{fp:List Addr}(I:Inv X pins σ H s)(hf:∀b∈fp,j5 X pins H b)
 (k:∀b o,b∉fp→s.heap.get? b=some o→g.get? b=some o):Inv X pins σ H {s with heap:=g,toks:=tk}:=by
 have nfp:∀b u,H b=some u→b∉fp:=fun b u e z=>by rw[(hf b z).1]at e;cases e
 refine I.step (g':=s.gens) (d':=s.drawn) (ch:=fp) (fun b hb=>?_) (fun b o _ _ hc e _=>k b o hc e) (fun b o _ _ hc e _=>⟨o.slots,k b o hc e⟩) (fun b o _ e n=>n) (fun b o hc e=>⟨o,k b o hc e⟩)
  (fun b ys e=>e) (fun b o u e=>e) (fun b ps e=>⟨#[],by rw[e];simp⟩) (fun m hm=>?_) (fun b u e=>?_) I.bare
 · obtain⟨f0,f1,f2,f3,f4,f5⟩:=hf b hb
   exact⟨f3,f1,f4,f5⟩
 · obtain⟨o,es,ep,ho,r⟩:=hm
   exact⟨o,es,ep,k _ o (fun z=>(hf _ z).2.1 rfl) ho,r⟩
 · refine(I.aP b u e).oN (fun c v hc q=>k c v ?_ q) (fun c q=>q) fun c ys q=>q
   rcases hc with z|z
   · rw[z];exact nfp b u e
   · exact nfp c _ z
inductive SK where
 |l|t
noncomputable def jG(k:SK)(K:PySem.W.Frag)(H:Hp)(a:Addr)(xs:List V):Prop:=match k with
 | .l=>kA K H a xs
 | .t=>ia K H a xs
noncomputable def lO(k:SK)(t a:Addr)(n:Nat)(g:Heap):Prop:=match k with
 | .l=>g.IsListIter t a n
 | .t=>g.IsTupleIter t a n
noncomputable def gE(k:SK)(g:Heap)(a:Addr)(us:Array Value):Prop:=match k with
 | .l=>g.IsList a us
 | .t=>g.IsTuple a us
noncomputable def mB(k:SK)(a:Addr):Obj:=match k with
 | .l=>{cls:= .type "list_iterator",data:= .fields #[.ref a,.int 0 0]}
 | .t=>{cls:= .type "tuple_iterator",data:= .fields #[.ref a,.int 0 0]}
theorem ka{P:Program}{w:World}(k:SK)(t a:Addr)(hne:a≠t)(us:Array Value):Src P w t a (fun n g=>lO k t a n g∧gE k g a us) us:=by
 cases k
 · exact src_list t a hne us
 · exact Eh t a hne us
theorem fU{X:Cx}{pins:List (Addr×Obj)}{σ:L2.St}{H:Hp}{s:Shared}{k:SK}{a:Addr}{xs:List V}(I:Inv X pins σ H s)(h:jG k X.K H a xs):∃its:List Value,Vals xs its∧gE k s.heap a its.toArray:=by
 cases k
 · obtain⟨its,rv,p,_⟩:=I.list h
   exact⟨its,rv,p.isList⟩
 · obtain⟨its,rv,p,_⟩:=I.tuple h
   exact⟨its,rv,p⟩
theorem ni{X:Cx}{pins:List (Addr×Obj)}{σ:L2.St}{H:Hp}{s:Shared}{k:SK}{a:Addr}{xs ys:List V}(I:Inv X pins σ H s)(h:jG k X.K H a xs)(h':jG k X.K H a ys):xs=ys:=by
 cases k
 · exact I.u9 h h'
 · exact I.tN h h'
theorem oy{P:Program}{w:World}{A:Around}{s:Shared}{E:Value→Shared→Prop}{k:SK}{a:Addr}{us:Array Value}{Q:Value→Shared→Prop}(h:gE k s.heap a us)(q:Q (.ref s.heap.objs.size) {s with heap:=s.heap.push (mB k a)}):wpAny (model P w) A (pyIter (.ref a)) Q E s:=by
 cases k
 · exact wpAny_pyIter_list h q
 · exact wpAny_pyIter_tuple h q
theorem gE.push{k:SK}{g:Heap}{a:Addr}{us:Array Value}(h:gE k g a us)(o:Obj):gE k (g.push o) a us:=by
 cases k
 · obtain⟨o',e,r⟩:=h;exact⟨o',Heap.get?_push_of_some _ e,r⟩
 · obtain⟨o',e,r⟩:=h;exact⟨o',Heap.get?_push_of_some _ e,r⟩
theorem gE.some{k:SK}{g:Heap}{a:Addr}{us:Array Value}(h:gE k g a us):∃o,g.get? a=Option.some o:=by
 cases k
 · obtain⟨o',e,r⟩:=h;exact⟨o',e⟩
 · obtain⟨o',e,r⟩:=h;exact⟨o',e⟩
theorem m9{k:SK}{g h:Heap}{t a:Addr}(e:g.get? t=Option.some (mB k a)):lO k t a 0 g:=by
 cases k
 · exact⟨_,e,rfl,rfl⟩
 · exact⟨_,e,rfl,rfl⟩
theorem iR{k:SK}{t a:Addr}{n:Nat}{g g':Heap}(h:lO k t a n g)(kp:∀o,g.get? t=Option.some o→g'.get? t=Option.some o):lO k t a n g':=by
 cases k
 · obtain⟨o,e,r⟩:=h;exact⟨o,kp o e,r⟩
 · obtain⟨o,e,r⟩:=h;exact⟨o,kp o e,r⟩
theorem hW{k:SK}{t a:Addr}{n:Nat}{g:Heap}(h:lO k t a n g):∃o,g.get? t=Option.some o∧∀v,o.data≠ .cell v:=by
 cases k
 · obtain⟨o,e,c,d⟩:=h;exact⟨o,e,fun v z=>by rw[d]at z;cases z⟩
 · obtain⟨o,e,c,d⟩:=h;exact⟨o,e,fun v z=>by rw[d]at z;cases z⟩
noncomputable def KD(K:PySem.W.Frag)(k1 k2:SK)(a1 a2:Addr):It:=
 ⟨fun i H=>∃xs ys x y,jG k1 K H a1 xs∧jG k2 K H a2 ys∧xs[i]?=some x∧ys[i]?=some y,
  fun i H v H'=>∃T x y,H T=none∧v= .ref T∧H'=upd H T (.tup [x,y])∧(∀xs,jG k1 K H a1 xs→xs[i]?=some x)∧∀ys,jG k2 K H a2 ys→ys[i]?=some y,
  fun i H=>∃xs ys,jG k1 K H a1 xs∧jG k2 K H a2 ys∧(xs.length≤i∨ys.length≤i)⟩
noncomputable def Jg(z ti to t1 t2 a1 a2:Addr)(k1 k2:SK)(i:Nat)(h:Heap):Prop:=IsZip h z ti to .none∧IsPair h ti (.ref t1) (.ref t2)∧(∃a b,IsPair h to a b)∧lO k1 t1 a1 i h∧lO k2 t2 a2 i h
theorem Cj{P:Program}{w:World}{K:PySem.W.Frag}{elts:List Expr}{kx:Nat}{pos:Pos}{z ti to t1 t2 a1 a2:Addr}(k1 k2:SK)(D:xI z ti to t1 t2 a1 a2):
 Turn P w K (.Tuple elts kx pos) (KD K k1 k2 a1 a2) [z,ti,to,t1,t2] z (Jg z ti to t1 t2 a1 a2 k1 k2) where
 mem:=by simp
 obj:=fun i h st b hb=>by
  obtain⟨Z,pI,⟨a,b',pO⟩,i1,i2⟩:=st
  simp only[List.mem_cons,List.not_mem_nil,or_false]at hb
  rcases hb with rfl|rfl|rfl|rfl|rfl
  · exact⟨_,Z,fun v e=>by cases e⟩
  · exact⟨_,pI,fun v e=>by cases e⟩
  · exact⟨_,pO,fun v e=>by cases e⟩
  · exact hW i1
  · exact hW i2
 keep:=fun i h h' st k=>by
  obtain⟨Z,pI,⟨a,b',pO⟩,i1,i2⟩:=st
  exact⟨k z (by simp) _ Z,k ti (by simp) _ pI,⟨a,b',k to (by simp) _ pO⟩,iR i1 (k t1 (by simp)),iR i2 (k t2 (by simp))⟩
 item:=by
  intro X hP hw hK hc i pins s σ H E I hf st hg
  subst hP hw hK
  obtain⟨Z,pI,⟨a,b',pO⟩,i1,i2⟩:=st
  obtain⟨xs,ys,x,y,q1,q2,ex,ey⟩:=hg
  obtain⟨us,r1,l1⟩:=fU I q1
  obtain⟨vs,r2,l2⟩:=fU I q2
  obtain⟨u,eu,ru⟩:=r1.get ex
  obtain⟨v,ev,rv⟩:=r2.get ey
  have m1:=D.a1
  have m2:=D.a2
  simp only[List.mem_cons,not_or,List.not_mem_nil,not_false_eq_true,and_true]at m1 m2
  obtain⟨⟨n1,n2,n3,n4⟩,⟨n5,n6,n7⟩,⟨n8,n9⟩,n10⟩:=D.n
  have tz:s.TypeIs (.ref z) "zip":=⟨_,Z,rfl⟩
  unfold pyNext
  refine wpAny_bind (wpAny_attempt (wpAny_callSpecial?_slot (name:=Str.ofString "__next__") tz F.slot_zip_next (wpAny_call_entry F.slot_zip_next tz F.entry_zip_next (Bh D (ka k1 t1 a1 m1.2.2.2.1 us.toArray) (ka k2 t2 a2 m2.2.2.2.2 vs.toArray) Z pI pO ⟨i1,l1⟩ ⟨i2,l2⟩ (x:=u) (y:=v) (by simpa using eu) (by simpa using ev) fun k Z2 pO2 j1 j2 pT szk kp=>wpAny_pure ⟨_,rfl,?_⟩) (F.args_zip_next_1 _))))
  refine wpAny_letOwnedTupleGo_zip (s:={s with heap:=k}) Z2 fun k' Z3 b3=>?_
  have hT:s.heap.objs.size≠z:=Nat.ne_of_gt (Heap.lt_size Z)
  have kp3:∀b o,b∉[z,ti,to,t1,t2]→s.heap.get? b=some o→k'.get? b=some o:=fun b o hb e=>by
   simp only[List.mem_cons,not_or,List.not_mem_nil,not_false_eq_true,and_true]at hb
   exact b3.extBut _ _ hb.1 (kp b o hb.1 hb.2.2.1 hb.2.2.2.1 hb.2.2.2.2 e)
  refine⟨.ref s.heap.objs.size,upd H s.heap.objs.size (.tup [x,y]),Dg (s:=s) (tk:=s.toks) I hf kp3 (Nat.le_refl _) ?_,rfl,⟨s.heap.objs.size,x,y,I.aP.fresh (Nat.le_refl _),rfl,rfl,?_,?_⟩,?_,?_⟩
  · refine⟨Nat.le_of_ble_eq_true rfl,[u,v],.cons ru (.cons rv .nil),?_⟩
    exact⟨_,b3.extBut _ _ hT pT,rfl,_,rfl⟩
  · intro xs' q'
    rw[ni I q' q1];exact ex
  · intro ys' q'
    rw[ni I q' q2];exact ey
  · refine⟨Z3,b3.extBut _ _ n1 (kp _ _ n1 n5 n6 n7 pI),⟨_,_,b3.extBut _ _ n2 pO2⟩,iR j1.1 fun o e=>b3.extBut _ _ n3 e,iR j2.1 fun o e=>b3.extBut _ _ n4 e⟩
  · intro b hb
    have:b≠s.heap.objs.size:=by
     obtain⟨o,e,_⟩:∃o,s.heap.get? b=some o∧True:=by
      simp only[List.mem_cons,List.not_mem_nil,or_false]at hb
      rcases hb with rfl|rfl|rfl|rfl|rfl
      · exact⟨_,Z,trivial⟩
      · exact⟨_,pI,trivial⟩
      · exact⟨_,pO,trivial⟩
      · obtain⟨o,e,_⟩:=hW i1;exact⟨o,e,trivial⟩
      · obtain⟨o,e,_⟩:=hW i2;exact⟨o,e,trivial⟩
     exact Nat.ne_of_lt (Heap.lt_size e)
    rw[aE this]
    exact(hf b hb).1
 done:=by
  intro X hP hw hK hc i pins s σ H E I hf st hg
  subst hP hw hK
  obtain⟨Z,pI,⟨a,b',pO⟩,i1,i2⟩:=st
  obtain⟨xs,ys,q1,q2,he⟩:=hg
  obtain⟨us,r1,l1⟩:=fU I q1
  obtain⟨vs,r2,l2⟩:=fU I q2
  have e1:=r1.length
  have e2:=r2.length
  have m1:=D.a1
  have m2:=D.a2
  simp only[List.mem_cons,not_or,List.not_mem_nil,not_false_eq_true,and_true]at m1 m2
  have tz:s.TypeIs (.ref z) "zip":=⟨_,Z,rfl⟩
  unfold pyNext
  refine wpAny_bind (wpAny_attempt (wpAny_callSpecial?_slot (name:=Str.ofString "__next__") tz F.slot_zip_next (wpAny_call_entry F.slot_zip_next tz F.entry_zip_next (Cr (I.ok.hd hc) D (ka k1 t1 a1 m1.2.2.2.1 us.toArray) (ka k2 t2 a2 m2.2.2.2.2 vs.toArray) Z pI pO ⟨i1,l1⟩ ⟨i2,l2⟩ ?_ fun k e kp hx=>?_) (F.args_zip_next_1 _))))
  · rcases he with h|h
    · left;simp;omega
    · right;simp;omega
  · obtain⟨o,ho,hc2⟩:=hx
    refine wpAny_bind (wpAny_isInstance (T:="StopIteration") (b:=true) ⟨o,ho,hc2⟩ isSubtype_stop ?_)
    refine wpAny_pure ⟨rfl,CB (s:=s) (tk:=s.toks) I hf fun b o hb e=>?_⟩
    simp only[List.mem_cons,not_or,List.not_mem_nil,not_false_eq_true,and_true]at hb
    exact kp b o hb.1 hb.2.2.1 hb.2.2.2.1 hb.2.2.2.2 e
 self:=fun _ _ _ _ _ st h=>wpAny_pyIter_zip st.1 h
end L3
namespace L3
open PySem L2
open PySem.Spec hiding items?
open PyProof.Rows hiding St
noncomputable abbrev wq(h:Heap)(k1:SK)(a1:Addr):Heap:=h.push (mB k1 a1)
noncomputable abbrev tH(h:Heap)(k1 k2:SK)(a1 a2:Addr):Heap:=(wq h k1 a1).push (mB k2 a2)
noncomputable abbrev C1(h:Heap)(k1 k2:SK)(a1 a2:Addr):Heap:=(tH h k1 k2 a1 a2).push {cls:= .type "tuple",data:= .seq #[.ref h.objs.size,.ref (wq h k1 a1).objs.size]}
noncomputable abbrev Dc(h:Heap)(k1 k2:SK)(a1 a2:Addr):Heap:=(C1 h k1 k2 a1 a2).push {cls:= .type "tuple",data:= .seq #[.none,.none]}
noncomputable abbrev xj(h:Heap)(k1 k2:SK)(a1 a2:Addr):Heap:=(Dc h k1 k2 a1 a2).push {cls:= .type "zip",data:= .fields #[.none,.bool false,.bool false,.ref (tH h k1 k2 a1 a2).objs.size,.ref (C1 h k1 k2 a1 a2).objs.size]}
theorem Af(k1 k2:SK)(a1 a2:Addr)(us vs:Array Value):Meets (Builtin.«zip.__new__» ⟨[.type "zip",.ref a1,.ref a2],[]⟩) (fun _ R s=>gE k1 s.heap a1 us∧gE k2 s.heap a2 vs∧
 R (.ok (.ret (.ref (Dc s.heap k1 k2 a1 a2).objs.size))) {s with heap:=xj s.heap k1 k2 a1 a2}):=
 .of_wp fun P w A R s h=>by
  obtain⟨hp,g,d,tk,os⟩:=s
  obtain⟨c1,c2,h⟩:=h
  have hsub:=sub_zip
  have L1:gE k1 (Shared.heap ⟨hp,g,d,tk,os⟩) a1 us:=c1
  have L2:gE k2 (Shared.heap ⟨hp.push (mB k1 a1),g,d,tk,os⟩) a2 vs:=gE.push c2 _
  wp_walk using oy L1,oy L2
  exact⟨_,rfl,h⟩
theorem Bt{P:Program}{w:World}{A:Around}{s:Shared}{E:Value→Shared→Prop}{k1 k2:SK}{a1 a2:Addr}{us vs:Array Value}{Q:Value→Shared→Prop}(c1:gE k1 s.heap a1 us)(c2:gE k2 s.heap a2 vs)
 (q:∀g n,n=s.heap.objs.size→IsZip g (n+4) (n+2) (n+3) .none→IsPair g (n+2) (.ref n) (.ref (n+1))→IsPair g (n+3) .none .none→lO k1 n a1 0 g→lO k2 (n+1) a2 0 g→(∀c o,s.heap.get? c=some o→g.get? c=some o)→Q (.ref (n+4)) {s with heap:=g}):
 wpAny (model P w) A (call (.type "zip") [.ref a1,.ref a2]) Q E s:=by
 refine callType_new F.called_zip (by decide) (F.typeCall_zip_2 _ _) (F.newCall_zip_2 _ _) (fun ob=>F.args_object_init_3 ob _ _) F.entry_zip_new (Af k1 k2 a1 a2 us vs) ⟨c1,c2,?_⟩
 have y1:(wq s.heap k1 a1).objs.size=s.heap.objs.size+1:=Heap.size_push ..
 have y2:(tH s.heap k1 k2 a1 a2).objs.size=s.heap.objs.size+2:=by rw[Heap.size_push,y1]
 have y3:(C1 s.heap k1 k2 a1 a2).objs.size=s.heap.objs.size+3:=by rw[Heap.size_push,y2]
 have y4:(Dc s.heap k1 k2 a1 a2).objs.size=s.heap.objs.size+4:=by rw[Heap.size_push,y3]
 have e5:(xj s.heap k1 k2 a1 a2).get? (Dc s.heap k1 k2 a1 a2).objs.size=some _:=Heap.get?_push_size _ rfl
 have e4:(xj s.heap k1 k2 a1 a2).get? (C1 s.heap k1 k2 a1 a2).objs.size=some _:=Heap.get?_push_of_some _ (Heap.get?_push_size _ rfl)
 have e3:(xj s.heap k1 k2 a1 a2).get? (tH s.heap k1 k2 a1 a2).objs.size=some _:=Heap.get?_push_of_some _ (Heap.get?_push_of_some _ (Heap.get?_push_size _ rfl))
 have e2:(xj s.heap k1 k2 a1 a2).get? (wq s.heap k1 a1).objs.size=some (mB k2 a2):=Heap.get?_push_of_some _ (Heap.get?_push_of_some _ (Heap.get?_push_of_some _ (Heap.get?_push_size _ (by cases k2<;>rfl))))
 have e1:(xj s.heap k1 k2 a1 a2).get? s.heap.objs.size=some (mB k1 a1):=Heap.get?_push_of_some _ (Heap.get?_push_of_some _ (Heap.get?_push_of_some _ (Heap.get?_push_of_some _ (Heap.get?_push_size _ (by cases k1<;>rfl)))))
 show _∧_
 rw[y2,y3,y4]at e5
 rw[y1,y2]at e3
 rw[y3]at e4
 rw[y1]at e2
 rw[y4]
 exact⟨⟨_,e5,rfl⟩,q _ _ rfl e5 e3 e4 (m9 (h:=s.heap) e1) (m9 (h:=s.heap) e2) fun c o x=>Heap.get?_push_of_some _ (Heap.get?_push_of_some _ (Heap.get?_push_of_some _ (Heap.get?_push_of_some _ (Heap.get?_push_of_some _ x))))⟩
noncomputable def xH:D→SK
 | .tup _=> .t
 |_=> .l
noncomputable def vh(k:SK)(G:Hp)(a:Addr)(vs:List V):Prop:=match k with
 | .l=>Rd G a (.lst vs)
 | .t=>G a=some (.tup vs)
theorem fq{K:PySem.W.Frag}{k:SK}{G F H:Hp}(P:cq G F H){a:Addr}{vs:List V}(h:vh k G a vs):jG k K H a vs:=by
 cases k
 · exact .inl (fY P h)
 · exact ia.of (P.get h)
theorem hO{α:List (Option Addr)}{H:Hp}{st:ag}{d:D}{v:V}{xs:List D}(S:aV α st H)(r:Rep α H d v)(e:items? st d=some xs):∃p vs,v= .ref p∧aG α H xs vs∧vh (xH d) H p vs:=by
 cases d<;>try(cases e;done)
 · unfold items? at e
   simp only at e
   split at e
   · rename_i ys q
     cases e
     obtain⟨a,ea,vs,h1,h2⟩:=S.gY q
     exact⟨a,vs,d8 ea r,h2,Rd.of h1⟩
   · cases e
 · cases e
   unfold Rep at r
   obtain⟨a,vs,rfl,_,h1,h2⟩:=r
   exact⟨a,vs,rfl,h2,h1⟩
 · cases e
   unfold Rep at r
   obtain⟨a,vs,rfl,_,h1,h2⟩:=r
   exact⟨a,vs,rfl,h2,h1⟩
noncomputable def fZ(xs ys:List D):List D:=(xs.zip ys).map fun p=> .tup [p.1,p.2]
theorem nF{xs ys:List D}:(fZ xs ys).length=min xs.length ys.length:=by unfold fZ;simp
theorem qp{xs ys:List D}{n:Nat}{d:D}(e:(fZ xs ys)[n]?=some d):∃x y,xs[n]?=some x∧ys[n]?=some y∧d= .tup [x,y]:=by
 unfold fZ at e
 rw[List.getElem?_map]at e
 cases q:(xs.zip ys)[n]? with
 |none=>rw[q]at e;cases e
 |some p=>
  rw[q]at e
  cases e
  rw[List.getElem?_zip_eq_some]at q
  exact⟨p.1,p.2,q.1,q.2,rfl⟩
theorem Hy{K:PySem.W.Frag}{k1 k2:SK}{a1 a2:Addr}{α:List (Option Addr)}{G:Hp}{ok:ag→Prop}{xs ys:List D}
 (h:∀α' G' st',Step α G α' G'→aV α' st' G'→ok st'→∃vs ws,vh k1 G' a1 vs∧vh k2 G' a2 ws∧aG α' G' xs vs∧aG α' G' ys ws):qP (KD K k1 k2 a1 a2) α G ok (fZ xs ys) where
 stop:=fun n α' G' F' H' st' s P S o hn=>by
  obtain⟨vs,ws,h1,h2,r1,r2⟩:=h α' G' st' s S o
  rw[nF]at hn
  refine⟨vs,ws,fq P h1,fq P h2,?_⟩
  have:=r1.length
  have:=r2.length
  omega
 go:=fun n d α' G' F' H' st' s P S o hn=>by
  obtain⟨vs,ws,h1,h2,r1,r2⟩:=h α' G' st' s S o
  obtain⟨x,y,ex,ey,rfl⟩:=qp hn
  obtain⟨v,ev,_⟩:=r1.get ex
  obtain⟨u,eu,_⟩:=r2.get ey
  exact⟨vs,ws,v,u,fq P h1,fq P h2,ev,eu⟩
 mj:=fun n d α' G' F' H' st' x H'' s P S o hn y=>by
  obtain⟨vs,ws,h1,h2,r1,r2⟩:=h α' G' st' s S o
  obtain⟨c,e,ec,ee,rfl⟩:=qp hn
  obtain⟨T,v,u,hT,rfl,rfl,y1,y2⟩:=y
  obtain⟨v',ev,rv⟩:=r1.get ec
  obtain⟨u',eu,ru⟩:=r2.get ee
  rw[y1 vs (fq P h1)]at ev
  rw[y2 ws (fq P h2)]at eu
  cases ev
  cases eu
  have hg:=(P.none hT).1
  refine⟨upd G' T (.tup [v,u]),Step.laid hg,P.laid hT,S.laid hg,?_⟩
  unfold Rep
  refine⟨T,[v,u],rfl,S.mv hg,bw,?_⟩
  unfold aG
  refine⟨v,[u],rfl,rv.step (Step.laid hg),?_⟩
  unfold aG
  exact⟨u,[],rfl,ru.step (Step.laid hg),by unfold aG;rfl⟩
noncomputable def B5(ds:List D)(st1:ag)(K:List D→(ag→Prop)→ag→Prop):Prop:=match ds with
 | [x,y]=>(match items? st1 x,items? st1 y with
   |some xs,some ys=>K (fZ xs ys) (fun st'=>items? st' x=some xs∧items? st' y=some ys) st1
   |_,_=>False)
 |_=>False
@[irreducible] noncomputable def qZ:List D→ag→(List D→(ag→Prop)→ag→Prop)→Prop:=B5
noncomputable def oq(t:DA):DI:=fun σ st K=>t σ st fun ds st1=>qZ ds st1 K
theorem EU{n a1 a2:Nat}(h1:a1<n)(h2:a2<n):xI (n+4) (n+2) (n+3) n (n+1) a1 a2:=by
 have e0:([n+4,n+2,n+3,n,n+1]:List Nat).Nodup:=by
  simp only[List.nodup_cons,List.mem_cons,not_or,List.not_mem_nil,not_false_eq_true,and_true,List.nodup_nil]
  omega
 have e1:∀a:Nat,a<n→a∉([n+4,n+2,n+3,n,n+1]:List Nat):=fun a ha=>by
  simp only[List.mem_cons,not_or,List.not_mem_nil,not_false_eq_true,and_true]
  omega
 exact⟨e0,e1 a1 h1,e1 a2 h2⟩
theorem Hg{X:Cx}{a b:Expr}{elts:List Expr}{kx:Nat}{tpos p pos:Pos}{t:DA}(hg:Gl X "zip")(hm:X.mg "zip"=none)(ha:PA X [a,b] (LA t))(hs:starEach [a,b] X.env=[(false,eval a X.env),(false,eval b X.env)])(hs2:starEach [b] X.env=[(false,eval b X.env)]):
 PI X (.Tuple elts kx tpos) (.Call (.Name "zip" p) [a,b] [] pos) (LI (oq t)):=by
 intro pins s σ H R I h
 obtain⟨α,σd,st,K,G,F,P,RS,S,t,k⟩:=h
 refine Call_ (kq I hg hm boot_zip (PyProof.Rows.callWith_type1 (bD (ha pos pins s σ H (fun vs H1=>∃ds α1 G1 st1,Step α G α1 G1∧cq G1 F H1∧aV α1 st1 G1∧aG α1 G1 ds vs∧qZ ds st1 K) I ⟨α,σd,st,_,G,F,P,RS,S,t,fun ds st1 q α1 G1 H1 vs s1 P1 S1 r1=>⟨ds,α1,G1,st1,s1,P1,S1,r1,q⟩⟩) fun us s1 ⟨vs,H1,I1,rv,ds,α1,G1,st1,w1,P1,S1,r1,q⟩=>?_) (by rw[hs,hs2]) (by rw[hs2];rfl)))
 unfold qZ B5 at q
 split at q
 · rename_i x y
   split at q
   · rename_i xs ys ex ey
     obtain⟨v1,v2,rfl,q1,q2⟩:=ma r1 rfl
     obtain⟨p1,vs1,rfl,g1,c1⟩:=hO S1 q1 ex
     obtain⟨p2,vs2,rfl,g2,c2⟩:=hO S1 q2 ey
     obtain⟨u1,u2,rfl,ru1,ru2⟩:=vals2 rv
     cases ru1
     cases ru2
     obtain⟨its1,_,l1⟩:=fU I1 (fq P1 c1)
     obtain⟨its2,_,l2⟩:=fU I1 (fq P1 c2)
     refine Bt l1 l2 fun g n hn Z pI pO i1 i2 kp=>?_
     obtain⟨o1,eo1⟩:=l1.some
     obtain⟨o2,eo2⟩:=l2.some
     refine wpAny_pyIter_zip (s:={s1 with heap:=g}) Z ?_
     refine⟨n+4,[n+4,n+2,n+3,n,n+1],_,_,H1,rfl,I1.kept (t':=s1.toks) kp,Cj (xH x) (xH y) (EU (by rw[hn];exact Heap.lt_size eo1) (by rw[hn];exact Heap.lt_size eo2)),⟨Z,pI,⟨_,_,pO⟩,i1,i2⟩,fun b hb=>?_,?_⟩
     · have hb':s1.heap.objs.size≤b:=by
        simp only[List.mem_cons,List.not_mem_nil,or_false]at hb
        rcases hb with rfl|rfl|rfl|rfl|rfl<;>(rw[←hn];first|exact Nat.le_refl _|exact Nat.le_add_right _ _)
       exact I1.qz hb' (I1.aP.fresh hb')
     · refine k _ _ st1 q _ α1 G1 H1 w1 P1 S1 (Hy fun α' G' st' s' S' o=>?_)
       obtain⟨p1',ws1,e1,f1,d1⟩:=hO S' (q1.step s') o.1
       obtain⟨p2',ws2,e2,f2,d2⟩:=hO S' (q2.step s') o.2
       cases e1
       cases e2
       exact⟨ws1,ws2,d1,d2,f1,f2⟩
   · exact q.elim
 · exact q.elim
theorem om{st:ag}{x y:D}{xs ys:List D}{K:List D→(ag→Prop)→ag→Prop}(ex:items? st x=some xs)(ey:items? st y=some ys)(k:∀ok:ag→Prop,(∀st',items? st' x=some xs→items? st' y=some ys→ok st')→K (fZ xs ys) ok st):qZ [x,y] st K:=by
 unfold qZ B5
 simp only[ex,ey]
 exact k _ fun st' h1 h2=>⟨h1,h2⟩
theorem pN{X:Cx}{a b:Expr}{elts:List Expr}{kx:Nat}{tpos p pos:Pos}{ar:DA}(hg:Gl X "zip")(hm:X.mg "zip"=none)(ha:JA X [a,b] ar)(hs:notStar a=true:=by rfl)(hs2:notStar b=true:=by rfl):JI X (.Tuple elts kx tpos) (.Call (.Name "zip" p) [a,b] [] pos) (oq ar):=by
 unfold JI;unfold JA at ha;exact Hg hg hm ha (by rw[cB hs,cB hs2];rfl) (cB hs2)
end L3
namespace L3
open PySem L2
open PySem.Spec hiding items?
open PyProof.Rows hiding St
theorem uW(f:Nat→Int):∀n,preSum f (n+1)=f 0+preSum (fun i=>f (i+1)) n
 |0=>by show preSum f 0+f 0=f 0+0;show(0:Int)+f 0=f 0+0;omega
 |n+1=>by
  have h:=uW f n
  show preSum f (n+1)+f (n+1)=f 0+(preSum (fun i=>f (i+1)) n+f (n+1))
  rw[h];omega
theorem yb:∀ns:List Int,preSum (fun i=>ns.getD i 0) ns.length=ns.sum
 | []=>rfl
 |n::ns=>by
  rw[List.length_cons,uW]
  have:(fun i=>(n::ns).getD (i+1) 0)=fun i=>ns.getD i 0:=by funext i;simp
  rw[this,yb ns,List.sum_cons]
  rfl
section
variable {X:Cx}
noncomputable def uL:fE:=fun ds st K=>match ds with| [.lst xs]=>(match mm xs with|some ns=>K (.int ns.sum) st|none=>False)|_=>False
theorem mz:∀ {ns:List Int} {us:List Value},Vals (ns.map V.int) us→∀(i:Nat) (u:Value),us[i]?=some u→∃t,u=Value.int (ns.getD i 0) t
 | [],_,.nil,i,u,e=>by simp at e
 |n::ns,_,.cons h t,0,u,e=>by
  obtain⟨tk,rfl⟩:=h
  simp at e
  exact⟨tk,by rw[←e];rfl⟩
 |n::ns,_,.cons h t,i+1,u,e=>by
  obtain⟨tk,q⟩:=mz t i u (by simpa using e)
  exact⟨tk,by rw[q];simp⟩
theorem J5(hc:X.calm=true):bJ X (.builtin "sum") (gJ uL):=fun pins s σ H xs us Q I rs ⟨α,ds,st,K,G,F',P,r,S,q,k⟩=>by
 unfold uL at q
 split at q
 · rename_i ys
   split at q
   · rename_i ns e
     obtain⟨v,rfl,r1⟩:=iI r rfl
     unfold Rep at r1
     obtain⟨a,vs,rfl,na,h1,h2⟩:=r1
     obtain⟨u,rfl,ru⟩:=vals1 rs
     cases ru
     have hv:=tx h2 e
     subst hv
     obtain⟨z,its,n,rv,hl,eo⟩:=Inv.sv I (fY P h1)
     have isL:s.heap.IsList a its.toArray:=⟨_,eo,rfl,n,rfl⟩
     refine call_sum_walkAnyB (wpAny_pyIter_list isL ?_)
     have hne:a≠s.heap.objs.size:=Nat.ne_of_lt (Heap.lt_size eo)
     refine⟨s.heap.objs.size,_,_,_,_,_,_,fun i=>ns.getD i 0,rfl,(Walks.list (A:=X.A.in1) (I.ok.hd hc) _ a hne its.toArray).toS,⟨⟨_,Heap.get?_push_size _ rfl,rfl,rfl⟩,⟨_,Heap.get?_push_of_some _ eo,rfl,n,rfl⟩⟩,?_,?_,?_⟩
     · intro b hb
       rw[Heap.size_push]
       simp only[List.mem_cons,List.not_mem_nil,or_false]at hb
       rcases hb with rfl|rfl
       · exact Nat.lt_succ_self _
       · exact Nat.lt_succ_of_lt (Heap.lt_size eo)
     · intro i w hw
       obtain⟨t,e⟩:=mz rv i w (by simpa using hw)
       exact .inl ⟨t,e⟩
     · intro s' t' hm
       have kp:∀b o,s.heap.get? b=some o→s'.heap.get? b=some o:=fun b o q=>hm.heap b o (by
        intro hb
        have:b=s.heap.objs.size:=by simpa using hb
        exact absurd (Heap.lt_size q) (by rw[this];exact Nat.lt_irrefl _)) (Heap.get?_push_of_some _ q)
       have es:s'= {s with heap:=s'.heap,toks:=s'.toks}:=by
        have g:=hm.gens
        have d:=hm.drawn
        have o:=hm.os
        cases s'
        cases s
        simp_all
       have en:preSum (fun i=>ns.getD i 0) its.toArray.size=ns.sum:=by
        have:its.toArray.size=ns.length:=by rw[List.size_toArray,←hl,List.length_map]
        rw[this];exact yb ns
       rw[en,es]
       exact⟨.int ns.sum,H,I.kept (t':=s'.toks) kp,⟨t',rfl⟩,k.here P q S (by unfold Rep;rfl)⟩
   · exact q.elim
 · exact q.elim
@[irreducible] noncomputable def sN:fE:=uL
theorem CK(hc:X.calm=true):bJ X (.builtin "sum") (gJ sN):=by unfold sN;exact J5 hc
end
theorem ints_map:∀ns:List Int,mm (ns.map D.int)=some ns
 | []=>rfl
 |n::ns=>by simp[mm,ints_map ns]
theorem Ii{st:ag}{K:DK}{xs:List D}{ns:List Int}(h:mm xs=some ns)(k:K (.int ns.sum) st):sN [.lst xs] st K:=by unfold sN uL;simp only[h];exact k
end L3
namespace L3
open PySem L2
open PySem.Spec hiding items?
open PyProof.Rows hiding St
section
variable {X:Cx}{pos:Pos}
theorem yJ{α:List (Option Addr)}{H:Hp}{ds:List D}{xs:List V}{d e f:D}(r:aG α H ds xs)(q:ds=[d,e,f]):∃v u t,xs=[v,u,t]∧Rep α H d v∧Rep α H e u∧Rep α H f t:=by
 subst q
 unfold aG at r
 obtain⟨v,q,rfl,h1,h2⟩:=r
 obtain⟨u,t,rfl,h3,h4⟩:=ma h2 rfl
 exact⟨v,u,t,rfl,h1,h3,h4⟩
noncomputable def mQ(i j k:Nat):fN:=fun d σ=>match d with| .tup [x,y,z]=>some (((σ.set i (some x)).set j (some y)).set k (some z))|_=>none
theorem BX{tg:Expr}{i j k:Nat}(h:PG X tg (Cz X.K 3 (pC (i9 i) (pC (i9 j) (pC (i9 k) By))))):PG X tg (LG (mQ i j k)):=PG.imp h fun v σ H Q ⟨α,σd,st,d,K,G,F,P,R,S,r,⟨σ',e,q⟩,kk⟩=>by
 unfold mQ at e
 split at e
 · rename_i x y z
   cases e
   unfold Rep at r
   obtain⟨a,vs,rfl,na,h1,h2⟩:=r
   obtain⟨v1,v2,v3,rfl,r1,r2,r3⟩:=yJ h2 rfl
   exact⟨a,_,rfl,.of (P.get h1),rfl,v1,_,rfl,v2,_,rfl,v3,_,rfl,rfl,kk.here P q (((R.set i r1).set j r2).set k r3) S⟩
 · cases e
theorem CN{i j k n:Nat}{x y z:Str}{px py pz:Pos}(hc:X.calm=true)(hN:X.N.Nodup)(hx:Loc X.env.scope x)(hf:X.fn x=true∨X.env.scope.names.lookup x=some .local)(hy:Loc X.env.scope y)(hg:X.fn y=true∨X.env.scope.names.lookup y=some .local)(hz:Loc X.env.scope z)(hh:X.fn z=true∨X.env.scope.names.lookup z=some .local)
 (hi:X.N[i]?=some x:=by rfl) (hj:X.N[j]?=some y:=by rfl) (hk:X.N[k]?=some z:=by rfl):JG X (.Tuple [.Name x px,.Name y py,.Name z pz] n pos) (mQ i j k):=by
 unfold JG;exact BX (zB hc (lx (kZ hN hi hx hf) (lx (kZ hN hj hy hg) (lx (kZ hN hk hz hh) x6))))
end
end L3
namespace L3
open PySem L2 PySem.SeqAt
open PySem.Spec hiding items?
open PyProof.Rows hiding St
section
variable {X:Cx}{pins:List (Addr×Obj)}{σ:L2.St}{H:Hp}{s:Shared}{α:List (Option Addr)}
theorem xw{A:Around}{d e:D}{x y:V}{u v:Value}(hd:tG d=true)(he:tG e=true)(rd:Rep α H d x)(re:Rep α H e y)(rx:RelV x u)(ry:RelV y v):RcNeAt A s u v (!cT d e):=by
 cases d<;>cases e<;>try(first|(cases hd;done)|(cases he;done))
 all_goals(unfold Rep at rd re;subst rd re)
 all_goals(first|(obtain⟨t,rfl⟩:=rx;obtain⟨t',rfl⟩:=ry)|(obtain⟨t,rfl⟩:=rx;cases ry)|(cases rx;obtain⟨t,rfl⟩:=ry)|(cases rx;cases ry))
 all_goals unfold cT
 · exact RcNeAt.none_none
 · exact RcNeAt.none_bool _
 · exact RcNeAt.none_int _ _
 · exact RcNeAt.none_str _ _
 · exact RcNeAt.bool_none _
 · exact RcNeAt.bool_bool _ _
 · exact RcNeAt.bool_int _ _ _
 · exact RcNeAt.bool_str _ _ _
 · exact RcNeAt.int_none _ _
 · exact RcNeAt.int_bool _ _ _
 · exact RcNeAt.int_int _ _ _ _
 · exact RcNeAt.int_str _ _ _ _
 · exact RcNeAt.str_none _ _
 · exact RcNeAt.str_bool _ _ _
 · exact RcNeAt.str_int _ _ _ _
 · exact RcNeAt.str_str _ _ _ _
theorem tV(I:Inv X pins σ H s){A:Around}{xs:List D}{e:D}{x y:V}{u v:Value}(he:tG e=true)(rd:Rep α H (.lst xs) x)(re:Rep α H e y)(rx:RelV x u)(ry:RelV y v)(hu:A.units<cLine):
 RcNeAt A s u v (!cT (.lst xs) e)∧RcNeAt A s v u (!cT e (.lst xs)):=by
 obtain⟨a,vs,its,rfl,_,_,hl⟩:=lst_is I rd rx
 cases e<;>try(cases he;done)
 all_goals(unfold Rep at re;subst re)
 all_goals(first|(obtain⟨t,rfl⟩:=ry)|(cases ry))
 all_goals unfold cT
 · exact⟨RcNeAt.list_none hl hu,RcNeAt.none_list hl hu⟩
 · exact⟨RcNeAt.list_bool _ hl hu,RcNeAt.bool_list _ hl hu⟩
 · exact⟨RcNeAt.list_int _ _ hl hu,RcNeAt.int_list _ _ hl hu⟩
 · exact⟨RcNeAt.list_str _ _ hl hu,RcNeAt.str_list _ _ hl hu⟩
theorem tu(I:Inv X pins σ H s){A:Around}{xs:List D}{e:D}{x y:V}{u v:Value}(he:tG e=true)(rd:Rep α H (.tup xs) x)(re:Rep α H e y)(rx:RelV x u)(ry:RelV y v)(hu:A.units<cLine):
 RcNeAt A s u v (!cT (.tup xs) e)∧RcNeAt A s v u (!cT e (.tup xs)):=by
 obtain⟨a,vs,its,rfl,_,_,hl⟩:=tup_is I rd rx
 cases e<;>try(cases he;done)
 all_goals(unfold Rep at re;subst re)
 all_goals(first|(obtain⟨t,rfl⟩:=ry)|(cases ry))
 all_goals unfold cT
 · exact⟨RcNeAt.tuple_none hl hu,RcNeAt.none_tuple hl hu⟩
 · exact⟨RcNeAt.tuple_bool _ hl hu,RcNeAt.bool_tuple _ hl hu⟩
 · exact⟨RcNeAt.tuple_int _ _ hl hu,RcNeAt.int_tuple _ _ hl hu⟩
 · exact⟨RcNeAt.tuple_str _ _ hl hu,RcNeAt.str_tuple _ _ hl hu⟩
theorem IF(I:Inv X pins σ H s)(n:Nat)(A:Around)(d e:D)(x y:V)(u v:Value)(hd:pl n d=true)(he:pl n e=true)(rd:Rep α H d x)(re:Rep α H e y)(rx:RelV x u)(ry:RelV y v)(hu:A.units+n<cLine):RcNeAt A s u v (!cT d e):=by
 cases n with
 |zero=>
  refine xw ?_ ?_ rd re rx ry
  · cases d<;>first|rfl|(cases hd)
  · cases e<;>first|rfl|(cases he)
 |succ n=>
  have hu0:A.units<cLine:=by omega
  have hin:A.in1.units+n<cLine:=by rw[Around.in1_units];omega
  cases d<;>try(cases hd;done)
  case lst xs=>
   cases e<;>try(cases he;done)
   case lst ys=>
    obtain⟨a,vs,its,rfl,r1,v1,l1⟩:=lst_is I rd rx
    obtain⟨b,ws,jts,rfl,r2,v2,l2⟩:=lst_is I re ry
    have e1:=r1.length
    have e2:=v1.length
    have e3:=r2.length
    have e4:=v2.length
    unfold cT
    by_cases hlen:xs.length=ys.length
    · rw[lM hlen]
      have hsz:its.toArray.size=jts.toArray.size:=by simp only[List.size_toArray];omega
      have hx:xs.length=its.toArray.size:=by simp only[List.size_toArray];omega
      rw[hx]
      refine RcNeAt.lists l1 l2 hsz hu0 fun j h1 h2=>?_
      obtain⟨p,_,q1,q2⟩:=jj r1 v1 j (by simpa using h1)
      obtain⟨p',_,q1',q2'⟩:=jj r2 v2 j (by simpa using h2)
      exact(yz I n A.in1 _ _ p p' _ _ (ix (by unfold pl at hd;exact hd) j) (ix (by unfold pl at he;exact he) j) q1 q1' (by simpa using q2) (by simpa using q2') hin).2
    · rw[lH hlen]
      exact RcNeAt.lists_lengths l1 l2 (by simp only[List.size_toArray,bne_iff_ne,ne_eq];omega) hu0
   case tup ys=>
    obtain⟨a,vs,its,rfl,r1,v1,l1⟩:=lst_is I rd rx
    obtain⟨b,ws,jts,rfl,r2,v2,l2⟩:=tup_is I re ry
    unfold cT
    exact RcNeAt.list_tuple l1 l2 hu0
   all_goals exact(tV I rfl rd re rx ry hu0).1
  case tup xs=>
   cases e<;>try(cases he;done)
   case tup ys=>
    obtain⟨a,vs,its,rfl,r1,v1,l1⟩:=tup_is I rd rx
    obtain⟨b,ws,jts,rfl,r2,v2,l2⟩:=tup_is I re ry
    have e1:=r1.length
    have e2:=v1.length
    have e3:=r2.length
    have e4:=v2.length
    unfold cT
    have key:=RcNeAt.tuples (e:=fun j=>cT (xs.getD j .aH) (ys.getD j .aH)) l1 l2 hu0 fun j h1 h2=>by
     obtain⟨p,_,q1,q2⟩:=jj r1 v1 j (by simpa using h1)
     obtain⟨p',_,q1',q2'⟩:=jj r2 v2 j (by simpa using h2)
     exact(yz I n A.in1 _ _ p p' _ _ (ix (by unfold pl at hd;exact hd) j) (ix (by unfold pl at he;exact he) j) q1 q1' (by simpa using q2) (by simpa using q2') hin).2
    by_cases hlen:xs.length=ys.length
    · rw[lM hlen]
      have hsz:its.toArray.size=jts.toArray.size:=by simp only[List.size_toArray];omega
      have hx:xs.length=its.toArray.size:=by simp only[List.size_toArray];omega
      rw[hsz,Nat.min_self,beq_self_eq_true,Bool.and_true,←hsz,←hx]at key
      exact key
    · rw[lH hlen]
      have hne:(its.toArray.size==jts.toArray.size)=false:=by simp only[List.size_toArray,beq_eq_false_iff_ne,ne_eq];omega
      rw[hne,Bool.and_false]at key
      exact key
   case lst ys=>
    obtain⟨a,vs,its,rfl,r1,v1,l1⟩:=tup_is I rd rx
    obtain⟨b,ws,jts,rfl,r2,v2,l2⟩:=lst_is I re ry
    unfold cT
    exact RcNeAt.tuple_list l1 l2 hu0
   all_goals exact(tu I rfl rd re rx ry hu0).1
  all_goals
   cases e<;>try(cases he;done)
   case lst ys=>exact(tV I rfl re rd ry rx hu0).2
   case tup ys=>exact(tu I rfl re rd ry rx hu0).2
   all_goals exact xw rfl rfl rd re rx ry
noncomputable def FR:dG:=fun x y st K=>pl 40 x=true∧pl 40 y=true∧K (.bl (!cT x y)) st
theorem J_{k:Nat}(hr:dj k X.A):cc X (compareOp .NotEq) (LR FR):=fun pins s σ H x y v u Q I rx ry ⟨α,d,e,st,K,G,F',P,r1,r2,S,q,k⟩=>by
 have hu:=hr.units
 exact IF I 40 X.A d e x y v u q.1 q.2.1 (r1.mono P.same) (r2.mono P.same) rx ry (by omega) _ _ _ _ ⟨.bl (!cT d e),H,I,rfl,k.here P q.2.2 S (by unfold Rep;rfl)⟩
@[irreducible] noncomputable def oY:dG:=FR
theorem yI{k:Nat}(hr:dj k X.A):cc X (compareOp .NotEq) (LR oY):=by unfold oY;exact J_ hr
end
theorem Hz{st:ag}{K:DK}{d e:D}(h1:pl 40 d=true)(h2:pl 40 e=true)(k:K (.bl (!cT d e)) st):oY d e st K:=by unfold oY;exact⟨h1,h2,k⟩
theorem qI{st:ag}{K:DK}{d:D}(h:pl 40 d=true)(k:K (.bl false) st):oY d d st K:=Hz h h (by rw[qw 40 d h];exact k)
theorem tw{st:ag}{n:Nat}{xs:List D}(h:items? st (.ref n)=some xs):st[n]?=some (.lst xs):=by
 unfold items? at h
 simp only at h
 split at h
 · rename_i q;cases h;exact q
 · cases h
theorem EI{st:ag}{d:D}{xs:List D}{K:List D→(ag→Prop)→ag→Prop}(h:items? st d=some xs)(k:∀ok:ag→Prop,(∀st',items? st' d=some xs→ok st')→K xs ok st):mG d st K:=by
 cases d with
 |lst ys=>cases h;exact ED (k _ fun _ _=>trivial)
 |tup ys=>cases h;exact iJ (k _ fun _ _=>trivial)
 |ref n=>
  have e:=tw h
  unfold mG sQ
  simp only[e]
  exact k _ fun st' h'=>tw h'
 |_=>cases h
theorem nL{env:Env}:∀(l:List (Str×NameKind)) (x:Str),(l.lookup x=some .cell∨l.lookup x=some .free)→
 ((l.map fun(n,k)=>if(k== .free&&env.scope.kind== .function&&env.kindOf n==some .cell)then(n,.cell)else(n,k)).lookup x=some .cell∨(l.map fun(n,k)=>if(k== .free&&env.scope.kind== .function&&env.kindOf n==some .cell)then(n,.cell)else(n,k)).lookup x=some .free)
 | [],x,h=>by simp at h
 |(n,k)::l,x,h=>by
  rw[List.map_cons]
  dsimp only
  by_cases hx:x=n
  · subst hx
    rw[List.lookup_cons_self]at h
    split
    · rw[List.lookup_cons_self];exact .inl rfl
    · rw[List.lookup_cons_self];exact h
  · have hb:(x==n)=false:=by simpa using hx
    have e1:List.lookup x ((n,k)::l)=List.lookup x l:=by rw[List.lookup_cons,hb]
    rw[e1]at h
    have ih:=nL (env:=env) l x h
    split
    · rw[List.lookup_cons,hb];exact ih
    · rw[List.lookup_cons,hb];exact ih
theorem bT.yh{X0:Cx}{scope0 scope:Scope}{Nc0 Nc:List Str}{C:Addr}{s:Shared}{H:Hp}{ex:List Addr}{fr:List (Option Nat)}(h:rJ scope0 Nc0 scope Nc fr=true):bT (fV X0 scope0 Nc0 C s H ex) scope Nc fr:=by
 unfold rJ at h
 simp only[Bool.and_eq_true]at h
 obtain⟨⟨⟨⟨⟨h1,h2⟩,h3⟩,h4⟩,h5⟩,h6⟩:=h
 refine⟨by simpa using h1,fun x hx hk=>?_,fun x hx hk=>?_,fun x hx hk=>?_,by simpa using h5,fun i j x e1 e2=>?_⟩
 · have:=List.all_eq_true.mp h2 x hx
   rw[hk]at this
   simpa using this
 · have:=List.all_eq_true.mp h3 x hx
   rw[hk]at this
   simpa using this
 · have:=List.all_eq_true.mp h4 x hx
   rw[hk]at this
   have z:scope0.names.lookup x.1=some .cell∨scope0.names.lookup x.1=some .free:=by simpa using this
   exact nL _ _ z
 · have hi:i<fr.length:=(List.getElem?_eq_some_iff.mp e2).1
   have:=List.all_eq_true.mp h6 i (List.mem_range.mpr hi)
   rw[e1,e2]at this
   simp only[Bool.and_eq_true,Bool.or_eq_true,beq_iff_eq]at this
   exact⟨this.1.1,this.1.2,nL _ _ this.2⟩
end L3
namespace L3
open PySem L2
open PySem.Spec hiding items?
open PyProof.Rows hiding St
section
variable {X:Cx}
end
theorem Ax{n:Nat}{d:D}(h:d∈dN 0 n):∃i:Nat,i<n∧d= .int (i:Int):=by
 unfold dN at h
 obtain⟨i,hi,rfl⟩:=List.mem_map.mp h
 rw[List.mem_range]at hi
 exact⟨i,hi,by rw[Int.zero_add]⟩
theorem Ab{f:Nat→D}(n:Nat):(dN 0 n).map (fun d=>match d with| .int i=>f i.toNat|_=> .aH)=(List.range n).map f:=by
 unfold dN
 rw[List.map_map]
 refine List.map_congr_left fun i _=>?_
 show f ((0:Int)+(i:Int)).toNat=f i
 have:((0:Int)+(i:Int)).toNat=i:=by omega
 rw[this]
theorem gQ{tg:fN}{te:DE}{σc:bR}{st:ag}{K:List D→ag→Prop}(f:Nat→D)(n:Nat)(hx:∀i:Nat,i<n→∀K',K' (f i) st→∃σ2,tg (.int (i:Int)) σc=some σ2∧te σ2 st K')(k:K ((List.range n).map f) st):dZ tg cQ te (fun _=>True) σc (dN 0 n) [] st K:=by
 refine comp_map (g:=fun d=>match d with| .int i=>f i.toNat|_=> .aH) trivial _ (fun d hd K' q=>?_) (by rw[Ab];exact k)
 obtain⟨i,hi,rfl⟩:=Ax hd
 exact hx i hi K' q
theorem ib{tg:fN}{body:DS}{E:jb}(n:Nat)(I:Nat→bR→ag→Prop)(hend:∀σ st,I n σ st→E.nx σ st)
 (hstep:∀(j:Nat) σ st (rest:List D),j<n→I j σ st→(∀σ' st',I (j+1) σ' st'→iB tg body (fun _=>True) E rest σ' st')→∃σ1,tg (.int (j:Int)) σ=some σ1∧body {E with nx:=iB tg body (fun _=>True) E rest,ct:=iB tg body (fun _=>True) E rest,bk:=E.nx} σ1 st)
 {σ:bR} {st:ag} (h0:I 0 σ st):iB tg body (fun _=>True) E (dN 0 n) σ st:=by
 refine gi (fun rest σ st=>∃j:Nat,j≤n∧rest=(List.range (n-j)).map (fun i=>D.int (((j+i:Nat):Int)))∧I j σ st) ?_ ?_ _ _ _ ⟨0,Nat.zero_le _,by unfold dN;simp,h0⟩
 · rintro σ st ⟨j,hj,hr,hI⟩
   have:n-j=0:=by
    cases q:n-j with
    |zero=>rfl
    |succ m=>rw[q,List.range_succ_eq_map]at hr;cases hr
   have hjn:j=n:=by omega
   subst hjn
   exact⟨trivial,hend σ st hI⟩
 · rintro d rest σ st ⟨j,hj,hr,hI⟩ next
   cases q:n-j with
   |zero=>rw[q]at hr;cases hr
   |succ m=>
    rw[q,List.range_succ_eq_map,List.map_cons,List.map_map]at hr
    simp only[List.cons.injEq]at hr
    obtain⟨rfl,hrest⟩:=hr
    refine⟨trivial,hstep j σ st rest (by omega) hI fun σ' st' h'=>next σ' st' ⟨j+1,by omega,?_,h'⟩⟩
    have:n-(j+1)=m:=by omega
    rw[this,hrest]
    refine List.map_congr_left fun i _=>?_
    show D.int (((j+(i+1):Nat):Int))=D.int (((j+1+i:Nat):Int))
    congr 2;omega
end L3
namespace L3
open PySem L2
open PySem.Spec hiding items?
open PyProof.Rows hiding St
section
variable {X:Cx}
end
section
variable {X:Cx}{pos:Pos}
end
end L3
namespace L3
open PySem L2
open PySem.Spec hiding items?
open PyProof.Rows hiding St
section
variable {X:Cx}
end
section
variable {st:ag}{K:DK}{d:D}{b:Bool}
end
end L3
namespace L3
open PySem L2
open PySem.Spec hiding items?
open PyProof.Rows hiding St
section
variable {X:Cx}
end
end L3
namespace L3
open PySem L2
open PySem.Spec hiding items?
open PyProof.Rows hiding St
open AutoSeq1 (wpAny_loadPart')
end L3
namespace L3
open PySem L2
open PySem.Spec hiding items?
open PyProof.Rows hiding St
section
variable {prog:Program}{w:World}{A:Around}{E:Value→Shared→Prop}{s:Shared}
end
section
variable {X:Cx}{tg:Expr}
end
end L3
namespace L3
open PySem L2
open PySem.Spec hiding items?
open PyProof.Rows hiding St
section
variable {X:Cx}
end
end L3
namespace L3
open PySem L2
open PySem.Spec hiding items?
open PyProof.Rows hiding St
section
variable {X:Cx}
noncomputable def CQ:dG:=fun x y st K=>match x,y with
 | .lst xs,.lst ys=>xs.length+ys.length≤sizeLine∧K (.ref st.length) (st++[.lst (xs++ys)])
 |_,_=>False
theorem Il:cc X (binaryOp .Add) (LR CQ):=fun pins s σ H x y v u Q I rx ry ⟨α,d,e,st,K,G,F',P,r1,r2,S,q,k⟩=>by
 cases d<;>cases e<;>try exact q.elim
 unfold Rep at r1 r2
 obtain⟨a,vs,rfl,na,ha,ra⟩:=r1
 obtain⟨b,ws,rfl,nb,hb,rb⟩:=r2
 refine sU pins s σ H _ _ v u Q I rx ry ⟨a,b,vs,ws,rfl,rfl,fY P ha,fY P hb,by rw[←ra.length,←rb.length];exact q.1,fun p hp=>?_⟩
 exact k.new P q.2 S (aR.mpr (eQ (aR.mp ra) (aR.mp rb))) hp
@[irreducible] noncomputable def nH:dG:=CQ
theorem wm:cc X (binaryOp .Add) (LR nH):=by unfold nH;exact Il
end
theorem sH{st:ag}{K:DK}{xs ys:List D}(h:xs.length+ys.length≤sizeLine)(k:K (.ref st.length) (st++[.lst (xs++ys)])):nH (.lst xs) (.lst ys) st K:=by unfold nH;exact⟨h,k⟩
end L3
namespace L3
open PySem L2
open PySem.Spec hiding items?
open PyProof.Rows hiding St
open PySem PySem.Spec L2 PySem.SeqAt
section
variable {X:Cx}
end
end L3
namespace L3
open PySem L2
open PySem.Spec hiding items?
open PyProof.Rows hiding St
section
variable {X:Cx}
theorem E1{k:Nat}{x:Str}{e:Expr}{te:DE}{pos pos':Pos}(hN:X.N.Nodup)(hx:Loc X.env.scope x)(he:JE X e te)(hsw:swapsWith e (some (.Name x pos')) pos.line X.env=pure false:=by rfl)(hf:X.fn x=true∨X.env.scope.names.lookup x=some .local:=by first|exact .inl rfl|exact .inr rfl)(hi:X.N[k]?=some x:=by rfl):JS X (.Assign [.Name x pos'] e pos) (bg k te):=by
 unfold JS;unfold JE at he;exact Bc (AX hN hi hx he hsw hf)
end
end L3
namespace L3
open PySem L2
open PySem.Spec hiding items?
open PyProof.Rows hiding St
section
variable {X:Cx}
end
section
variable {X:Cx}
end
end L3
namespace L3
open PySem L2
open PySem.Spec hiding items?
open PyProof.Rows hiding St
section
variable {X:Cx}
end
end L3
namespace L3
open PySem L2
open PySem.Spec hiding items?
open PyProof.Rows hiding St
section
variable {X:Cx}
end
end L3
namespace L3
open PySem L2
open PySem.Spec hiding items?
open PyProof.Rows hiding St
noncomputable abbrev eZ(h:Heap)(T:Addr)(a b c:Value):Prop:=h.get? T=some {cls:= .type "tuple",data:= .seq #[a,b,c]}
section
variable {P:Program}{w:World}
theorem eX{A:Around}{s:Shared}{E:Value→Shared→Prop}{T:Addr}{a b c x:Value}{k:Nat}{Q:Unit→Shared→Prop}(hT:eZ s.heap T a b c)
 (h:∀h',h'.get? T=some {cls:= .type "tuple",data:= .seq ((#[a,b,c]:Array Value).setIfInBounds k x)}→Heap.SameBut T s.heap h'→Q () {s with heap:=h'}):
 wpAny (model P w) A (updateSeq T (·.setIfInBounds k x)) Q E s:=by
 refine wpAny_updateSeq hT rfl (h _ ?_ (Heap.SameBut.update ..))
 rw[Heap.get?_update_self _ hT rfl]
 simp[Obj.mapSeq]
structure Df(z ti to t1 t2 t3 a1 a2 a3:Nat):Prop where
 f:(ti≠z∧to≠z∧t1≠z∧t2≠z∧t3≠z)∧(ti≠to∧ti≠t1∧ti≠t2∧ti≠t3)∧(to≠t1∧to≠t2∧to≠t3)∧(t1≠t2∧t1≠t3∧t2≠t3)
 a1:a1≠z∧a1≠to∧a1≠t1∧a1≠t2∧a1≠t3
 a2:a2≠z∧a2≠to∧a2≠t1∧a2≠t2∧a2≠t3
 a3:a3≠z∧a3≠to∧a3≠t1∧a3≠t2∧a3≠t3
section
variable {z ti to t1 t2 t3 a1 a2 a3:Addr}
theorem zO{A:Around}{s:Shared}{E:Value→Shared→Prop}{J1 J2 J3:Nat→Heap→Prop}{us vs ws:Array Value}{n:Nat}{x y u a b c:Value}{Q:Value→Shared→Prop}(D:Df z ti to t1 t2 t3 a1 a2 a3)(S1:Src P w t1 a1 J1 us)(S2:Src P w t2 a2 J2 vs)(S3:Src P w t3 a3 J3 ws)
 (Z:IsZip s.heap z ti to .none) (pI:eZ s.heap ti (.ref t1) (.ref t2) (.ref t3)) (pO:eZ s.heap to a b c) (j1:J1 n s.heap) (j2:J2 n s.heap) (j3:J3 n s.heap) (ex:us[n]?=some x) (ey:vs[n]?=some y) (ez:ws[n]?=some u)
 (q:∀k,IsZip k z ti to (rawInt s.heap.objs.size)→eZ k to x y u→J1 (n+1) k→J2 (n+1) k→J3 (n+1) k→eZ k s.heap.objs.size x y u→k.objs.size=s.heap.objs.size+1→
   (∀c o,c≠z→c≠to→c≠t1→c≠t2→c≠t3→s.heap.get? c=some o→k.get? c=some o)→Q (.ref s.heap.objs.size) {s with heap:=k}):
 wpAny (model P w) A (Builtin.«zip.__next__» ⟨[.ref z],[]⟩) (fun fin s'=>∃v,fin= .done (.ret v)∧Q v s') E s:=by
 obtain⟨⟨n1,n2,n3,n4,n4'⟩,⟨n5,n6,n7,n7'⟩,⟨n8,n9,n9'⟩,n10,n11,n12⟩:=D.f
 obtain⟨p1,p2,p3,p4,p5⟩:=D.a1
 obtain⟨q1,q2,q3,q4,q5⟩:=D.a2
 obtain⟨r1,r2,r3,r4,r5⟩:=D.a3
 show wpAny _ _ (field (.ref z) 2 >>= _) _ _ _
 refine wpAny_bind (wpAny_field Z rfl (x:= .bool false) rfl ?_)
 show wpAny _ _ (field (.ref z) 3 >>= _) _ _ _
 refine wpAny_bind (wpAny_field Z rfl (x:= .ref ti) rfl ?_)
 refine wpAny_bind (wpAny_seqItems pI rfl ?_)
 show wpAny _ _ (Builtin.SmallTypes.ownedTupleIsFree (.ref z) >>= _) _ _ _
 refine wpAny_bind ?_
 unfold Builtin.SmallTypes.ownedTupleIsFree
 refine wpAny_bind (wpAny_field Z rfl (x:= .none) rfl (wpAny_pure ?_))
 simp only[if_true]
 refine wpAny_bind (wpAny_rule ?_)
 refine wpAny_bind (wpAny_field Z rfl (x:= .ref to) rfl ?_)
 refine wpAny_bind (wpAny_setField_rec Z (by simp) fun k1 Z1 b1=>?_)
 replace Z1:IsZip k1 z ti to .ellipsis:=Z1
 refine wpAny_bind ?_
 simp only[List.zipIdx_cons,List.zipIdx_nil,List.forIn_cons,List.forIn_nil]
 refine wpAny_bind (wpAny_bind (wpAny_onRaise ?_))
 show wpAny _ _ (Builtin.SmallTypes.nextOf (.ref t1) >>= _) _ _ _
 refine wpAny_bind (S1.nx n _ _ _ _ x (S1.ext j1 b1.extBut (Ne.symm n3) (Ne.symm p1)) ex fun k2 j1b b2=>wpAny_pure ?_)
 have pO2:eZ k2 to a b c:=b2.extBut _ _ n8 (b1.extBut _ _ n2 pO)
 refine wpAny_bind (wpAny_seqItems pO2 rfl ?_)
 refine wpAny_bind (eX pO2 fun k3 pO3 b3=>?_)
 replace pO3:eZ k3 to x b c:=pO3
 refine wpAny_bind (wpAny_letGo (wpAny_pure ?_))
 refine wpAny_bind (wpAny_bind (wpAny_onRaise ?_))
 show wpAny _ _ (Builtin.SmallTypes.nextOf (.ref t2) >>= _) _ _ _
 have j2c:J2 n k3:=S2.ext (S2.ext (S2.ext j2 b1.extBut (Ne.symm n4) (Ne.symm q1)) b2.extBut n10 (Ne.symm q3)) b3.extBut n9 (Ne.symm q2)
 refine wpAny_bind (S2.nx n _ _ _ _ y j2c ey fun k4 j2d b4=>wpAny_pure ?_)
 have pO4:eZ k4 to x b c:=b4.extBut _ _ n9 pO3
 refine wpAny_bind (wpAny_seqItems pO4 rfl ?_)
 refine wpAny_bind (eX pO4 fun k5 pO5 b5=>?_)
 replace pO5:eZ k5 to x y c:=pO5
 refine wpAny_bind (wpAny_letGo (wpAny_pure ?_))
 refine wpAny_bind (wpAny_bind (wpAny_onRaise ?_))
 show wpAny _ _ (Builtin.SmallTypes.nextOf (.ref t3) >>= _) _ _ _
 have j3c:J3 n k5:=S3.ext (S3.ext (S3.ext (S3.ext (S3.ext j3 b1.extBut (Ne.symm n4') (Ne.symm r1)) b2.extBut n11 (Ne.symm r3)) b3.extBut n9' (Ne.symm r2)) b4.extBut n12 (Ne.symm r4)) b5.extBut n9' (Ne.symm r2)
 refine wpAny_bind (S3.nx n _ _ _ _ u j3c ez fun k6 j3d b6=>wpAny_pure ?_)
 have pO6:eZ k6 to x y c:=b6.extBut _ _ n9' pO5
 refine wpAny_bind (wpAny_seqItems pO6 rfl ?_)
 refine wpAny_bind (eX pO6 fun k7 pO7 b7=>?_)
 replace pO7:eZ k7 to x y u:=pO7
 refine wpAny_bind (wpAny_letGo (wpAny_pure (wpAny_pure ?_)))
 refine wpAny_bind (wpAny_seqItems pO7 rfl ?_)
 refine wpAny_bind (wpAny_newTuple ?_)
 have sz:k7.objs.size=s.heap.objs.size:=by rw[b7.1,b6.1,b5.1,b4.1,b3.1,b2.1,b1.1]
 have kp7:∀c o,c≠z→c≠to→c≠t1→c≠t2→c≠t3→s.heap.get? c=some o→k7.get? c=some o:=fun c o c1 c2 c3 c4 c5 e=>b7.extBut _ _ c2 (b6.extBut _ _ c5 (b5.extBut _ _ c2 (b4.extBut _ _ c4 (b3.extBut _ _ c2 (b2.extBut _ _ c3 (b1.extBut _ _ c1 e))))))
 have Z7:IsZip k7 z ti to .ellipsis:=b7.extBut _ _ (Ne.symm n2) (b6.extBut _ _ (Ne.symm n4') (b5.extBut _ _ (Ne.symm n2) (b4.extBut _ _ (Ne.symm n4) (b3.extBut _ _ (Ne.symm n2) (b2.extBut _ _ (Ne.symm n3) Z1)))))
 have j1e:J1 (n+1) k7:=S1.ext (S1.ext (S1.ext (S1.ext (S1.ext j1b b3.extBut n8 (Ne.symm p2)) b4.extBut (Ne.symm n10) (Ne.symm p4)) b5.extBut n8 (Ne.symm p2)) b6.extBut (Ne.symm n11) (Ne.symm p5)) b7.extBut n8 (Ne.symm p2)
 have j2e:J2 (n+1) k7:=S2.ext (S2.ext (S2.ext j2d b5.extBut n9 (Ne.symm q2)) b6.extBut (Ne.symm n12) (Ne.symm q5)) b7.extBut n9 (Ne.symm q2)
 have j3e:J3 (n+1) k7:=S3.ext j3d b7.extBut n9' (Ne.symm r2)
 have ltz:z<k7.objs.size:=Heap.lt_size Z7
 show wpAny _ _ (Builtin.SmallTypes.ownedTupleHandOut (.ref z) (.ref k7.objs.size) >>= _) _ _ _
 refine wpAny_bind ?_
 unfold Builtin.SmallTypes.ownedTupleHandOut
 have Z8:IsZip (k7.push {cls:= .type "tuple",data:= .seq #[x,y,u]}) z ti to .ellipsis:=Heap.get?_push_of_some _ Z7
 refine wpAny_bind (wpAny_setField_rec Z8 (by simp) fun k9 Z9 b9=>?_)
 replace Z9:IsZip k9 z ti to (rawInt k7.objs.size):=Z9
 refine wpAny_setField_rec Z9 (by simp) fun k10 Z10 b10=>?_
 replace Z10:IsZip k10 z ti to (rawInt k7.objs.size):=Z10
 have up:∀c o,c≠z→k7.get? c=some o→k10.get? c=some o:=fun c o c1 e=>b10.extBut _ _ c1 (b9.extBut _ _ c1 (Heap.get?_push_of_some _ e))
 have pT:eZ k10 k7.objs.size x y u:=b10.extBut _ _ (Nat.ne_of_gt ltz) (b9.extBut _ _ (Nat.ne_of_gt ltz) (Heap.get?_push_size _ rfl))
 have sz10:k10.objs.size=k7.objs.size+1:=by rw[b10.1,b9.1,Heap.size_push]
 rw[sz]at Z10 pT sz10
 refine wpAny_pure ⟨_,rfl,?_⟩
 show Q (.ref k7.objs.size) _
 rw[sz]
 refine q k10 Z10 (up _ _ n2 pO7) (S1.fr _ _ _ j1e fun b hb o e=>up b o ?_ e) (S2.fr _ _ _ j2e fun b hb o e=>up b o ?_ e) (S3.fr _ _ _ j3e fun b hb o e=>up b o ?_ e) pT sz10 fun c o c1 c2 c3 c4 c5 e=>up c o c1 (kp7 c o c1 c2 c3 c4 c5 e)
 · rcases hb with rfl|rfl
   · exact n3
   · exact p1
 · rcases hb with rfl|rfl
   · exact n4
   · exact q1
 · rcases hb with rfl|rfl
   · exact n4'
   · exact r1
theorem Ck{A:Around}{s:Shared}{E:Value→Shared→Prop}{J1 J2 J3:Nat→Heap→Prop}{us vs ws:Array Value}{n:Nat}{a b c:Value}{Q:Fin→Shared→Prop}(hh:A.handled=none)(D:Df z ti to t1 t2 t3 a1 a2 a3)(S1:Src P w t1 a1 J1 us)(S2:Src P w t2 a2 J2 vs)(S3:Src P w t3 a3 J3 ws)
 (Z:IsZip s.heap z ti to .none) (pI:eZ s.heap ti (.ref t1) (.ref t2) (.ref t3)) (pO:eZ s.heap to a b c) (j1:J1 n s.heap) (j2:J2 n s.heap) (j3:J3 n s.heap) (he:us[n]?=none∨vs[n]?=none∨ws[n]?=none)
 (q:∀k e,(∀c o,c≠z→c≠to→c≠t1→c≠t2→c≠t3→s.heap.get? c=some o→k.get? c=some o)→(∃o,k.get? e=some o∧o.cls= .type "StopIteration")→E (.ref e) {s with heap:=k}):
 wpAny (model P w) A (Builtin.«zip.__next__» ⟨[.ref z],[]⟩) Q E s:=by
 obtain⟨⟨n1,n2,n3,n4,n4'⟩,⟨n5,n6,n7,n7'⟩,⟨n8,n9,n9'⟩,n10,n11,n12⟩:=D.f
 obtain⟨p1,p2,p3,p4,p5⟩:=D.a1
 obtain⟨q1,q2,q3,q4,q5⟩:=D.a2
 obtain⟨r1,r2,r3,r4,r5⟩:=D.a3
 show wpAny _ _ (field (.ref z) 2 >>= _) _ _ _
 refine wpAny_bind (wpAny_field Z rfl (x:= .bool false) rfl ?_)
 show wpAny _ _ (field (.ref z) 3 >>= _) _ _ _
 refine wpAny_bind (wpAny_field Z rfl (x:= .ref ti) rfl ?_)
 refine wpAny_bind (wpAny_seqItems pI rfl ?_)
 show wpAny _ _ (Builtin.SmallTypes.ownedTupleIsFree (.ref z) >>= _) _ _ _
 refine wpAny_bind ?_
 unfold Builtin.SmallTypes.ownedTupleIsFree
 refine wpAny_bind (wpAny_field Z rfl (x:= .none) rfl (wpAny_pure ?_))
 simp only[if_true]
 refine wpAny_bind (wpAny_rule ?_)
 refine wpAny_bind (wpAny_field Z rfl (x:= .ref to) rfl ?_)
 refine wpAny_bind (wpAny_setField_rec Z (by simp) fun k1 Z1 b1=>?_)
 replace Z1:IsZip k1 z ti to .ellipsis:=Z1
 refine wpAny_bind ?_
 simp only[List.zipIdx_cons,List.zipIdx_nil,List.forIn_cons,List.forIn_nil]
 refine wpAny_bind (wpAny_bind (wpAny_onRaise ?_))
 show wpAny _ _ (Builtin.SmallTypes.nextOf (.ref t1) >>= _) _ _ _
 have j1a:J1 n k1:=S1.ext j1 b1.extBut (Ne.symm n3) (Ne.symm p1)
 cases ex:us[n]? with
 |none=>
  refine wpAny_bind (S1.en n _ _ _ _ hh j1a ex fun k2 e b2 hx=>?_)
  obtain⟨oe,he1,he2⟩:=hx
  have Z2:IsZip k2 z ti to .ellipsis:=b2 _ _ (Ne.symm n3) Z1
  have hez:e≠z:=fun c=>by subst c;rw[Z2]at he1;cases he1;simp at he2
  refine wpAny_setField_rec Z2 (by simp) fun k3 _ b3=>q k3 e (fun c o c1 _ c3 _ _ f=>b3.extBut _ _ c1 (b2 _ _ c3 (b1.extBut _ _ c1 f))) ⟨oe,b3.extBut _ _ hez he1,he2⟩
 |some x=>
  refine wpAny_bind (S1.nx n _ _ _ _ x j1a ex fun k2 j1b b2=>wpAny_pure ?_)
  have pO2:eZ k2 to a b c:=b2.extBut _ _ n8 (b1.extBut _ _ n2 pO)
  refine wpAny_bind (wpAny_seqItems pO2 rfl ?_)
  refine wpAny_bind (eX pO2 fun k3 pO3 b3=>?_)
  replace pO3:eZ k3 to x b c:=pO3
  refine wpAny_bind (wpAny_letGo (wpAny_pure ?_))
  refine wpAny_bind (wpAny_bind (wpAny_onRaise ?_))
  show wpAny _ _ (Builtin.SmallTypes.nextOf (.ref t2) >>= _) _ _ _
  have j2c:J2 n k3:=S2.ext (S2.ext (S2.ext j2 b1.extBut (Ne.symm n4) (Ne.symm q1)) b2.extBut n10 (Ne.symm q3)) b3.extBut n9 (Ne.symm q2)
  cases ey:vs[n]? with
  |none=>
   refine wpAny_bind (S2.en n _ _ _ _ hh j2c ey fun k4 e b4 hx=>?_)
   obtain⟨oe,he1,he2⟩:=hx
   have Z4:IsZip k4 z ti to .ellipsis:=b4 _ _ (Ne.symm n4) (b3.extBut _ _ (Ne.symm n2) (b2.extBut _ _ (Ne.symm n3) Z1))
   have hez:e≠z:=fun c=>by subst c;rw[Z4]at he1;cases he1;simp at he2
   refine wpAny_setField_rec Z4 (by simp) fun k5 _ b5=>q k5 e (fun c o c1 c2 c3 c4 _ f=>b5.extBut _ _ c1 (b4 _ _ c4 (b3.extBut _ _ c2 (b2.extBut _ _ c3 (b1.extBut _ _ c1 f))))) ⟨oe,b5.extBut _ _ hez he1,he2⟩
  |some y=>
   have ez:ws[n]?=none:=by
    rcases he with h|h|h
    · rw[ex]at h;cases h
    · rw[ey]at h;cases h
    · exact h
   refine wpAny_bind (S2.nx n _ _ _ _ y j2c ey fun k4 j2d b4=>wpAny_pure ?_)
   have pO4:eZ k4 to x b c:=b4.extBut _ _ n9 pO3
   refine wpAny_bind (wpAny_seqItems pO4 rfl ?_)
   refine wpAny_bind (eX pO4 fun k5 pO5 b5=>?_)
   refine wpAny_bind (wpAny_letGo (wpAny_pure ?_))
   refine wpAny_bind (wpAny_bind (wpAny_onRaise ?_))
   show wpAny _ _ (Builtin.SmallTypes.nextOf (.ref t3) >>= _) _ _ _
   have j3c:J3 n k5:=S3.ext (S3.ext (S3.ext (S3.ext (S3.ext j3 b1.extBut (Ne.symm n4') (Ne.symm r1)) b2.extBut n11 (Ne.symm r3)) b3.extBut n9' (Ne.symm r2)) b4.extBut n12 (Ne.symm r4)) b5.extBut n9' (Ne.symm r2)
   refine wpAny_bind (S3.en n _ _ _ _ hh j3c ez fun k6 e b6 hx=>?_)
   obtain⟨oe,he1,he2⟩:=hx
   have Z6:IsZip k6 z ti to .ellipsis:=b6 _ _ (Ne.symm n4') (b5.extBut _ _ (Ne.symm n2) (b4.extBut _ _ (Ne.symm n4) (b3.extBut _ _ (Ne.symm n2) (b2.extBut _ _ (Ne.symm n3) Z1))))
   have hez:e≠z:=fun c=>by subst c;rw[Z6]at he1;cases he1;simp at he2
   refine wpAny_setField_rec Z6 (by simp) fun k7 _ b7=>q k7 e (fun c o c1 c2 c3 c4 c5 f=>b7.extBut _ _ c1 (b6 _ _ c5 (b5.extBut _ _ c2 (b4.extBut _ _ c4 (b3.extBut _ _ c2 (b2.extBut _ _ c3 (b1.extBut _ _ c1 f))))))) ⟨oe,b7.extBut _ _ hez he1,he2⟩
end
end
noncomputable def Gy(K:PySem.W.Frag)(k1 k2 k3:SK)(a1 a2 a3:Addr):It:=
 ⟨fun i H=>∃xs ys zs x y z,jG k1 K H a1 xs∧jG k2 K H a2 ys∧jG k3 K H a3 zs∧xs[i]?=some x∧ys[i]?=some y∧zs[i]?=some z,
  fun i H v H'=>∃T x y z,H T=none∧v= .ref T∧H'=upd H T (.tup [x,y,z])∧(∀xs,jG k1 K H a1 xs→xs[i]?=some x)∧(∀ys,jG k2 K H a2 ys→ys[i]?=some y)∧∀zs,jG k3 K H a3 zs→zs[i]?=some z,
  fun i H=>∃xs ys zs,jG k1 K H a1 xs∧jG k2 K H a2 ys∧jG k3 K H a3 zs∧(xs.length≤i∨ys.length≤i∨zs.length≤i)⟩
noncomputable def HY(z ti to t1 t2 t3 a1 a2 a3:Addr)(k1 k2 k3:SK)(i:Nat)(h:Heap):Prop:=IsZip h z ti to .none∧eZ h ti (.ref t1) (.ref t2) (.ref t3)∧(∃a b c,eZ h to a b c)∧lO k1 t1 a1 i h∧lO k2 t2 a2 i h∧lO k3 t3 a3 i h
theorem Ac{P:Program}{w:World}{K:PySem.W.Frag}{elts:List Expr}{kx:Nat}{pos:Pos}{z ti to t1 t2 t3 a1 a2 a3:Addr}(k1 k2 k3:SK)(D:Df z ti to t1 t2 t3 a1 a2 a3):
 Turn P w K (.Tuple elts kx pos) (Gy K k1 k2 k3 a1 a2 a3) [z,ti,to,t1,t2,t3] z (HY z ti to t1 t2 t3 a1 a2 a3 k1 k2 k3) where
 mem:=by simp
 obj:=fun i h st b hb=>by
  obtain⟨Z,pI,⟨a,b',c',pO⟩,i1,i2,i3⟩:=st
  simp only[List.mem_cons,List.not_mem_nil,or_false]at hb
  rcases hb with rfl|rfl|rfl|rfl|rfl|rfl
  · exact⟨_,Z,fun v e=>by cases e⟩
  · exact⟨_,pI,fun v e=>by cases e⟩
  · exact⟨_,pO,fun v e=>by cases e⟩
  · exact hW i1
  · exact hW i2
  · exact hW i3
 keep:=fun i h h' st k=>by
  obtain⟨Z,pI,⟨a,b',c',pO⟩,i1,i2,i3⟩:=st
  exact⟨k z (by simp) _ Z,k ti (by simp) _ pI,⟨a,b',c',k to (by simp) _ pO⟩,iR i1 (k t1 (by simp)),iR i2 (k t2 (by simp)),iR i3 (k t3 (by simp))⟩
 item:=by
  intro X hP hw hK hc i pins s σ H E I hf st hg
  subst hP hw hK
  obtain⟨Z,pI,⟨a,b',c',pO⟩,i1,i2,i3⟩:=st
  obtain⟨xs,ys,zs,x,y,zz,q1,q2,q3,ex,ey,ez⟩:=hg
  obtain⟨us,r1,l1⟩:=fU I q1
  obtain⟨vs,r2,l2⟩:=fU I q2
  obtain⟨ws,r3,l3⟩:=fU I q3
  obtain⟨u,eu,ru⟩:=r1.get ex
  obtain⟨v,ev,rv⟩:=r2.get ey
  obtain⟨wv,ew,rw'⟩:=r3.get ez
  obtain⟨⟨n1,n2,n3,n4,n4'⟩,⟨n5,n6,n7,n7'⟩,⟨n8,n9,n9'⟩,n10,n11,n12⟩:=D.f
  have tz:s.TypeIs (.ref z) "zip":=⟨_,Z,rfl⟩
  unfold pyNext
  refine wpAny_bind (wpAny_attempt (wpAny_callSpecial?_slot (name:=Str.ofString "__next__") tz F.slot_zip_next (wpAny_call_entry F.slot_zip_next tz F.entry_zip_next (zO D (ka k1 t1 a1 D.a1.2.2.1 us.toArray) (ka k2 t2 a2 D.a2.2.2.2.1 vs.toArray) (ka k3 t3 a3 D.a3.2.2.2.2 ws.toArray) Z pI pO ⟨i1,l1⟩ ⟨i2,l2⟩ ⟨i3,l3⟩ (x:=u) (y:=v) (u:=wv) (by simpa using eu) (by simpa using ev) (by simpa using ew) fun k Z2 pO2 j1 j2 j3 pT szk kp=>wpAny_pure ⟨_,rfl,?_⟩) (F.args_zip_next_1 _))))
  refine wpAny_letOwnedTupleGo_zip (s:={s with heap:=k}) Z2 fun k' Z3 b3=>?_
  have hT:s.heap.objs.size≠z:=Nat.ne_of_gt (Heap.lt_size Z)
  have kp3:∀b o,b∉[z,ti,to,t1,t2,t3]→s.heap.get? b=some o→k'.get? b=some o:=fun b o hb e=>by
   simp only[List.mem_cons,not_or,List.not_mem_nil,not_false_eq_true,and_true]at hb
   exact b3.extBut _ _ hb.1 (kp b o hb.1 hb.2.2.1 hb.2.2.2.1 hb.2.2.2.2.1 hb.2.2.2.2.2 e)
  refine⟨.ref s.heap.objs.size,upd H s.heap.objs.size (.tup [x,y,zz]),Dg (s:=s) (tk:=s.toks) I hf kp3 (Nat.le_refl _) ?_,rfl,⟨s.heap.objs.size,x,y,zz,I.aP.fresh (Nat.le_refl _),rfl,rfl,?_,?_,?_⟩,?_,?_⟩
  · refine⟨Nat.le_of_ble_eq_true rfl,[u,v,wv],.cons ru (.cons rv (.cons rw' .nil)),?_⟩
    exact⟨_,b3.extBut _ _ hT pT,rfl,_,rfl⟩
  · intro xs' q'
    rw[ni I q' q1];exact ex
  · intro ys' q'
    rw[ni I q' q2];exact ey
  · intro zs' q'
    rw[ni I q' q3];exact ez
  · refine⟨Z3,b3.extBut _ _ n1 (kp _ _ n1 n5 n6 n7 n7' pI),⟨_,_,_,b3.extBut _ _ n2 pO2⟩,iR j1.1 fun o e=>b3.extBut _ _ n3 e,iR j2.1 fun o e=>b3.extBut _ _ n4 e,iR j3.1 fun o e=>b3.extBut _ _ n4' e⟩
  · intro b hb
    have:b≠s.heap.objs.size:=by
     obtain⟨o,e,_⟩:∃o,s.heap.get? b=some o∧True:=by
      simp only[List.mem_cons,List.not_mem_nil,or_false]at hb
      rcases hb with rfl|rfl|rfl|rfl|rfl|rfl
      · exact⟨_,Z,trivial⟩
      · exact⟨_,pI,trivial⟩
      · exact⟨_,pO,trivial⟩
      · obtain⟨o,e,_⟩:=hW i1;exact⟨o,e,trivial⟩
      · obtain⟨o,e,_⟩:=hW i2;exact⟨o,e,trivial⟩
      · obtain⟨o,e,_⟩:=hW i3;exact⟨o,e,trivial⟩
     exact Nat.ne_of_lt (Heap.lt_size e)
    rw[L2.aE this]
    exact(hf b hb).1
 done:=by
  intro X hP hw hK hc i pins s σ H E I hf st hg
  subst hP hw hK
  obtain⟨Z,pI,⟨a,b',c',pO⟩,i1,i2,i3⟩:=st
  obtain⟨xs,ys,zs,q1,q2,q3,he⟩:=hg
  obtain⟨us,r1,l1⟩:=fU I q1
  obtain⟨vs,r2,l2⟩:=fU I q2
  obtain⟨ws,r3,l3⟩:=fU I q3
  have e1:=r1.length
  have e2:=r2.length
  have e3:=r3.length
  have tz:s.TypeIs (.ref z) "zip":=⟨_,Z,rfl⟩
  unfold pyNext
  refine wpAny_bind (wpAny_attempt (wpAny_callSpecial?_slot (name:=Str.ofString "__next__") tz F.slot_zip_next (wpAny_call_entry F.slot_zip_next tz F.entry_zip_next (Ck (I.ok.hd hc) D (ka k1 t1 a1 D.a1.2.2.1 us.toArray) (ka k2 t2 a2 D.a2.2.2.2.1 vs.toArray) (ka k3 t3 a3 D.a3.2.2.2.2 ws.toArray) Z pI pO ⟨i1,l1⟩ ⟨i2,l2⟩ ⟨i3,l3⟩ ?_ fun k e kp hx=>?_) (F.args_zip_next_1 _))))
  · rcases he with h|h|h
    · left;simp;omega
    · right;left;simp;omega
    · right;right;simp;omega
  · obtain⟨o,ho,hc2⟩:=hx
    refine wpAny_bind (wpAny_isInstance (T:="StopIteration") (b:=true) ⟨o,ho,hc2⟩ isSubtype_stop ?_)
    refine wpAny_pure ⟨rfl,CB (s:=s) (tk:=s.toks) I hf fun b o hb e=>?_⟩
    simp only[List.mem_cons,not_or,List.not_mem_nil,not_false_eq_true,and_true]at hb
    exact kp b o hb.1 hb.2.2.1 hb.2.2.2.1 hb.2.2.2.2.1 hb.2.2.2.2.2 e
 self:=fun _ _ _ _ _ st h=>wpAny_pyIter_zip st.1 h
end L3
namespace L3
open PySem L2
open PySem.Spec hiding items?
open PyProof.Rows hiding St
theorem td(a b c:Value):checkTypeCall "zip" ⟨[a,b,c],[]⟩=pure ():=by kernel_rfl
theorem t7(a b c:Value):checkBuiltinCall "zip.__new__" ⟨[.type "zip",a,b,c],[]⟩=pure ():=by kernel_rfl
theorem oP(a b c d:Value):argsOk "object.__init__" ⟨[a,b,c,d],[]⟩:=by
 unfold argsOk;rw[signature?_of (id:="object.__init__") (n:=['_','_','t','i','n','i','_','_']) (o:=['t','c','e','j','b','o']) (by kernel_rfl) F.owner_object];kernel_rfl
noncomputable abbrev Dp(h:Heap)(k1 k2 k3:SK)(a1 a2 a3:Addr):Heap:=(tH h k1 k2 a1 a2).push (mB k3 a3)
noncomputable abbrev C3(h:Heap)(k1 k2 k3:SK)(a1 a2 a3:Addr):Heap:=(Dp h k1 k2 k3 a1 a2 a3).push {cls:= .type "tuple",data:= .seq #[.ref h.objs.size,.ref (wq h k1 a1).objs.size,.ref (tH h k1 k2 a1 a2).objs.size]}
noncomputable abbrev CJ(h:Heap)(k1 k2 k3:SK)(a1 a2 a3:Addr):Heap:=(C3 h k1 k2 k3 a1 a2 a3).push {cls:= .type "tuple",data:= .seq #[.none,.none,.none]}
noncomputable abbrev wb(h:Heap)(k1 k2 k3:SK)(a1 a2 a3:Addr):Heap:=(CJ h k1 k2 k3 a1 a2 a3).push {cls:= .type "zip",data:= .fields #[.none,.bool false,.bool false,.ref (Dp h k1 k2 k3 a1 a2 a3).objs.size,.ref (C3 h k1 k2 k3 a1 a2 a3).objs.size]}
theorem yS(k1 k2 k3:SK)(a1 a2 a3:Addr)(us vs ws:Array Value):Meets (Builtin.«zip.__new__» ⟨[.type "zip",.ref a1,.ref a2,.ref a3],[]⟩) (fun _ R s=>gE k1 s.heap a1 us∧gE k2 s.heap a2 vs∧gE k3 s.heap a3 ws∧
 R (.ok (.ret (.ref (CJ s.heap k1 k2 k3 a1 a2 a3).objs.size))) {s with heap:=wb s.heap k1 k2 k3 a1 a2 a3}):=
 .of_wp fun P w A R s h=>by
  obtain⟨hp,g,d,tk,os⟩:=s
  obtain⟨c1,c2,c3,h⟩:=h
  have hsub:=sub_zip
  have L1:gE k1 (Shared.heap ⟨hp,g,d,tk,os⟩) a1 us:=c1
  have L2:gE k2 (Shared.heap ⟨hp.push (mB k1 a1),g,d,tk,os⟩) a2 vs:=gE.push c2 _
  have L3:gE k3 (Shared.heap ⟨(hp.push (mB k1 a1)).push (mB k2 a2),g,d,tk,os⟩) a3 ws:=gE.push (gE.push c3 _) _
  wp_walk using oy L1,oy L2,oy L3
  exact⟨_,rfl,h⟩
theorem zY{P:Program}{w:World}{A:Around}{s:Shared}{E:Value→Shared→Prop}{k1 k2 k3:SK}{a1 a2 a3:Addr}{us vs ws:Array Value}{Q:Value→Shared→Prop}(c1:gE k1 s.heap a1 us)(c2:gE k2 s.heap a2 vs)(c3:gE k3 s.heap a3 ws)
 (q:∀g n,n=s.heap.objs.size→IsZip g (n+5) (n+3) (n+4) .none→eZ g (n+3) (.ref n) (.ref (n+1)) (.ref (n+2))→eZ g (n+4) .none .none .none→lO k1 n a1 0 g→lO k2 (n+1) a2 0 g→lO k3 (n+2) a3 0 g→(∀c o,s.heap.get? c=some o→g.get? c=some o)→Q (.ref (n+5)) {s with heap:=g}):
 wpAny (model P w) A (call (.type "zip") [.ref a1,.ref a2,.ref a3]) Q E s:=by
 refine callType_new F.called_zip (by decide) (td _ _ _) (t7 _ _ _) (fun ob=>oP ob _ _ _) F.entry_zip_new (yS k1 k2 k3 a1 a2 a3 us vs ws) ⟨c1,c2,c3,?_⟩
 have y1:(wq s.heap k1 a1).objs.size=s.heap.objs.size+1:=Heap.size_push ..
 have y2:(tH s.heap k1 k2 a1 a2).objs.size=s.heap.objs.size+2:=by rw[Heap.size_push,y1]
 have y3:(Dp s.heap k1 k2 k3 a1 a2 a3).objs.size=s.heap.objs.size+3:=by rw[Heap.size_push,y2]
 have y4:(C3 s.heap k1 k2 k3 a1 a2 a3).objs.size=s.heap.objs.size+4:=by rw[Heap.size_push,y3]
 have y5:(CJ s.heap k1 k2 k3 a1 a2 a3).objs.size=s.heap.objs.size+5:=by rw[Heap.size_push,y4]
 have e6:(wb s.heap k1 k2 k3 a1 a2 a3).get? (CJ s.heap k1 k2 k3 a1 a2 a3).objs.size=some _:=Heap.get?_push_size _ rfl
 have e5:(wb s.heap k1 k2 k3 a1 a2 a3).get? (C3 s.heap k1 k2 k3 a1 a2 a3).objs.size=some _:=Heap.get?_push_of_some _ (Heap.get?_push_size _ rfl)
 have e4:(wb s.heap k1 k2 k3 a1 a2 a3).get? (Dp s.heap k1 k2 k3 a1 a2 a3).objs.size=some _:=Heap.get?_push_of_some _ (Heap.get?_push_of_some _ (Heap.get?_push_size _ rfl))
 have e3:(wb s.heap k1 k2 k3 a1 a2 a3).get? (tH s.heap k1 k2 a1 a2).objs.size=some (mB k3 a3):=Heap.get?_push_of_some _ (Heap.get?_push_of_some _ (Heap.get?_push_of_some _ (Heap.get?_push_size _ (by cases k3<;>rfl))))
 have e2:(wb s.heap k1 k2 k3 a1 a2 a3).get? (wq s.heap k1 a1).objs.size=some (mB k2 a2):=Heap.get?_push_of_some _ (Heap.get?_push_of_some _ (Heap.get?_push_of_some _ (Heap.get?_push_of_some _ (Heap.get?_push_size _ (by cases k2<;>rfl)))))
 have e1:(wb s.heap k1 k2 k3 a1 a2 a3).get? s.heap.objs.size=some (mB k1 a1):=Heap.get?_push_of_some _ (Heap.get?_push_of_some _ (Heap.get?_push_of_some _ (Heap.get?_push_of_some _ (Heap.get?_push_of_some _ (Heap.get?_push_size _ (by cases k1<;>rfl))))))
 show _∧_
 rw[y3,y4,y5]at e6
 rw[y1,y2,y3]at e4
 rw[y4]at e5
 rw[y2]at e3
 rw[y1]at e2
 rw[y5]
 exact⟨⟨_,e6,rfl⟩,q _ _ rfl e6 e4 e5 (m9 (h:=s.heap) e1) (m9 (h:=s.heap) e2) (m9 (h:=s.heap) e3) fun c o x=>Heap.get?_push_of_some _ (Heap.get?_push_of_some _ (Heap.get?_push_of_some _ (Heap.get?_push_of_some _ (Heap.get?_push_of_some _ (Heap.get?_push_of_some _ x)))))⟩
noncomputable def fD:List D→List D→List D→List D
 |x::xs,y::ys,z::zs=> .tup [x,y,z]::fD xs ys zs
 |_,_,_=>[]
theorem tT:∀ {xs ys zs:List D},(fD xs ys zs).length=min xs.length (min ys.length zs.length)
 | [],_,_=>by unfold fD;simp
 |_::_,[],_=>by unfold fD;simp
 |_::_,_::_,[]=>by unfold fD;simp
 |x::xs,y::ys,z::zs=>by unfold fD;rw[List.length_cons,tT];simp only[List.length_cons];omega
theorem oQ:∀ {xs ys zs:List D} {n:Nat} {d:D},(fD xs ys zs)[n]?=some d→∃x y z,xs[n]?=some x∧ys[n]?=some y∧zs[n]?=some z∧d= .tup [x,y,z]
 | [],_,_,_,_,e=>by unfold fD at e;cases e
 |_::_,[],_,_,_,e=>by unfold fD at e;cases e
 |_::_,_::_,[],_,_,e=>by unfold fD at e;cases e
 |x::xs,y::ys,z::zs,0,d,e=>by
  unfold fD at e
  rw[List.getElem?_cons_zero]at e
  cases e
  exact⟨x,y,z,rfl,rfl,rfl,rfl⟩
 |x::xs,y::ys,z::zs,n+1,d,e=>by
  unfold fD at e
  rw[List.getElem?_cons_succ]at e
  obtain⟨a,b,c,h1,h2,h3,h4⟩:=oQ e
  exact⟨a,b,c,by rw[List.getElem?_cons_succ];exact h1,by rw[List.getElem?_cons_succ];exact h2,by rw[List.getElem?_cons_succ];exact h3,h4⟩
theorem ES{K:PySem.W.Frag}{k1 k2 k3:SK}{a1 a2 a3:Addr}{α:List (Option Addr)}{G:Hp}{ok:ag→Prop}{xs ys zs:List D}
 (h:∀α' G' st',Step α G α' G'→aV α' st' G'→ok st'→∃vs ws us,vh k1 G' a1 vs∧vh k2 G' a2 ws∧vh k3 G' a3 us∧aG α' G' xs vs∧aG α' G' ys ws∧aG α' G' zs us):qP (Gy K k1 k2 k3 a1 a2 a3) α G ok (fD xs ys zs) where
 stop:=fun n α' G' F' H' st' s P S o hn=>by
  obtain⟨vs,ws,us,h1,h2,h3,r1,r2,r3⟩:=h α' G' st' s S o
  rw[tT]at hn
  refine⟨vs,ws,us,fq P h1,fq P h2,fq P h3,?_⟩
  have:=r1.length
  have:=r2.length
  have:=r3.length
  omega
 go:=fun n d α' G' F' H' st' s P S o hn=>by
  obtain⟨vs,ws,us,h1,h2,h3,r1,r2,r3⟩:=h α' G' st' s S o
  obtain⟨x,y,z,ex,ey,ez,rfl⟩:=oQ hn
  obtain⟨v,ev,_⟩:=r1.get ex
  obtain⟨u,eu,_⟩:=r2.get ey
  obtain⟨t,et,_⟩:=r3.get ez
  exact⟨vs,ws,us,v,u,t,fq P h1,fq P h2,fq P h3,ev,eu,et⟩
 mj:=fun n d α' G' F' H' st' x H'' s P S o hn y=>by
  obtain⟨vs,ws,us,h1,h2,h3,r1,r2,r3⟩:=h α' G' st' s S o
  obtain⟨c,e,f,ec,ee,ef,rfl⟩:=oQ hn
  obtain⟨T,v,u,t,hT,rfl,rfl,y1,y2,y3⟩:=y
  obtain⟨v',ev,rv⟩:=r1.get ec
  obtain⟨u',eu,ru⟩:=r2.get ee
  obtain⟨t',et,rt⟩:=r3.get ef
  rw[y1 vs (fq P h1)]at ev
  rw[y2 ws (fq P h2)]at eu
  rw[y3 us (fq P h3)]at et
  cases ev
  cases eu
  cases et
  have hg:=(P.none hT).1
  refine⟨L2.upd G' T (.tup [v,u,t]),Step.laid hg,P.laid hT,S.laid hg,?_⟩
  unfold Rep
  refine⟨T,[v,u,t],rfl,S.mv hg,bw,?_⟩
  unfold aG
  refine⟨v,[u,t],rfl,rv.step (Step.laid hg),?_⟩
  unfold aG
  refine⟨u,[t],rfl,ru.step (Step.laid hg),?_⟩
  unfold aG
  exact⟨t,[],rfl,rt.step (Step.laid hg),by unfold aG;rfl⟩
noncomputable def yU(ds:List D)(st1:ag)(K:List D→(ag→Prop)→ag→Prop):Prop:=match ds with
 | [x,y,z]=>(match items? st1 x,items? st1 y,items? st1 z with
   |some xs,some ys,some zs=>K (fD xs ys zs) (fun st'=>items? st' x=some xs∧items? st' y=some ys∧items? st' z=some zs) st1
   |_,_,_=>False)
 |_=>False
@[irreducible] noncomputable def ox:List D→ag→(List D→(ag→Prop)→ag→Prop)→Prop:=yU
noncomputable def yy(t:DA):DI:=fun σ st K=>t σ st fun ds st1=>ox ds st1 K
theorem E2{n a1 a2 a3:Nat}(h1:a1<n)(h2:a2<n)(h3:a3<n):Df (n+5) (n+3) (n+4) n (n+1) (n+2) a1 a2 a3:=⟨by omega,by omega,by omega,by omega⟩
theorem vals3{vs:List V}{us:List Value}{a b c:V}(h:Vals vs us)(e:vs=[a,b,c]):∃u v w,us=[u,v,w]∧RelV a u∧RelV b v∧RelV c w:=by
 subst e
 cases h with
 |cons p q=>
  cases q with
  |cons p' q'=>
   cases q' with
   |cons p'' q''=>
    cases q''
    exact⟨_,_,_,rfl,p,p',p''⟩
theorem DU{X:Cx}{a b c:Expr}{elts:List Expr}{kx:Nat}{tpos p pos:Pos}{t:DA}(hg:Gl X "zip")(hm:X.mg "zip"=none)(ha:PA X [a,b,c] (LA t))(hs:starEach [a,b,c] X.env=(false,eval a X.env)::starEach [b,c] X.env)(hs2:starEach [b,c] X.env=[(false,eval b X.env),(false,eval c X.env)]):
 PI X (.Tuple elts kx tpos) (.Call (.Name "zip" p) [a,b,c] [] pos) (LI (yy t)):=by
 intro pins s σ H R I h
 obtain⟨α,σd,st,K,G,F,P,RS,S,t,k⟩:=h
 refine Call_ (kq I hg hm boot_zip (PyProof.Rows.callWith_type1 (bD (ha pos pins s σ H (fun vs H1=>∃ds α1 G1 st1,Step α G α1 G1∧cq G1 F H1∧aV α1 st1 G1∧aG α1 G1 ds vs∧ox ds st1 K) I ⟨α,σd,st,_,G,F,P,RS,S,t,fun ds st1 q α1 G1 H1 vs s1 P1 S1 r1=>⟨ds,α1,G1,st1,s1,P1,S1,r1,q⟩⟩) fun us s1 ⟨vs,H1,I1,rv,ds,α1,G1,st1,w1,P1,S1,r1,q⟩=>?_) hs (by rw[hs2];rfl)))
 unfold ox yU at q
 split at q
 · rename_i x y z
   split at q
   · rename_i xs ys zs ex ey ez
     obtain⟨v1,v2,v3,rfl,q1,q2,q3⟩:=yJ r1 rfl
     obtain⟨p1,vs1,rfl,g1,c1⟩:=hO S1 q1 ex
     obtain⟨p2,vs2,rfl,g2,c2⟩:=hO S1 q2 ey
     obtain⟨p3,vs3,rfl,g3,c3⟩:=hO S1 q3 ez
     obtain⟨u1,u2,u3,rfl,ru1,ru2,ru3⟩:=vals3 rv rfl
     cases ru1
     cases ru2
     cases ru3
     obtain⟨its1,_,l1⟩:=fU I1 (fq P1 c1)
     obtain⟨its2,_,l2⟩:=fU I1 (fq P1 c2)
     obtain⟨its3,_,l3⟩:=fU I1 (fq P1 c3)
     refine zY l1 l2 l3 fun g n hn Z pI pO i1 i2 i3 kp=>?_
     obtain⟨o1,eo1⟩:=l1.some
     obtain⟨o2,eo2⟩:=l2.some
     obtain⟨o3,eo3⟩:=l3.some
     refine wpAny_pyIter_zip (s:={s1 with heap:=g}) Z ?_
     refine⟨n+5,[n+5,n+3,n+4,n,n+1,n+2],_,_,H1,rfl,I1.kept (t':=s1.toks) kp,Ac (xH x) (xH y) (xH z) (E2 (by rw[hn];exact Heap.lt_size eo1) (by rw[hn];exact Heap.lt_size eo2) (by rw[hn];exact Heap.lt_size eo3)),⟨Z,pI,⟨_,_,_,pO⟩,i1,i2,i3⟩,fun b hb=>?_,?_⟩
     · have hb':s1.heap.objs.size≤b:=by
        simp only[List.mem_cons,List.not_mem_nil,or_false]at hb
        rcases hb with rfl|rfl|rfl|rfl|rfl|rfl<;>(rw[←hn];first|exact Nat.le_refl _|exact Nat.le_add_right _ _)
       exact I1.qz hb' (I1.aP.fresh hb')
     · refine k _ _ st1 q _ α1 G1 H1 w1 P1 S1 (ES fun α' G' st' s' S' o=>?_)
       obtain⟨p1',ws1,e1,f1,d1⟩:=hO S' (q1.step s') o.1
       obtain⟨p2',ws2,e2,f2,d2⟩:=hO S' (q2.step s') o.2.1
       obtain⟨p3',ws3,e3,f3,d3⟩:=hO S' (q3.step s') o.2.2
       cases e1
       cases e2
       cases e3
       exact⟨ws1,ws2,ws3,d1,d2,d3,f1,f2,f3⟩
   · exact q.elim
 · exact q.elim
theorem Ed{st:ag}{x y z:D}{xs ys zs:List D}{K:List D→(ag→Prop)→ag→Prop}(ex:items? st x=some xs)(ey:items? st y=some ys)(ez:items? st z=some zs)(k:∀ok:ag→Prop,(∀st',items? st' x=some xs→items? st' y=some ys→items? st' z=some zs→ok st')→K (fD xs ys zs) ok st):ox [x,y,z] st K:=by
 unfold ox yU
 simp only[ex,ey,ez]
 exact k _ fun st' h1 h2 h3=>⟨h1,h2,h3⟩
theorem FT{X:Cx}{a b c:Expr}{elts:List Expr}{kx:Nat}{tpos p pos:Pos}{ar:DA}(hg:Gl X "zip")(hm:X.mg "zip"=none)(ha:JA X [a,b,c] ar)(hs:notStar a=true:=by rfl)(hs2:notStar b=true:=by rfl)(hs3:notStar c=true:=by rfl):JI X (.Tuple elts kx tpos) (.Call (.Name "zip" p) [a,b,c] [] pos) (yy ar):=by
 unfold JI;unfold JA at ha;exact DU hg hm ha (cB hs) (by rw[cB hs2,cB hs3];rfl)
noncomputable def Aq:DS:=fun _ _ _=>False
theorem BO{X:Cx}{s:Stmt}:JS X s Aq:=by
 unfold JS
 intro pins s σ H D I h
 obtain⟨α,σd,st,DD,G,F,P,R,S,q,k⟩:=h
 exact q.elim
end L3
namespace L3
open PySem L2
open PySem.Spec hiding items?
open PyProof.Rows hiding St
section
variable {X:Cx}
noncomputable def uu:dG:=fun x y st K=>match x,y with
 | .ref n,.lst ys=>(match st[n]? with|some (.lst xs)=>xs.length+ys.length≤sizeLine∧K (.lst (xs++ys)) st|_=>False)
 |_,_=>False
theorem H0:cc X (binaryOp .Add) (LR uu):=fun pins s σ H x y v u Q I rx ry ⟨α,d,e,st,K,G,F',P,r1,r2,S,q,k⟩=>by
 cases d<;>cases e<;>try exact q.elim
 rename_i n ys
 unfold uu at q
 simp only at q
 split at q
 · rename_i xs e
   obtain⟨a,ea,vs,h1,h2⟩:=S.gY e
   have r1':=d8 ea r1
   subst r1'
   unfold Rep at r2
   obtain⟨b,ws,rfl,nb,hb,rb⟩:=r2
   refine sU pins s σ H _ _ v u Q I rx ry ⟨a,b,vs,ws,rfl,rfl,.of (P.get h1),fY P hb,by rw[←h2.length,←rb.length];exact q.1,fun p hp=>?_⟩
   exact k.lst P q.2 S (aR.mpr (eQ (aR.mp h2) (aR.mp rb))) hp
 · exact q.elim
@[irreducible] noncomputable def pw:dG:=uu
theorem Hx:cc X (binaryOp .Add) (LR pw):=by unfold pw;exact H0
end
theorem DY{st:ag}{K:DK}{n:Nat}{xs ys:List D}(e:st[n]?=some (.lst xs))(h:xs.length+ys.length≤sizeLine)(k:K (.lst (xs++ys)) st):pw (.ref n) (.lst ys) st K:=by unfold pw uu;simp only[e];exact⟨h,k⟩
end L3
namespace L3
open PySem L2
open PySem.Spec hiding items?
open PyProof.Rows hiding St
open Sem (wp)
section
variable {prog:Program}{w:World}{A:Around}{s:Shared}{E:Value→Shared→Prop}
end
section
variable {prog:Program}{w:World}{A:Around}{R:Result→Shared→Prop}{I:Addr}{fp wr:List Addr}{G:Array GenState→Array GenState→Prop}{n:Nat}{P:Nat→Value→Prop}{Sx:Nat→Shared→Prop}
end
section
variable {prog:Program}{w:World}{A:Around}{E:Value→Shared→Prop}{s:Shared}
end
section
variable {X:Cx}{pins:List (Addr×Obj)}{σ:L2.St}{H:Hp}{s:Shared}{α:List (Option Addr)}
end
end L3
namespace L3
open PySem L2
open PySem.Spec hiding items?
open PyProof.Rows hiding St
section
variable {X:Cx}
end
end L3
namespace L3
open PySem L2
open PySem.Spec hiding items?
open PyProof.Rows hiding St
noncomputable def putD(f:Str)(v:D):List (Str×D)→List (Str×D)
 | []=>[(f,v)]
 |(g,x)::r=>if g=f then(g,v)::r else(g,x)::putD f v r
theorem jh.look{α:List (Option Addr)}{H:Hp}{f:Str}{v:D}:∀ {fs:List (Str×D)} {vs:List (Str×V)},jh α H fs vs→fs.lookup f=some v→∃u,vs.lookup f=some u∧Rep α H v u
 | [],_,_,e=>by cases e
 |(g,x)::fs,_,.cons (b:=q) h t,e=>by
  obtain⟨g',y⟩:=q
  obtain⟨h1,h2⟩:=h
  simp only at h1 h2
  subst h1
  rw[List.lookup_cons]at e⊢
  cases hb:f==g with
  |true=>rw[hb]at e;cases e;exact⟨y,rfl,h2⟩
  |false=>rw[hb]at e;exact jh.look t e
theorem jh.none{α:List (Option Addr)}{H:Hp}{f:Str}:∀ {fs:List (Str×D)} {vs:List (Str×V)},jh α H fs vs→fs.lookup f=Option.none→vs.lookup f=Option.none
 | [],_,.nil,_=>rfl
 |(g,x)::fs,_,.cons (b:=q) h t,e=>by
  obtain⟨g',y⟩:=q
  obtain⟨h1,h2⟩:=h
  simp only at h1 h2
  subst h1
  rw[List.lookup_cons]at e⊢
  cases hb:f==g with
  |true=>rw[hb]at e;cases e
  |false=>rw[hb]at e;exact jh.none t e
theorem jh.put{α:List (Option Addr)}{H:Hp}{f:Str}{d:D}{v:V}(r:Rep α H d v):∀ {fs:List (Str×D)} {vs:List (Str×V)},jh α H fs vs→jh α H (putD f d fs) (gG f v vs)
 | [],_,.nil=> .cons ⟨rfl,r⟩ .nil
 |(g,x)::fs,_,.cons (b:=q) h t=>by
  obtain⟨g',y⟩:=q
  obtain⟨h1,h2⟩:=h
  simp only at h1 h2
  subst h1
  unfold putD gG
  by_cases hb:g=f
  · rw[if_pos hb,if_pos hb];exact .cons ⟨rfl,r⟩ t
  · rw[if_neg hb,if_neg hb];exact .cons ⟨rfl,h2⟩ (jh.put r t)
noncomputable def Cc(C:Addr)(f:Str)(d:D)(st:ag)(K:DK):Prop:=match d with
 | .ref n=>(match st[n]? with|some (.ins C' fs)=>C'=C∧∃v,fs.lookup f=some v∧K v st|_=>False)
 |_=>False
@[irreducible] noncomputable def yo(C:Addr)(f:Str):D→ag→DK→Prop:=Cc C f
noncomputable def dq(C:Addr)(f:Str)(te:DE):DE:=fun σ st K=>te σ st fun d st1=>yo C f d st1 K
theorem cm{C:Addr}{f:Str}{n:Nat}{st:ag}{K:DK}{fs:List (Str×D)}{v:D}(e:st[n]?=some (.ins C fs))(h:fs.lookup f=some v)(k:K v st):yo C f (.ref n) st K:=by
 unfold yo Cc;simp only[e];exact⟨trivial,v,h,k⟩
noncomputable def zi(C:Addr)(f:Str)(x d:D)(st:ag)(K:ag→Prop):Prop:=match x with
 | .ref n=>(match st[n]? with|some (.ins C' fs)=>C'=C∧fs.length<1000∧K (st.set n (.ins C (putD f d fs)))|_=>False)
 |_=>False
@[irreducible] noncomputable def ux(C:Addr)(f:Str):D→D→ag→(ag→Prop)→Prop:=zi C f
noncomputable def kg(C:Addr)(f:Str)(to te:DE):DS:=fun D σ st=>te σ st fun d st1=>to σ st1 fun x st2=>ux C f x d st2 fun st3=>D.nx σ st3
theorem jm{C:Addr}{f:Str}{n:Nat}{d:D}{st:ag}{K:ag→Prop}{fs:List (Str×D)}(e:st[n]?=some (.ins C fs))(h:fs.length<1000)(k:K (st.set n (.ins C (putD f d fs)))):ux C f (.ref n) d st K:=by
 unfold ux zi;simp only[e];exact⟨trivial,h,k⟩
noncomputable def uN(C:Addr)(m:Str)(x:D)(st:ag)(k:Prop):Prop:=match x with
 | .ref n=>(match st[n]? with|some (.ins C' fs)=>C'=C∧fs.lookup m=none∧k|_=>False)
 |_=>False
@[irreducible] noncomputable def rB(C:Addr)(m:Str):D→ag→Prop→Prop:=uN C m
theorem fK{C:Addr}{m:Str}{n:Nat}{st:ag}{k:Prop}{fs:List (Str×D)}(e:st[n]?=some (.ins C fs))(h:fs.lookup m=none)(q:k):rB C m (.ref n) st k:=by
 unfold rB uN;simp only[e];exact⟨trivial,h,q⟩
noncomputable def fy(C:Addr)(m:Str)(S:cW)(to:DE)(t:DA):DE:=fun σ st K=>to σ st fun x st1=>rB C m x st1 (t σ st1 fun ds st2=>S (x::ds) st2 K)
noncomputable def uy(C:Addr)(S:cW)(t:DA):DE:=fun σ st K=>t σ st fun ds st1=>S (.ref st1.length::ds) (st1++[.ins C []]) fun r st2=>r= .aH∧K (.ref st1.length) st2
section
variable {X:Cx}{C f g:Addr}{fd:FuncData}{k:Nat}{x m fl:Str}{e o value:Expr}{es:List Expr}{p pos pos' apos:Pos}{te to:DE}{t:DA}{S:cW}{ps:List Str}
theorem Jx(c:ku X.K C)(na:fS X.K C fl)(he:PE X e (LE te))(hb:attributeBase e fl X.env (eval e X.env)=eval e X.env):PE X (.Attribute e fl pos) (LE (dq C fl te)):=PE.imp (HJ he hb) fun σ H Q ⟨α,σd,st,K,G,F,P,R,S,t,k⟩=>by
 refine⟨α,σd,st,_,G,F,P,R,S,t,fun d st1 q α1 G1 H1 v s1 P1 S1 r1=>?_⟩
 unfold yo Cc at q
 cases d<;>try exact q.elim
 simp only at q
 split at q
 · rename_i C' fs e'
   obtain⟨rfl,w,hw,q⟩:=q
   obtain⟨a,ea,dx,vs,h1,h2⟩:=S1.r9 e'
   have r1':=d8 ea r1
   subst r1'
   obtain⟨u,hu,ru⟩:=h2.look hw
   exact⟨a,_,dx,vs,u,rfl,P1.get h1,c,na,hu,(k.at s1).here P1 q S1 ru⟩
 · exact q.elim
theorem Ia(c:ku X.K C)(na:fS X.K C fl)(ho:PE X o (LE to))(hv:PE X value (LE te))(hs:swapsWith value (some (.Attribute o fl pos')) pos.line X.env=pure false):PS X (.Assign [.Attribute o fl pos'] value pos) (LS (kg C fl to te)):=PS.imp (GG ho hv hs) fun D σ H ⟨α,σd,st,DD,G,F,P,R,S,t,k⟩=>by
 refine⟨α,σd,st,_,G,F,P,R,S,t,fun d st1 q α1 G1 H1 v s1 P1 S1 r1=>?_⟩
 refine⟨α1,σd,st1,_,G1,F,P1,R.step s1,S1,q,fun x st2 q2 α2 G2 H2 v2 s2 P2 S2 r2=>?_⟩
 unfold ux zi at q2
 cases x<;>try exact q2.elim
 simp only at q2
 split at q2
 · rename_i C' fs e'
   obtain⟨rfl,hl,q2⟩:=q2
   obtain⟨a,ea,dx,vs,h1,h2⟩:=S2.r9 e'
   have r2':=d8 ea r2
   subst r2'
   have hm:some a∈α2:=List.mem_of_getElem? ea
   have lv:vs.length<1000:=by rw[←h2.length];exact hl
   refine⟨a,_,dx,vs,rfl,P2.get h1,c,na,lv,?_⟩
   refine((k.nx.at s1).at s2) σd _ q2 α2 (upd G2 a (.ins _ dx (gG fl v vs))) _ σ (Step.write hm) (P2.write h1) (((R.step s1).step s2).step (Step.write hm)) ?_
   exact S2.write ea ⟨dx,gG fl v vs,bw,(h2.put (r1.step s2)).step (Step.write hm)⟩
 · exact q2.elim
theorem LE.Iu{σ:L2.St}{H:Hp}{Q:VK}(h:LE (fy C m S to t) σ H Q):zj C m (aK S) [] E0 (LE to) (LA t) σ H Q:=by
 obtain⟨α,σd,st,K,G,F,P,R,Sr,tt,k⟩:=h
 refine⟨α,σd,st,_,G,F,P,R,Sr,tt,fun d st1 q α1 G1 H1 v s1 P1 S1 r1=>?_⟩
 unfold rB uN at q
 cases d<;>try exact q.elim
 simp only at q
 split at q
 · rename_i n C' fs e'
   obtain⟨rfl,hl,q⟩:=q
   obtain⟨a,ea,dx,vs,h1,h2⟩:=S1.r9 e'
   have r1':=d8 ea r1
   subst r1'
   refine⟨a,dx,vs,rfl,P1.get h1,h2.none hl,?_⟩
   refine⟨α1,σd,st1,_,G1,F,P1,R.step s1,S1,q,fun ds st2 q2 α2 G2 H2 us s2 P2 S2 r2=>?_⟩
   try dsimp only
   rw[List.append_nil]
   exact⟨α2,_,st2,K,G2,F,P2,by unfold aG;exact⟨_,_,rfl,r1.step s2,r2⟩,S2,q2,(k.at s1).at s2⟩
 · exact q.elim
theorem LE.make{σ:L2.St}{H:Hp}{Q:VK}(h:LE (uy C S t) σ H Q):Dj C (aK S) [] E0 (LA t) σ H Q:=by
 obtain⟨α,σd,st,K,G,F,P,R,Sr,tt,k⟩:=h
 refine⟨α,σd,st,_,G,F,P,R,Sr,tt,fun ds st1 q α1 G1 H1 us s1 P1 S1 r1=>?_⟩
 intro x dx hx hdx hne
 have hgd:=(P1.none hdx).1
 have P2:=P1.laid (o:= .own x) hdx
 have S2:=S1.laid (o:= .own x) hgd
 have hx2:upd H1 dx (.own x) x=none:=by rw[aE (Ne.symm hne)];exact hx
 have hg2:=(P2.none hx2).1
 have P3:=P2.laid (o:= .ins C dx []) hx2
 have S3:=S2.cell (o:= .ins C dx []) (c:= .ins C []) hg2 ⟨dx,[],bw,.nil⟩
 have s2:Step α1 G1 α1 (upd G1 dx (.own x)):=Step.laid hgd
 have s3:Step α1 (upd G1 dx (.own x)) (α1++[some x]) (upd (upd G1 dx (.own x)) x (.ins C dx [])):=Step.cell hg2
 have rx:Rep (α1++[some x]) (upd (upd G1 dx (.own x)) x (.ins C dx [])) (.ref st1.length) (.ref x):=by
  unfold Rep
  refine .inr ⟨x,?_,rfl⟩
  rw[List.getElem?_append_right (by rw[S1.len];exact Nat.le_refl _),S1.len,Nat.sub_self]
  rfl
 rw[List.append_nil]
 refine⟨α1++[some x],.ref st1.length::ds,st1++[.ins C []],_,_,F,P3,by unfold aG;exact⟨_,_,rfl,rx,(r1.step s2).step s3⟩,S3,q,fun d st2 q2 α' G' H' v s' P' S' r'=>?_⟩
 obtain⟨rfl,q2⟩:=q2
 unfold Rep at r'
 exact⟨r',(((k.at s1).at s2).at s3) _ st2 q2 α' G' H' _ s' P' S' (rx.step s')⟩
end
end L3
namespace L3
open PySem L2
open PySem.Spec hiding items?
open PyProof.Rows hiding St
noncomputable def Gk(a:Int)(n:Nat):It:=⟨fun i _=>i<n,fun i H x H'=>H'=H∧x= .int (a+(i:Nat)*(-1)),fun i _=>n≤i⟩
theorem zR{P:Program}{w:World}{K:PySem.W.Frag}{tg:Expr}(it:Addr)(a:Int)(n:Nat):Turn P w K tg (Gk a n) [it] it (fun i h=>IsRangeIter h it (a+(i:Nat)*(-1)) ((n:Int)-(i:Nat)) (-1)) where
 mem:=by simp
 obj:=fun i h st b hb=>by
  have e:b=it:=by simpa using hb
  subst e
  exact⟨_,st,fun v z=>by
   have z':Data.fields _=Data.cell v:=z
   cases z'⟩
 keep:=fun i h h' st k=>k it (by simp) _ st
 item:=by
  intro X hP hw hK hc i pins s σ H E I hf st hg
  subst hP hw hK
  obtain⟨f0,f1,f2,f3,f4,f5⟩:=hf it (by simp)
  have W:=Walks.range (prog:=X.prog) (w:=X.w) (I.ok.hd hc) it a (-1) n
  refine W.item i s _ _ hg st fun v h' tk hv st' kk=>?_
  obtain⟨t,rfl⟩:=hv
  have I1:Inv X pins σ H {s with heap:=h',toks:=tk}:=I.turned (fun b o hb e=>kk b o (by simpa using hb) e) f0 f1 f3 f4 f5
  exact⟨_,rfl,uq (s:={s with heap:=h',toks:=tk}) (n:="range_iterator") st' rfl rfl (by decide) ⟨.int (a+(i:Nat)*(-1)),H,I1,⟨t,rfl⟩,⟨rfl,rfl⟩,st',fun b hb=>(hf b hb).1⟩⟩
 done:=by
  intro X hP hw hK hc i pins s σ H E I hf st hg
  subst hP hw hK
  obtain⟨f0,f1,f2,f3,f4,f5⟩:=hf it (by simp)
  exact wpAny_pyNext_range_end (I.ok.hd hc) st (by have:n≤i:=hg;omega) fun h' eb=>⟨rfl,I.turned (t':=s.toks) (fun b o hb e=>eb b o hb e) f0 f1 f3 f4 f5⟩
 self:=fun _ _ _ _ _ st h=>wpAny_pyIter_rangeiter st h
theorem tR(a b:Int):Builtin.Range.rangeSize a b (-1)=((a-b).toNat:Int):=by
 unfold Builtin.Range.rangeSize
 rw[if_neg (by decide)]
 have e:(a-b-1)/(- -1:Int)=a-b-1:=by simp
 rw[e]
 split<;>omega
theorem small_down{a b:Int}(ha: -(2^62)≤a)(ha':a<2^62)(hb: -(2^62)≤b)(hb':b<2^62):Builtin.Range.small a b (-1)=true:=by
 unfold Builtin.Range.small
 rw[tR]
 simp only[Builtin.Range.rangeFitsLong,Bool.and_eq_true,Bool.or_eq_true,decide_eq_true_eq,beq_iff_eq,show¬((-1:Int)>0) by decide,if_false]
 omega
noncomputable def CS(ta:TA):TI:=fun σ H R=>ta σ H fun vs H1=>∃i j:Int,vs=[.int i,.int j,.int (-1)]∧(-(2^62)≤i∧i<2^62∧ -(2^62)≤j∧j<2^62)∧R (Gk i (i-j).toNat) H1
section
variable {X:Cx}{tg:Expr}
theorem AA{a b c:Expr}{ta:TA}{p pos:Pos}(hg:Gl X "range")(hm:X.mg "range"=none)(ha:PA X [a,b,c] ta)(hs:notStar a=true:=by rfl)(hs2:notStar b=true:=by rfl)(hs3:notStar c=true:=by rfl):
 PI X tg (.Call (.Name "range" p) [a,b,c] [] pos) (CS ta):=by
 intro pins s σ H R I h
 refine Call_ (kq I hg hm boot_range (PyProof.Rows.callWith_type1 (bD (ha pos pins s σ H _ I h) fun us s1 ⟨vs,H1,I1,r1,q1⟩=>?_) (cB hs) (je (by simp[gd,hs2,hs3]))))
 obtain⟨i,j,e,⟨q1,q2,q3,q4⟩,q⟩:=q1
 subst e
 cases r1 with
 |cons r rr=>
  cases rr with
  |cons r' rr=>
   cases rr with
   |cons r'' rr=>
    cases rr
    obtain⟨t,rfl⟩:=r
    obtain⟨t',rfl⟩:=r'
    obtain⟨t'',rfl⟩:=r''
    refine call_range_3 (by decide) ?_ (Or.inl (PyProof.noPylong_of_log2 (by decide+kernel)))
    refine wpAny_pyIter_range (IsRange.new ..) (small_down q1 q2 q3 q4) ?_
    have I2:Inv X pins σ H1 {s1 with heap:=s1.heap.push {cls:= .type "range",data:= .fields #[.int i t,.int j t',.int (-1) t'']},toks:=s1.toks}:=I1.kept fun b o e=>Heap.get?_push_of_some _ e
    generalize({s1 with heap:=s1.heap.push {cls:= .type "range",data:= .fields #[.int i t,.int j t',.int (-1) t'']},toks:=s1.toks}:Shared)=s2 at I2⊢
    refine⟨s2.heap.objs.size,[s2.heap.objs.size],_,_,H1,rfl,I2.kept (t':=s2.toks) fun b o e=>Heap.get?_push_of_some _ e,zR _ i (i-j).toNat,?_,fun b hb=>?_,q⟩
    · show IsRangeIter _ _ (i+((0:Nat):Int)*(-1)) ((((i-j).toNat:Nat):Int)-((0:Nat):Int)) (-1)
      have e1:i+((0:Nat):Int)*(-1)=i:=by omega
      have e2:(((i-j).toNat:Nat):Int)-((0:Nat):Int)=Builtin.Range.rangeSize i j (-1):=by rw[tR];omega
      rw[e1,e2]
      exact Heap.get?_push_size _ rfl
    · have e:b=s2.heap.objs.size:=by simpa using hb
      subst e
      exact I2.qz (Nat.le_refl _) (I2.aP.fresh (Nat.le_refl _))
end
noncomputable def i8(a:Int)(n:Nat):List D:=(List.range n).map fun(k:Nat)=>D.int (a+(k:Nat)*(-1))
theorem o7{a:Int}{n k:Nat}:(i8 a n)[k]?=if k<n then some (.int (a+(k:Nat)*(-1)))else none:=by
 unfold i8
 rw[List.getElem?_map]
 by_cases h:k<n
 · rw[List.getElem?_range h,if_pos h];rfl
 · rw[List.getElem?_eq_none (by simpa using h),if_neg h];rfl
theorem mr{a:Int}{n:Nat}:(i8 a n).length=n:=by unfold i8;simp
theorem El{α:List (Option Addr)}{G:Hp}{a:Int}{n:Nat}:qP (Gk a n) α G (fun _=>True) (i8 a n) where
 stop:=fun m α' G' F' H' st' s P S o hn=>by rw[mr]at hn;exact hn
 go:=fun m d α' G' F' H' st' s P S o hn=>by
  rw[o7]at hn
  split at hn
  · assumption
  · cases hn
 mj:=fun m d α' G' F' H' st' x H'' s P S o hn y=>by
  obtain⟨rfl,rfl⟩:=y
  rw[o7]at hn
  split at hn
  · cases hn
    exact⟨G',Step.refl,P,S,by unfold Rep;rfl⟩
  · cases hn
noncomputable def Iw(ds:List D)(st1:ag)(K:List D→(ag→Prop)→ag→Prop):Prop:=match ds with
 | [.int i,.int j,.int c]=>(c= -1∧ -(2^62)≤i∧i<2^62∧ -(2^62)≤j∧j<2^62)∧K (i8 i (i-j).toNat) (fun _=>True) st1
 |_=>False
@[irreducible] noncomputable def uE:List D→ag→(List D→(ag→Prop)→ag→Prop)→Prop:=Iw
noncomputable def sR(t:DA):DI:=fun σ st K=>t σ st fun ds st1=>uE ds st1 K
theorem Ba{X:Cx}{tg iter:Expr}{t:DA}(h:PI X tg iter (CS (LA t))):PI X tg iter (LI (sR t)):=PI.imp h fun σ H R ⟨α,σd,st,K,G,F,P,RS,S,t,k⟩=>by
 refine⟨α,σd,st,_,G,F,P,RS,S,t,fun ds st1 q α1 G1 H1 vs s1 P1 S1 r1=>?_⟩
 unfold uE at q
 match ds,q,r1 with
 | [.int i,.int j,.int c],q,r1=>
   obtain⟨v,u,w,rfl,r2,r3,r4⟩:=yJ r1 rfl
   unfold Rep at r2 r3 r4
   subst r2 r3 r4
   obtain⟨⟨rfl,q1⟩,q2⟩:=q
   exact⟨i,j,rfl,q1,k _ _ st1 q2 _ α1 G1 H1 s1 P1 S1 El⟩
theorem Fh{st:ag}{i j:Int}{K:List D→(ag→Prop)→ag→Prop}(h: -(2^62)≤i∧i<2^62∧ -(2^62)≤j∧j<2^62)(k:K (i8 i (i-j).toNat) (fun _=>True) st):uE [.int i,.int j,.int (-1)] st K:=by unfold uE;exact⟨⟨rfl,h⟩,k⟩
theorem Ca{X:Cx}{tg a b c:Expr}{p pos:Pos}{ar:DA}(hg:Gl X "range")(hm:X.mg "range"=none)(ha:JA X [a,b,c] ar)(hs:notStar a=true:=by rfl)(hs2:notStar b=true:=by rfl)(hs3:notStar c=true:=by rfl):JI X tg (.Call (.Name "range" p) [a,b,c] [] pos) (sR ar):=by
 unfold JI;unfold JA at ha;exact Ba (AA hg hm ha hs hs2 hs3)
section
variable {X:Cx}
noncomputable def Jh:V→V→Hp→VK→Prop:=fun o i H Q=>∃p xs k j v,o= .ref p∧i= .int k∧H p=some (.lst xs)∧0≤k∧jP xs.length k=some j∧xs[j]?=some v∧Q v H
theorem An:GO X Jh:=by
 intro pins s σ H o i ov iv Q I ro ri h
 obtain⟨p,xs,k,j,v,rfl,rfl,hp,h0,hj,hv,q⟩:=h
 cases ro
 obtain⟨t,rfl⟩:=ri
 obtain⟨its,n,r,ho,hz⟩:=I.lst hp
 obtain⟨h1,h2,h3,h4⟩:=si hj
 have hl:=r.length
 have hn:=mV
 have hk:k.toNat=j:=by
  rw[seqIndex_of h0 h4]at h1
  exact Option.some.inj h1
 obtain⟨w,ew,rw'⟩:=r.get hv
 have isL:s.heap.IsList p its.toArray:=⟨_,ho,rfl,n,rfl⟩
 exact wpAny_getItem_list isL h0 (by omega) (by rw[hk];simpa using ew) ⟨v,H,I,rw',q⟩
end
end L3
namespace L3
open PySem L2
open PySem.Spec hiding items?
open PyProof.Rows hiding St
noncomputable def zy(x y:D)(st:ag)(K:DK):Prop:=match x,y with
 | .ref n,.int k=>(match st[n]? with|some (.lst xs)=>0≤k∧(match eW xs k with|some (.int u)=>K (.int u) st|_=>False)|_=>False)
 |_,_=>False
@[irreducible] noncomputable def uC:D→D→ag→DK→Prop:=zy
noncomputable def yg(f:Int→Int→Int)(x y old d:D)(st:ag)(K:ag→Prop):Prop:=match old,d with
 | .int u,.int v=>qA x y (.int (f u v)) st K
 |_,_=>False
@[irreducible] noncomputable def uw(f:Int→Int→Int):D→D→D→D→ag→(ag→Prop)→Prop:=yg f
noncomputable def wz(f:Int→Int→Int)(to ti te:DE):DS:=fun D σ st=>to σ st fun x st1=>ti σ st1 fun y st2=>uC x y st2 fun u st3=>te σ st3 fun d st4=>uw f x y u d st4 fun st5=>D.nx σ st5
theorem Ey{n:Nat}{k u:Int}{xs:List D}{st:ag}{K:DK}(e:st[n]?=some (.lst xs))(h0:0≤k)(a:eW xs k=some (.int u))(q:K (.int u) st):uC (.ref n) (.int k) st K:=by
 unfold uC zy;simp only[e,a];exact⟨h0,q⟩
theorem EB{f:Int→Int→Int}{n j:Nat}{k u v:Int}{xs:List D}{st:ag}{K:ag→Prop}(e:st[n]?=some (.lst xs))(a:jP xs.length k=some j)(q:K (st.set n (.lst (xs.set j (.int (f u v)))))):uw f (.ref n) (.int k) (.int u) (.int v) st K:=by
 unfold uw yg qA;simp only[e,a];exact q
section
variable {X:Cx}{e o i value:Expr}{es:List Expr}{te to ti:DE}{t:DA}{pos pos' tpos apos p:Pos}{C f:Addr}{fl m x:Str}{S:cW}{k:Nat}{fd:FuncData}{ps:List Str}
theorem BU{op:Operator}{g:Int→Int→Int}(ho:PE X o (LE to))(hi:PE X i (LE ti))(he:PE X e (LE te))(hp:vK X op (xN g))
 (ha:∀ov iv new,augStore i ov iv new=(do holding [new,ov,iv] (setItem ov iv new);release [new,ov,iv] [];pure .next)):PS X (.AugAssign (.Subscript o i tpos) op e pos) (LS (wz g to ti te)):=PS.imp (DM ho hi An he hp set_list ha) fun D σ H ⟨α,σd,st,DD,G,F,P,R,S,t,k⟩=>by
 refine⟨α,σd,st,_,G,F,P,R,S,t,fun x st1 q α1 G1 H1 v1 s1 P1 S1 r1=>?_⟩
 refine⟨α1,σd,st1,_,G1,F,P1,R.step s1,S1,q,fun y st2 q2 α2 G2 H2 v2 s2 P2 S2 r2=>?_⟩
 unfold uC zy at q2
 cases x<;>cases y<;>try exact q2.elim
 rename_i n kk
 simp only at q2
 split at q2
 · rename_i xs ex
   obtain⟨h0,q2⟩:=q2
   split at q2
   · rename_i u hu
     obtain⟨a,ea,vs,hv,rv⟩:=S2.gY ex
     have r1':=d8 ea (r1.step s2)
     subst r1'
     unfold Rep at r2
     unfold eW at hu
     cases ej:jP xs.length kk with
     |none=>rw[ej]at hu;cases hu
     |some j=>
      rw[ej]at hu
      have hu2:xs[j]?=some (.int u):=hu
      obtain⟨w,hw,rw'⟩:=rv.get hu2
      unfold Rep at rw'
      subst rw'
      refine⟨a,vs,kk,j,.int u,rfl,r2,P2.get hv,h0,by rw[←rv.length];exact ej,hw,?_⟩
      refine⟨α2,σd,st2,_,G2,F,P2,(R.step s1).step s2,S2,q2,fun d st3 q4 α3 G3 H3 v3 s3 P3 S3 r3=>?_⟩
      unfold uw yg at q4
      cases d<;>try exact q4.elim
      rename_i v
      unfold Rep at r3
      refine⟨u,v,rfl,r3,?_⟩
      unfold qA at q4
      simp only at q4
      split at q4
      · rename_i xs3 e3
        split at q4
        · rename_i j3 ej3
          obtain⟨a',ea',vs3,hv3,rv3⟩:=S3.gY e3
          have ra:=d8 ea' ((r1.step s2).step s3)
          cases ra
          have hm:some a∈α3:=List.mem_of_getElem? ea'
          refine⟨a,vs3,kk,j3,rfl,r2,P3.get hv3,by rw[←rv3.length];exact ej3,?_⟩
          refine(((k.nx.at s1).at s2).at s3) σd _ q4 α3 (upd G3 a (.lst (vs3.set j3 (.int (g u v))))) _ σ (Step.write hm) (P3.write hv3) ((((R.step s1).step s2).step s3).step (Step.write hm)) ?_
          exact S3.write ea' ⟨_,bw,(aR.mpr (nC (show Rep α3 G3 (.int (g u v)) (.int (g u v)) by unfold Rep;rfl) j3 (aR.mp rv3))).step (Step.write hm)⟩
        · exact q4.elim
      · exact q4.elim
   · exact q2.elim
 · exact q2.elim
theorem zC{value o:Expr}{fl:Str}{pos':Pos}{n:Nat}{env:Env}:swapsWith value (some (.Attribute o fl pos')) n env=pure false:=by cases value<;>rfl
theorem cN(c:ku X.K C)(na:fS X.K C fl)(he:JE X e te)(hb:attributeBase e fl X.env (eval e X.env)=eval e X.env:=by rfl):JE X (.Attribute e fl pos) (dq C fl te):=by unfold JE at*;exact Jx c na he hb
theorem jo(c:ku X.K C)(na:fS X.K C fl)(ho:JE X o to)(hv:JE X value te):JS X (.Assign [.Attribute o fl pos'] value pos) (kg C fl to te):=by unfold JS;unfold JE at*;exact Ia c na ho hv zC
theorem BJ{op:Operator}{g:Int→Int→Int}(ho:JE X o to)(hi:JE X i ti)(he:JE X e te)(hp:vK X op (xN g))
 (ha:∀ov iv new,augStore i ov iv new=(do holding [new,ov,iv] (setItem ov iv new);release [new,ov,iv] [];pure .next):=by intros;rfl):JS X (.AugAssign (.Subscript o i tpos) op e pos) (wz g to ti te):=by unfold JS;unfold JE at*;exact BU ho hi he hp ha
theorem g8{pl:Sem Bool}(he:JE X o to)(c:ku X.K C)(hm:Meth X.K C m f)(F:ay X.prog X.w X.K X.mg X.base aJ k f fd ps (aK S))(hr:dj k X.A)(hb:Binds X.K fd ps [])(ha:JA X (e::es) t)
 (hs:notStar e=true:=by rfl) (hs2:gd es=true:=by rfl)
 (ht:eval (.Call (.Attribute o m apos) (e::es) [] pos) X.env=(do
   let ov ←eval o X.env
   standAt apos.atName
   let(f,first) ←holding [ov] (getMethod ov m pl)
   callWith pos f first (backTo pos (starEach (e::es) X.env)) (backToKw pos (keywordEach [] X.env))):=by rfl):
 JE X (.Call (.Attribute o m apos) (e::es) [] pos) (fy C m S to t):=by
 unfold JE at*
 unfold JA at ha
 exact PE.imp (Er he c hm F hr hb .nil uM ha (cB hs) (je hs2) ht) fun _ _ _ h=>LE.Iu h
theorem Eu{pl:Sem Bool}(he:JE X o to)(c:ku X.K C)(hm:Meth X.K C m f)(F:ay X.prog X.w X.K X.mg X.base aJ k f fd ps (aK S))(hr:dj k X.A)(hb:Binds X.K fd ps [])
 (ht:eval (.Call (.Attribute o m apos) [] [] pos) X.env=(do
   let ov ←eval o X.env
   standAt apos.atName
   let(f,first) ←holding [ov] (getMethod ov m pl)
   callWith pos f first (backTo pos (starEach [] X.env)) (backToKw pos (keywordEach [] X.env))):=by rfl):
 JE X (.Call (.Attribute o m apos) [] [] pos) (fy C m S to ao):=by
 unfold JE at*
 refine PE.imp (BK he c hm F hr hb .nil uM ht) fun σ H Q h=>?_
 obtain⟨α,σd,st,K,G,F,P,R,Sr,tt,k⟩:=h
 refine⟨α,σd,st,_,G,F,P,R,Sr,tt,fun d st1 q α1 G1 H1 v s1 P1 S1 r1=>?_⟩
 unfold rB uN at q
 cases d<;>try exact q.elim
 simp only at q
 split at q
 · rename_i n C' fs e'
   obtain⟨rfl,hl,q⟩:=q
   obtain⟨a,ea,dx,vs,h1,h2⟩:=S1.r9 e'
   have r1':=d8 ea r1
   subst r1'
   exact⟨a,dx,vs,rfl,P1.get h1,h2.none hl,α1,_,st1,K,G1,F,P1,by unfold aG;exact⟨_,_,rfl,r1,by unfold aG;rfl⟩,S1,q,k.at s1⟩
 · exact q.elim
theorem AV(M:Mk X.K C f)(F:ay X.prog X.w X.K X.mg X.base aJ k f fd ps (aK S))(hr:dj (k+1) X.A)(hg:Gl X x)(hmg:X.mg x=some (.ref C))(hb:Binds X.K fd ps [])(ha:JA X (e::es) t)(hdb:(x==("__debug__":Str))=false)
 (hs:notStar e=true:=by rfl) (hs2:gd es=true:=by rfl):JE X (.Call (.Name x p) (e::es) [] pos) (uy C S t):=by
 unfold JE
 unfold JA at ha
 exact PE.imp (Ej M F hr hg hmg hb .nil uM ha hdb (cB hs) (je hs2)) fun _ _ _ h=>LE.make h
end
end L3
namespace L3
open PySem PySem.Spec L2
open PyProof.Rows hiding St
section
variable {prog:Program}{w:World}{A:Around}{E:Value→Shared→Prop}{s:Shared}{a₀:Array Keyed}
end
end L3
namespace L2
open PySem PySem.Spec PyProof.Rows
structure Entry(K:PySem.W.Frag)(ts:List (Addr×Addr))(a:Addr)(ns:List Int)(H:Hp):Prop where
 lst:kA K H a (ns.map V.int)
 tab:∀q∈ts,H q.2=some (.lE #[])∧q.2≠a
theorem tW:∀ {vs:List Value} {ns:List Int},IntsAre vs ns→Vals (ns.map V.int) vs
 |_,_,.nil=> .nil
 |_,_,.cons n t h=> .cons ⟨t,rfl⟩ (tW h)
structure Cq(K:PySem.W.Frag)(ts:List (Addr×Addr))(h:Heap):Prop where
 hd:∀q∈ts,PySem.W.codeHdIn K q.1 q.2=true
 no:∀q∈ts,K.lookup q.2=none
 at':∀q∈ts,h.get? q.2=some (PySem.W.tabObj #[])
theorem zG{P:Program}{w:World}{K:PySem.W.Frag}{mg mb:Str→Option Value}{k:Nat}{fa a:Addr}{fd:FuncData}{x:Str}{sp:Sp}{s₁:Shared}{vs:List Value}{ns:List Int}{ts:List (Addr×Addr)}
 (KX:K.In s₁.heap) (hns:s₁.heap.Ns mainGlobals mg) (hb:s₁.heap.Ns builtinsNs mb) (hbb:∀x:Str,x≠"__name__"→mb x=bootBuiltins x) (hlim:s₁.heap.NoLimit) (hse:s₁.heap.NoSeer) (hgt:P.given.tree=none)
 (hbm:∃bm ob,mg "__builtins__"=some (.ref bm)∧bm≠builtinsNs∧s₁.heap.get? bm=some ob∧ob.cls= .type "module"∧ob.dict=some builtinsNs∧ob.data= .plain) (hT:Cq K ts s₁.heap) (hg:s₁.gens= #[])
 (ha:s₁.heap.get? a=some {cls:= .type "list",data:= .seq vs.toArray}) (hi:IntsAre vs ns) (hl:ns.length≤sizeLine) (hr:dj k callerA)
 (F:∀base:Heap,K.In base→base.Ns mainGlobals mg→ay P w K mg base (fun _ _ _ _ _ _=>False) k fa fd [x] sp) (hbind:∀(s:Shared) (u:Value),BindsTo s fd ⟨[u],[]⟩ [(x,u)])
 (hsp:∀H:Hp,Entry K ts a ns H→sp [.ref a] H (fun v _=>v= .bl true) fun _ _ _=>False):
 codeAny (model P w) callerA (.call (.ref fa) ⟨[.ref a],[]⟩) (fun r s'=>r= .ok (.ret (.bool true))∧OldK s₁.heap s'.heap∧s'.os=s₁.os∧AllBare s'.gens) s₁:=by
 have rv:=tW hi
 have lenV:=hi.length
 have nta:∀q∈ts,q.2≠a:=fun q hq z=>by
  have:=hT.at' q hq
  rw[z,ha]at this
  cases this
 let sc:Option HO:=match K.lookup a with
  |some _=>none
  |none=>some (.iO {cls:= .type "list",data:= .seq vs.toArray} (.lst (ns.map V.int)))
 let H:Hp:=fun b=>if b=a then sc else if b∈ts.map (·.2)then some (.lE #[])else none
 have Ha:H a=sc:=if_pos rfl
 have Ht:∀q∈ts,H q.2=some (.lE #[]):=fun q hq=>by
  show(if q.2=a then sc else if q.2∈ts.map (·.2)then some (HO.lE #[])else none)=_
  rw[if_neg (nta q hq),if_pos (List.mem_map_of_mem hq)]
 have Hs:∀b u,H b=some u→(b=a∧K.lookup a=none∧u= .iO {cls:= .type "list",data:= .seq vs.toArray} (.lst (ns.map V.int)))∨(∃q∈ts,q.2=b∧u= .lE #[]):=fun b u e=>by
  have e':(if b=a then sc else if b∈ts.map (·.2)then some (HO.lE #[])else none)=some u:=e
  by_cases hba:b=a
  · rw[if_pos hba]at e'
    have e2:(match K.lookup a with
     |some _=>none
     |none=>some (HO.iO {cls:= .type "list",data:= .seq vs.toArray} (.lst (ns.map V.int))))=some u:=e'
    cases q:K.lookup a with
    |some o=>rw[q]at e2;cases e2
    |none=>rw[q]at e2;cases e2;exact .inl ⟨hba,rfl,rfl⟩
  · rw[if_neg hba]at e'
    by_cases hbt:b∈ts.map (·.2)
    · rw[if_pos hbt]at e';cases e'
      obtain⟨q,hq,e⟩:=List.mem_map.mp hbt
      exact .inr ⟨q,hq,e,rfl⟩
    · rw[if_neg hbt]at e';cases e'
 have aP:g6 P w H s₁.heap:=fun b u e=>by
  rcases Hs b u e with⟨rfl,_,rfl⟩|⟨q,hq,rfl,rfl⟩
  · exact⟨ha,by rw[List.length_map];exact hl,vs,_,rv,ha⟩
  · exact hT.at' q hq
 have hE:Entry K ts a ns H:=by
  refine⟨?_,fun q hq=>⟨Ht q hq,nta q hq⟩⟩
  cases q:K.lookup a with
  |some o=>
   have e:=KX a o q
   rw[ha]at e;cases e
   exact .inr ⟨_,vs.toArray,_,q,rfl,rfl,rfl,by rw[List.size_toArray,lenV];exact hl,by simpa using rv⟩
  |none=>
   refine .inl (.inr ⟨{cls:= .type "list",data:= .seq vs.toArray},?_⟩)
   rw[Ha]
   show(match K.lookup a with
    |some _=>none
    |none=>some (HO.iO {cls:= .type "list",data:= .seq vs.toArray} (.lst (ns.map V.int))))=_
   rw[q]
 have dictNo:∀ {b:Addr} {o:Obj},s₁.heap.get? b=some o→(∀es ep,o.data≠ .seq es ep)→o.cls≠ .none→H b=none:=fun{b o} e d1 d2=>by
  cases q:H b with
  |none=>rfl
  |some u=>
   rcases Hs b u q with⟨rfl,_,_⟩|⟨t,ht,rfl,_⟩
   · rw[ha]at e;cases e;exact absurd rfl (d1 _ _)
   · rw[hT.at' t ht]at e;cases e;exact absurd rfl d2
 have nsK:∀ {b:Addr} {m:Str→Option Value},s₁.heap.Ns b m→(mL s₁.heap H).Ns b m:=fun{b m} ⟨o,es,ep,e,d,r⟩=>by
  refine⟨o,es,ep,nv e ?_,d,r⟩
  cases q:H b with
  |none=>rfl
  |some u=>
   rcases Hs b u q with⟨rfl,_,_⟩|⟨t,ht,rfl,_⟩
   · rw[ha]at e;cases e;cases d
   · rw[hT.at' t ht]at e;cases e;cases d
 have hKb:K.In (mL s₁.heap H):=fun b o e=>nv (KX b o e) (by
  cases q:H b with
  |none=>rfl
  |some u=>
   rcases Hs b u q with⟨rfl,z,_⟩|⟨t,ht,rfl,_⟩
   · rw[z]at e;cases e
   · rw[hT.no t ht]at e;cases e)
 obtain⟨bm,ob,b1,b2,b3,b4,b5,b6⟩:=hbm
 have hbmK:(mL s₁.heap H).get? bm=some ob:=nv b3 (dictNo b3 (fun es ep z=>by rw[b6]at z;cases z) (fun z=>by rw[b4]at z;cases z))
 have seK:(mL s₁.heap H).NoSeer:=by
  obtain⟨⟨m1,a1,a2⟩,⟨m2,c1,c2⟩,⟨m3,d1,d2⟩,⟨mg',bm',ob',e1,e2,e3,e4,e5⟩⟩:=hse
  refine⟨⟨m1,nsK a1,a2⟩,⟨m2,nsK c1,c2⟩,⟨m3,nsK d1,d2⟩,⟨mg',bm',ob',nsK e1,e2,nv e3 ?_,e4,e5⟩⟩
  cases q:H bm' with
  |none=>rfl
  |some u=>
   rcases Hs bm' u q with⟨rfl,_,_⟩|⟨t,ht,rfl,_⟩
   · rw[ha]at e3;cases e3;exact absurd (show Value.type "list"=Value.type "module" from e4) (by intro z;injection z with z;exact absurd z (by decide))
   · rw[hT.at' t ht]at e3;cases e3;cases e4
 have hM:Mod K mg (mL s₁.heap H):=⟨hKb,nsK hns,⟨mb,nsK hb,hbb⟩,let⟨mc,h1,h2⟩:=hlim;⟨mc,nsK h1,h2⟩,seK,⟨bm,ob,b1,b2,hbmK,b4,b5,b6⟩⟩
 have e0:qF P w K mg (mL s₁.heap H) callerA [] s₁ H:=⟨rfl,hM,fun b o e=>DW e,Nat.le_of_eq (zK _ _),trivial,fun b hb=>absurd (show b∈([]:List Addr)from hb) (by simp),aP,.of_eq hg,hgt⟩
 refine codeAny_mono ((F _ hKb (nsK hns)).run callerA [] s₁ H ⟨[.ref a],[]⟩ [.ref a] [.ref a] _ _ hr e0 (hbind s₁ (.ref a)) (.cons rfl .nil) (hsp H hE)) fun r s' h=>?_
 cases r with
 |error e=>exact False.elim h
 |ok fl=>
  cases fl with
  |next=>exact False.elim h
  |brk=>exact False.elim h
  |cont=>exact False.elim h
  |ret u=>
   obtain⟨v,H',os,bare,un,hok',r',q⟩:=h
   have q':v= .bl true:=q
   subst q'
   obtain rfl:u=Value.bool true:=r'
   have noF:∀b:Addr,b∉mZ ([]:List Env):=fun b z=>absurd (show b∈([]:List Addr)from z) (by simp)
   refine⟨rfl,⟨fun b o e=>?_,fun b o e=>un.there b o e (by simp)⟩,os,bare⟩
   cases q:H b with
   |none=>exact .inl (un.keep b o e q (noF b) (by simp))
   |some u=>
    rcases Hs b u q with⟨rfl,_,rfl⟩|⟨t,ht,rfl,rfl⟩
    · obtain⟨e2,_⟩:=hok' b _ (un.mI b _ _ q)
      rw[ha]at e;cases e
      exact .inl e2
    · obtain⟨more,e1⟩:=un.mH _ _ q
      have e2:s'.heap.get? t.2=some {cls:= .none,data:= .fields (#[]++more)}:=hok' _ _ e1
      have e3:=hT.at' t ht
      rw[e3]at e;cases e
      have C:PySem.W.CodeHd s₁.heap t.1 t.2:=PySem.W.codeHd_of_K KX (hT.hd t ht)
      exact .inr (.inl ⟨(C.tab e3).isCodeTable,rfl,#[],more,rfl,e2⟩)
theorem IT{l:PySem.W.OpenLaw}{n k:Nat}{q:Program}{loose:List Str}{XP:(Str→Option Value)→Heap→Prop}{YP:World→Heap→Prop}{d:DefRec}{K:Params→PySem.W.Frag}{sp:World→Sp}{x:Str}{ts:List (Addr×Addr)}
 (hn:l.most=some n) (hn2:n≤sizeLine) (hdf:d.params.defaults=[]) (hr:dj k callerA) (hq:importsNone q=true) (hgt:l.prog.given.tree=none)
 (hY:∀(w:World) (h:Heap),YP w h→(K w.params).In h∧Cq (K w.params) ts h)
 (F:∀(w:World) (mg:Str→Option Value) (fa:Addr) (h:Heap),(K w.params).In h→h.Ns mainGlobals mg→mg d.name=some (.ref fa)→
   ∃fd:FuncData,(∀(s:Shared) (u:Value),BindsTo s fd ⟨[u],[]⟩ [(x,u)])∧
    ∀base:Heap,(K w.params).In base→base.Ns mainGlobals mg→ay l.prog w (K w.params) mg base (fun _ _ _ _ _ _=>False) k fa fd [x] (sp w))
 (hsp:∀(w:World) (H:Hp) (a:Addr) (ns:List Int),ns.length≤n→Entry (K w.params) ts a ns H→sp w [.ref a] H (fun v _=>v= .bl true) fun _ _ _=>False):
 PySem.W.WalkO q loose XP YP l.row.toRowW d [] (fun f vs=>PySem.call f vs):=by
 refine Att.wR hn hdf fun w s₀ s₁ mg mb fa o pm cd doc a vs ns G Y ho hd hcd hmg hobj hints hlen hg=>?_
 obtain⟨KX,hT⟩:=hY w _ Y
 obtain⟨fd,hb,hF⟩:=F w mg fa _ KX G.T.g hmg
 exact zG KX G.T.g G.T.b G.T.builtins G.T.nolimit (G.T.seer hq) hgt G.T.bmain hT hg hobj hints (Nat.le_trans hlen hn2) hr hF hb fun H hE=>hsp w H a ns hlen hE
end L2
namespace L3
open PySem PySem.Spec L2
open PyProof.Rows hiding St
section
variable {X:Cx}{pins:List (Addr×Obj)}{σ:L2.St}{H:Hp}{s:Shared}{p:Addr}{o o':Obj}{h':Heap}
end
section
variable {X:Cx}{pins:List (Addr×Obj)}{σ:L2.St}{R:Hp→Prop}{s:Shared}{A:Around}{E:Value→Shared→Prop}{a kS:Addr}{e1 e:Nat}{keys:Array Value}{P:PySem.Fin→Shared→Prop}
structure Own(X:Cx)(pins:List (Addr×Obj))(p:Addr):Prop where
 ge:X.s₀.heap.objs.size≤p
 ne:∀q∈X.pn++pins,q.1≠p
end
end L3
namespace L3
open PySem PySem.Spec L2
open PyProof.Rows hiding St
section
variable {X:Cx}{scope:Scope}{Nc:List Str}{fr:List (Option Nat)}{p qual:Str}{f c:Addr}{pins:List (Addr×Obj)}{σ:L2.St}{H:Hp}{s:Shared}
end
section
variable {X:Cx}{scope:Scope}{Nc:List Str}{fr:List (Option Nat)}{p x qual:Str}{params:Arguments}{e body:Expr}{te tb:DE}{lpos kpos pos ppos:Pos}{c0 T:Addr}{n0:Nat}
end
end L3
namespace L3
open PySem L2
open PySem.Spec hiding items?
open PyProof.Rows hiding St
noncomputable def BL(sc:Scope)(N gl:List Str):Bool:=
 N.all (fun x=>(sc.names.lookup x==some .local||sc.names.lookup x==some .cell)&&x != "__debug__"&&x != "__classdict__")&&gl.all (fun x=>sc.names.lookup x==some .globalImplicit&&x != "__debug__")
structure VS(sc:Scope)(N gl:List Str):Prop where
 ok:BL sc N gl=true
theorem VS.at_{sc:Scope}{N gl:List Str}(V:VS sc N gl){i:Nat}{x:Str}(h:N[i]?=some x):Loc sc x∧(x==("__debug__":Str))=false∧(x==("__classdict__":Str))=false:=by
 have o:=V.ok
 unfold BL at o
 have:=List.all_eq_true.mp (Bool.and_eq_true_iff.mp o).1 x (List.mem_of_getElem? h)
 simp only[Bool.and_eq_true,Bool.or_eq_true,beq_iff_eq,bne_iff_ne,ne_eq]at this
 exact⟨this.1.1,beq_false_of_ne this.1.2,beq_false_of_ne this.2⟩
theorem VS.Ki{sc:Scope}{N gl:List Str}(V:VS sc N gl){i:Nat}{x:Str}(h:gl[i]?=some x):sc.names.lookup x=some .globalImplicit∧(x==("__debug__":Str))=false:=by
 have o:=V.ok
 unfold BL at o
 have:=List.all_eq_true.mp (Bool.and_eq_true_iff.mp o).2 x (List.mem_of_getElem? h)
 simp only[Bool.and_eq_true,beq_iff_eq,bne_iff_ne,ne_eq]at this
 exact⟨this.1,beq_false_of_ne this.2⟩
section
variable {X:Cx}{sc:Scope}{N gl:List Str}{x:Str}{pos:Pos}
theorem VS.nm(V:VS X.env.scope X.N gl)(i:Nat)(h:X.N[i]?=some x:=by rfl):JE X (.Name x pos) (aa i):=
 let q:=V.at_ h
 zQ q.2.1 q.2.2 (q.1.elim .inl fun z=> .inr (.inl z)) h
theorem VS.l(V:VS sc N gl)(i:Nat)(h:N[i]?=some x:=by rfl):Loc sc x:=(V.at_ h).1
theorem VS.g(V:VS sc N gl)(i:Nat)(h:gl[i]?=some x:=by rfl):sc.names.lookup x=some .globalImplicit:=(V.Ki h).1
theorem VS.d(V:VS sc N gl)(i:Nat)(h:gl[i]?=some x:=by rfl):(x==("__debug__":Str))=false:=(V.Ki h).2
theorem eR{n:Nat}(hN:X.N[n]?=some x:=by rfl)(hd:((x==("__debug__":Str))||(x==("__classdict__":Str)))=false:=by decide+kernel)
 (hv:vV X.env.scope x:=by first|exact Or.inl rfl|exact Or.inr (Or.inl rfl)|exact Or.inr (Or.inr rfl)):JE X (.Name x pos) (aa n):=
 zQ (Bool.or_eq_false_iff.mp hd).1 (Bool.or_eq_false_iff.mp hd).2 hv hN
end
noncomputable def Ah(tl:List (Addr×Pos×Str)):cW:=fun ds st K=>∃ns:List Int,ds=[.lst (ns.map .int)]∧ns.length≤63∧st=tl.map (fun q=> .tab q.1 q.2.1 q.2.2 false)∧∀st',K (.bl true) st'
noncomputable def rF(K:PySem.W.Frag)(ts:List (Addr×Addr)):Sp:=fun vs H Q _=>∃(a:Addr) (ns:List Int),vs=[.ref a]∧Entry K ts a ns H∧ns.length≤63∧∀H',Q (.bl true) H'
theorem zN{K:PySem.W.Frag}{ts:List (Addr×Addr)}{tl:List (Addr×Pos×Str)}(nl:vS K=true)(hts:ts.map (·.2)=tl.map (·.1))(nd:(tl.map (·.1)).Nodup){vs:List V}{H:Hp}{Q:VK}{E:XK}(h:rF K ts vs H Q E):aK (Ah tl) vs H Q E:=by
 obtain⟨a,ns,rfl,hE,hl,q⟩:=h
 have tabs:∀q∈tl,H q.1=some (.lE #[])∧q.1≠a:=fun q hq=>by
  have h1:q.1∈ts.map (·.2):=by rw[hts];exact List.mem_map_of_mem hq
  obtain⟨t,ht,e⟩:=List.mem_map.mp h1
  rw[←e];exact hE.tab t ht
 have at_:∀(i:Nat) (x:Addr),(tl.map fun q=>some q.1)[i]?=some (some x)→∃q,tl[i]?=some q∧q.1=x:=fun i x e=>by
  rw[List.getElem?_map]at e
  cases z:tl[i]? with
  |none=>rw[z]at e;cases e
  |some w=>rw[z]at e;simp at e;exact⟨w,rfl,e⟩
 have nota:some a∉tl.map fun q=>some q.1:=fun z=>by
  obtain⟨w,hw,e⟩:=List.mem_map.mp z
  exact(tabs w hw).2 (Option.some.inj e)
 rcases hE.lst with hS|⟨o,its,n,e,hc,_⟩
 · refine⟨tl.map fun q=>some q.1,[.lst (ns.map .int)],tl.map (fun q=> .tab q.1 q.2.1 q.2.2 false),fun d _=>d= .bl true,H,fun _=>none,⟨fun b=>by cases H b<;>rfl,fun _ _ _=>rfl⟩,?_,⟨by simp,fun i j x e1 e2=>?_,fun n c e=>?_⟩,⟨ns,rfl,hl,rfl,fun _=>rfl⟩,?_⟩
   · unfold aG
     refine⟨.ref a,[],rfl,?_,by unfold aG;rfl⟩
     unfold Rep
     exact⟨a,ns.map V.int,rfl,nota,hS,tS ns⟩
   · obtain⟨p,hp,e3⟩:=at_ i x e1
     obtain⟨r,hr,e4⟩:=at_ j x e2
     have k1:(tl.map (·.1))[i]?=some x:=by rw[List.getElem?_map,hp,←e3];rfl
     have k2:(tl.map (·.1))[j]?=some x:=by rw[List.getElem?_map,hr,←e4];rfl
     have hi:=(List.getElem?_eq_some_iff.mp k1).1
     exact(List.getElem?_inj hi nd).mp (k1.trans k2.symm)
   · rw[List.getElem?_map]at e
     cases z:tl[n]? with
     |none=>rw[z]at e;cases e
     |some w=>
      rw[z]at e
      have e':Cell.tab w.1 w.2.1 w.2.2 false=c:=Option.some.inj e
      subst e'
      refine .inr ⟨w.1,by rw[List.getElem?_map,z];rfl,rfl,#[],(tabs w (List.mem_of_getElem? z)).1,trivial,.inl ⟨rfl,rfl⟩⟩
   · rintro d st' rfl α' G' H' v _ _ _ r
     unfold Rep at r
     subst r
     exact q H'
 · exact absurd hc (t9 nl e)
end L3
namespace L3
open PySem L2
open PySem.Spec hiding items?
open PyProof.Rows hiding St
section
variable {K:PySem.W.Frag}{x qual p1 p2 p3 p4 p5:Str}{st:Stmt}{f:Addr}{fd:FuncData}
noncomputable abbrev CG(x qual:Str)(st:Stmt)(kV doc pm:Value)(an:Option Addr)(cdv ct:Value):FuncData:=PySem.W.fnOf x qual (aW st) (aU st) (ah st) .none kV doc pm an cdv ct
theorem gq{α:Type}{n:Nat}{us:List α}(h:us.length=n+1):∃a r,us=a::r∧r.length=n:=by
 cases us with
 |nil=>cases h
 |cons a r=>exact⟨a,r,rfl,Nat.succ.inj h⟩
theorem pK{α:Type}{us:List α}(h:us.length=0):us=[]:=List.length_eq_zero_iff.mp h
theorem ot(F:nh K x qual st f fd)(h:∀kV doc pm an cdv ct a,bindArgs (CG x qual st kV doc pm an cdv ct) ⟨[a],[]⟩=pure [(p1,a)]):Binds K fd [p1] []:=
 F.binds fun kV doc pm an cdv ct us hl=>by
  obtain⟨a,r1,rfl,h1⟩:=gq hl
  cases pK h1
  exact h kV doc pm an cdv ct a
theorem ky(F:nh K x qual st f fd)(h:∀kV doc pm an cdv ct a b,bindArgs (CG x qual st kV doc pm an cdv ct) ⟨[a,b],[]⟩=pure [(p1,a),(p2,b)]):Binds K fd [p1,p2] []:=
 F.binds fun kV doc pm an cdv ct us hl=>by
  obtain⟨a,r1,rfl,h1⟩:=gq hl
  obtain⟨b,r2,rfl,h2⟩:=gq h1
  cases pK h2
  exact h kV doc pm an cdv ct a b
theorem xy(F:nh K x qual st f fd)(h:∀kV doc pm an cdv ct a b c,bindArgs (CG x qual st kV doc pm an cdv ct) ⟨[a,b,c],[]⟩=pure [(p1,a),(p2,b),(p3,c)]):Binds K fd [p1,p2,p3] []:=
 F.binds fun kV doc pm an cdv ct us hl=>by
  obtain⟨a,r1,rfl,h1⟩:=gq hl
  obtain⟨b,r2,rfl,h2⟩:=gq h1
  obtain⟨c,r3,rfl,h3⟩:=gq h2
  cases pK h3
  exact h kV doc pm an cdv ct a b c
theorem Fw(F:nh K x qual st f fd)(h:∀kV doc pm an cdv ct a b c d,bindArgs (CG x qual st kV doc pm an cdv ct) ⟨[a,b,c,d],[]⟩=pure [(p1,a),(p2,b),(p3,c),(p4,d)]):Binds K fd [p1,p2,p3,p4] []:=
 F.binds fun kV doc pm an cdv ct us hl=>by
  obtain⟨a,r1,rfl,h1⟩:=gq hl
  obtain⟨b,r2,rfl,h2⟩:=gq h1
  obtain⟨c,r3,rfl,h3⟩:=gq h2
  obtain⟨d,r4,rfl,h4⟩:=gq h3
  cases pK h4
  exact h kV doc pm an cdv ct a b c d
end
end L3
namespace L3
open PySem L2
open PySem.Spec hiding items?
open PyProof.Rows hiding St
section
variable {X:Cx}
end
end L3
namespace Mx
noncomputable def S:Nat→(Nat→Int)→Int
 |0,_=>0
 |n+1,f=>S n f+f n
theorem aQ{n:Nat}{f g:Nat→Int}(h:∀i,i<n→f i=g i):S n f=S n g:=by
 induction n with
 |zero=>rfl
 |succ n ih=>unfold S;rw[ih fun i hi=>h i (by omega),h n (by omega)]
theorem oU{n:Nat}{f:Nat→Int}(h:∀i,i<n→f i=0):S n f=0:=by
 induction n with
 |zero=>rfl
 |succ n ih=>unfold S;rw[ih fun i hi=>h i (by omega),h n (by omega)];rfl
theorem j9(n:Nat)(f g:Nat→Int):S n (fun i=>f i+g i)=S n f+S n g:=by
 induction n with
 |zero=>rfl
 |succ n ih=>unfold S;rw[ih];dsimp only;omega
theorem gn(n:Nat)(c:Int)(f:Nat→Int):S n (fun i=>c*f i)=c*S n f:=by
 induction n with
 |zero=>unfold S;rw[Int.mul_zero]
 |succ n ih=>unfold S;rw[ih,Int.mul_add]
theorem AM(n:Nat)(c:Int)(f:Nat→Int):S n (fun i=>f i*c)=S n f*c:=by
 induction n with
 |zero=>unfold S;rw[Int.zero_mul]
 |succ n ih=>unfold S;rw[ih,Int.add_mul]
theorem CT(n:Nat)(f:Nat→Int):S n (fun i=> -f i)= -S n f:=by
 induction n with
 |zero=>rfl
 |succ n ih=>unfold S;rw[ih];dsimp only;omega
theorem rV(m n:Nat)(f:Nat→Nat→Int):S m (fun i=>S n fun j=>f i j)=S n fun j=>S m fun i=>f i j:=by
 induction m with
 |zero=>exact(oU (n:=n) (fun i _=>rfl)).symm
 |succ m ih=>
  have:S n (fun j=>S (m+1) fun i=>f i j)=S n fun j=>(S m fun i=>f i j)+f m j:=aQ fun j _=>rfl
  rw[this,j9,←ih]
  rfl
theorem nK{n:Nat}{k:Nat}(hk:k<n){f:Nat→Int}(h:∀i,i<n→i≠k→f i=0):S n f=f k:=by
 induction n with
 |zero=>omega
 |succ n ih=>
  unfold S
  by_cases e:k=n
  · subst e
    rw[oU fun i hi=>h i (by omega) (by omega),Int.zero_add]
  · rw[ih (by omega) fun i hi hn=>h i (by omega) hn,h n (by omega) (by omega),Int.add_zero]
theorem vn(n:Nat)(f:Nat→Int):S (n+1) f=f 0+S n fun i=>f (i+1):=by
 induction n with
 |zero=>unfold S S;omega
 |succ n ih=>
  have:S (n+1+1) f=S (n+1) f+f (n+1):=rfl
  rw[this,ih]
  have:S (n+1) (fun i=>f (i+1))=S n (fun i=>f (i+1))+f (n+1):=rfl
  rw[this]
  omega
noncomputable def dl(i j:Nat):Int:=if i=j then 1 else 0
theorem dm(i:Nat):dl i i=1:=if_pos rfl
theorem dX{i j:Nat}(h:i≠j):dl i j=0:=if_neg h
theorem rX{n k:Nat}(hk:k<n)(f:Nat→Int):S n (fun i=>dl k i*f i)=f k:=by
 rw[nK hk (fun i _ h=>by rw[dX (Ne.symm h),Int.zero_mul]),dm,Int.one_mul]
theorem rl{n k:Nat}(hk:k<n)(f:Nat→Int):S n (fun i=>f i*dl i k)=f k:=by
 rw[nK hk (fun i _ h=>by rw[dX h,Int.mul_zero]),dm,Int.mul_one]
noncomputable abbrev Row:=List Int
noncomputable abbrev Rows:=List (List Int)
noncomputable def g(A:Rows)(i j:Nat):Int:=(A.getD i []).getD j 0
structure bZ(m n:Nat)(A:Rows):Prop where
 len:A.length=m
 ij:∀r∈A,r.length=n
theorem aX{α:Type}{l:List α}{i:Nat}{d:α}(h:i<l.length):l.getD i d=l[i]:=by
 rw[List.getD_eq_getElem?_getD,List.getElem?_eq_getElem h];rfl
theorem pB{α:Type}{l:List α}{i:Nat}{d:α}(h:l.length≤i):l.getD i d=d:=by
 rw[List.getD_eq_getElem?_getD,List.getElem?_eq_none h];rfl
theorem so{a b:Row}{n:Nat}(ha:a.length=n)(hb:b.length=n)(h:∀j,j<n→a.getD j 0=b.getD j 0):a=b:=by
 refine List.ext_getElem (by omega) fun i h1 h2=>?_
 have:=h i (by omega)
 rwa [aX h1,aX h2]at this
theorem bZ.row{m n:Nat}{A:Rows}(h:bZ m n A){i:Nat}(hi:i<m):(A.getD i []).length=n:=by
 have hl:=h.len
 rw[aX (by omega)]
 exact h.ij _ (List.getElem_mem _)
noncomputable def gz(r:Row)(t:Int)(s:Row):Row:=List.zipWith (fun a b=>a+t*b) r s
theorem lY{r s:Row}{t:Int}(h:r.length=s.length):(gz r t s).length=r.length:=by unfold gz;simp[h]
theorem pJ{r s:Row}{t:Int}(h:r.length=s.length)(j:Nat):(gz r t s).getD j 0=r.getD j 0+t*s.getD j 0:=by
 unfold gz
 by_cases hj:j<r.length
 · rw[aX (by simp;omega),aX hj,aX (by omega)];simp
 · rw[pB (by simp;omega),pB (by omega),pB (by omega)];simp
noncomputable def jd:Row→Rows→Row→Row
 |w::ws,r::rs,acc=>jd ws rs (gz acc w r)
 |_,_,acc=>acc
theorem tO{n:Nat}:∀ {ws:Row} {rs:Rows} {acc:Row},acc.length=n→(∀r∈rs,r.length=n)→(jd ws rs acc).length=n
 | [],_,acc,h,_=>by unfold jd;exact h
 |_::_,[],acc,h,_=>by unfold jd;exact h
 |w::ws,r::rs,acc,h,hr=>by
  unfold jd
  refine tO ?_ fun r hr'=>hr r (List.mem_cons_of_mem _ hr')
  rw[lY (by rw[h,hr r List.mem_cons_self]),h]
theorem wk{n:Nat}:∀ {ws:Row} {rs:Rows} {acc:Row} (j:Nat),acc.length=n→(∀r∈rs,r.length=n)→ws.length=rs.length→(jd ws rs acc).getD j 0=acc.getD j 0+S rs.length fun k=>ws.getD k 0*g rs k j
 | [],[],acc,j,h,_,_=>by unfold jd;show _=_+(0:Int);rw[Int.add_zero]
 | [],_::_,acc,j,h,_,hl=>by cases hl
 |_::_,[],acc,j,h,_,hl=>by cases hl
 |w::ws,r::rs,acc,j,h,hr,hl=>by
  have e1:acc.length=r.length:=by rw[h,hr r List.mem_cons_self]
  unfold jd
  rw[wk j (by rw[lY e1,h]) (fun r hr'=>hr r (List.mem_cons_of_mem _ hr')) (by simpa using hl),pJ e1,List.length_cons,vn]
  have:(fun k=>(w::ws).getD (k+1) 0*g (r::rs) (k+1) j)=fun k=>ws.getD k 0*g rs k j:=by
   funext k;unfold g;simp
  rw[this]
  unfold g
  simp
  omega
noncomputable def mulM(A B:Rows)(n:Nat):Rows:=A.map fun w=>jd w B (List.replicate n 0)
theorem d8(n j:Nat):(List.replicate n (0:Int)).getD j 0=0:=by
 by_cases h:j<n
 · rw[aX (by simpa using h)];simp
 · rw[pB (by simp;omega)]
theorem xq{m p n:Nat}{A B:Rows}(ha:bZ m p A)(hb:bZ p n B):bZ m n (mulM A B n):=by
 refine⟨by unfold mulM;rw[List.length_map];exact ha.len,fun r hr=>?_⟩
 unfold mulM at hr
 obtain⟨w,_,rfl⟩:=List.mem_map.mp hr
 exact tO (by simp) hb.ij
theorem map_getD{α:Type}{f:Row→List α}{A:Rows}{i:Nat}(h:i<A.length):(A.map f).getD i []=f (A.getD i []):=by
 rw[aX (by simpa using h),aX h];simp
theorem xV{m p n:Nat}{A B:Rows}(ha:bZ m p A)(hb:bZ p n B){i:Nat}(hi:i<m)(j:Nat):g (mulM A B n) i j=S p fun k=>g A i k*g B k j:=by
 have hl:=ha.len
 show((mulM A B n).getD i []).getD j 0=_
 unfold mulM
 rw[map_getD (by omega),wk (n:=n) j (by simp) hb.ij (by rw[ha.row hi,hb.len]),d8,Int.zero_add,hb.len]
 rfl
noncomputable def dk(n i:Nat):Row:=(List.range n).map fun k=>dl k i
noncomputable def units(n:Nat):Rows:=(List.range n).map fun i=>dk n i
theorem qH(n:Nat):bZ n n (units n):=⟨by simp[units],fun r hr=>by unfold units at hr;obtain⟨i,_,rfl⟩:=List.mem_map.mp hr;simp[dk]⟩
noncomputable def nQ(A:Rows)(j:Nat):Row:=A.map fun r=>r.getD j 0
noncomputable def lV(A:Rows)(n:Nat):Rows:=(List.range n).map fun j=>nQ A j
noncomputable def gC:Row→Row→Int
 |a::as,b::bs=>a*b+gC as bs
 |_,_=>0
theorem kv:∀ {a b:Row},a.length=b.length→gC a b=S b.length fun k=>a.getD k 0*b.getD k 0
 | [],[],_=>rfl
 | [],_::_,h=>by cases h
 |_::_,[],h=>by cases h
 |x::a,y::b,h=>by
  unfold gC
  rw[kv (by simpa using h),List.length_cons,vn]
  simp
end Mx
namespace Mx
theorem m6(i j:Nat):dl i j=dl j i:=by
 unfold dl
 by_cases h:i=j
 · rw[if_pos h,if_pos h.symm]
 · rw[if_neg h,if_neg (Ne.symm h)]
noncomputable def sw(i j k:Nat):Nat:=if k=i then j else if k=j then i else k
theorem K7{n i j:Nat}(hi:i<n)(hj:j<n)(hij:i≠j)(f:Nat→Int):S n (fun k=>f (sw i j k))=S n f:=by
 have:S n (fun k=>f (sw i j k))=S n fun k=>f k+(f j-f i)*dl k i+(f i-f j)*dl k j:=aQ fun k _=>by
  unfold sw
  by_cases h1:k=i
  · subst h1;rw[if_pos rfl,dm,dX hij];omega
  · rw[if_neg h1,dX h1]
    by_cases h2:k=j
    · subst h2;rw[if_pos rfl,dm];omega
    · rw[if_neg h2,dX h2];omega
 rw[this,j9,j9,rl (f:=fun _=>f j-f i) hi,rl (f:=fun _=>f i-f j) hj]
 omega
theorem kB{A:Rows}{i:Nat}{r:Row}(hi:i<A.length)(a k:Nat):g (A.set i r) a k=if a=i then r.getD k 0 else g A a k:=by
 have e:(A.set i r).getD a []=if a=i then r else A.getD a []:=by
  rw[List.getD_eq_getElem?_getD,List.getD_eq_getElem?_getD]
  by_cases h:a=i
  · subst h
    rw[if_pos rfl,List.getElem?_set_self hi];rfl
  · rw[if_neg h,List.getElem?_set_ne (Ne.symm h)]
 unfold g
 rw[e]
 by_cases h:a=i
 · rw[if_pos h,if_pos h]
 · rw[if_neg h,if_neg h]
end Mx
namespace Mx
noncomputable abbrev Fn:=Nat→Nat→Int
noncomputable def sk(j c:Nat):Nat:=if c<j then c else c+1
noncomputable def sg(j:Nat):Int:=if j%2=0 then 1 else-1
theorem se(j:Nat):sg (j+1)= -sg j:=by unfold sg;split<;>split<;>omega
theorem sX:sg 0=1:=rfl
theorem jL{j c n:Nat}(h:c<n):sk j c<n+1:=by unfold sk;split<;>omega
theorem JY{j k c:Nat}(h:k<j):sk j (sk k c)=sk k (sk (j-1) c):=by unfold sk;grind
noncomputable def D:Nat→Fn→Int
 |0,_=>1
 |n+1,M=>S (n+1) fun j=>sg j*M 0 j*D n fun r c=>M (r+1) (sk j c)
theorem iW(M:Fn):D 0 M=1:=rfl
theorem dH(n:Nat)(M:Fn):D (n+1) M=S (n+1) fun j=>sg j*M 0 j*D n fun r c=>M (r+1) (sk j c):=rfl
theorem bq:∀ {n:Nat} {M M':Fn},(∀r c,r<n→c<n→M r c=M' r c)→D n M=D n M'
 |0,_,_,_=>rfl
 |n+1,M,M',h=>by
  rw[dH,dH]
  refine aQ fun j hj=>?_
  have e:D n (fun r c=>M (r+1) (sk j c))=D n (fun r c=>M' (r+1) (sk j c)):=bq fun r c hr hc=>h (r+1) (sk j c) (by omega) (jL hc)
  rw[h 0 j (by omega) hj,e]
theorem yX:∀ {n:Nat} {M P Q:Fn} {a b:Int} {i:Nat},i<n→(∀c,c<n→M i c=a*P i c+b*Q i c)→(∀r c,r<n→c<n→r≠i→M r c=P r c∧M r c=Q r c)→D n M=a*D n P+b*D n Q
 |0,_,_,_,_,_,_,h,_,_=>by omega
 |n+1,M,P,Q,a,b,0,_,h0,h=>by
  rw[dH,dH,dH,←gn,←gn,←j9]
  refine aQ fun j hj=>?_
  have e1:D n (fun r c=>M (r+1) (sk j c))=D n (fun r c=>P (r+1) (sk j c)):=bq fun r c hr hc=>(h (r+1) (sk j c) (by omega) (jL hc) (by omega)).1
  have e2:D n (fun r c=>M (r+1) (sk j c))=D n (fun r c=>Q (r+1) (sk j c)):=bq fun r c hr hc=>(h (r+1) (sk j c) (by omega) (jL hc) (by omega)).2
  rw[h0 j hj,←e1,←e2]
  grind
 |n+1,M,P,Q,a,b,i+1,hi,h0,h=>by
  rw[dH,dH,dH,←gn,←gn,←j9]
  refine aQ fun j hj=>?_
  have e:=yX (n:=n) (M:=fun r c=>M (r+1) (sk j c)) (P:=fun r c=>P (r+1) (sk j c)) (Q:=fun r c=>Q (r+1) (sk j c)) (a:=a) (b:=b) (i:=i) (by omega) (fun c hc=>h0 (sk j c) (jL hc)) fun r c hr hc hne=>h (r+1) (sk j c) (by omega) (jL hc) (by omega)
  have p:=h 0 j (by omega) hj (by omega)
  rw[e,←p.1,←p.2]
  grind
theorem Lc{n:Nat}{M:Fn}(h:∀c,c<n+2→M 0 c=M 1 c):D (n+2) M=0:=by
 let T:Nat→Nat→Int:=fun j k=>sg j*M 0 j*(sg k*M 1 (sk j k)*D n fun r c=>M (r+2) (sk j (sk k c)))
 have e1:∀j,j<n+2→sg j*M 0 j*D (n+1) (fun r c=>M (r+1) (sk j c))=S (n+1) fun k=>T j k:=fun j hj=>by
  rw[dH,←gn]
 rw[dH,aQ e1]
 have e2:∀j,j<n+2→S (n+1) (fun k=>T j k)=S (n+1) (fun k=>if k<j then T j k else 0)+S (n+1) (fun k=>if k<j then 0 else T j k):=fun j _=>by
  rw[←j9]
  refine aQ fun k _=>?_
  split<;>omega
 rw[aQ e2,j9]
 have e3:∀j k,j<n+2→k<n+1→¬k<j→T j k= -T (k+1) j:=fun j k hj hk hjk=>by
  have s1:sk (k+1) j=j:=by unfold sk;rw[if_pos (by omega)]
  have s2:sk j k=k+1:=by unfold sk;rw[if_neg hjk]
  have s3:(fun r c=>M (r+2) (sk (k+1) (sk j c)))=fun r c=>M (r+2) (sk j (sk k c)):=by
   funext r c
   rw[JY (show j<k+1 by omega)];rfl
  show sg j*M 0 j*(sg k*M 1 (sk j k)*D n fun r c=>M (r+2) (sk j (sk k c)))= -(sg (k+1)*M 0 (k+1)*(sg j*M 1 (sk (k+1) j)*D n fun r c=>M (r+2) (sk (k+1) (sk j c))))
  rw[s1,s2,s3,se,←h j hj,←h (k+1) (by omega)]
  grind
 have e4:S (n+2) (fun j=>S (n+1) fun k=>if k<j then 0 else T j k)= -S (n+2) (fun j=>S (n+1) fun k=>if k<j then T j k else 0):=by
  rw[rV,vn (n+1) (fun j=>S (n+1) fun k=>if k<j then T j k else 0)]
  have z:S (n+1) (fun k=>if k<0 then T 0 k else 0)=0:=oU fun k _=>if_neg (by omega)
  rw[z,Int.zero_add,←CT]
  refine aQ fun k hk=>?_
  have:S (n+2) (fun j=>if k<j then 0 else T j k)=S (n+1) (fun j=>if k<j then 0 else T j k)+(if k<n+1 then 0 else T (n+1) k):=rfl
  rw[this,if_pos hk,Int.add_zero,←CT]
  refine aQ fun j hj=>?_
  by_cases hkj:k<j
  · rw[if_pos hkj,if_neg (by omega)];rfl
  · rw[if_neg hkj,if_pos (by omega)]
    exact e3 j k (by omega) hk hkj
 rw[e4]
 omega
theorem Dx:∀ {n:Nat} {M:Fn} {i:Nat},i+1<n→(∀c,c<n→M i c=M (i+1) c)→D n M=0
 |0,_,_,h,_=>by omega
 |1,_,_,h,_=>by omega
 |n+2,M,0,_,h=>Lc h
 |n+2,M,i+1,hi,h=>by
  rw[dH]
  refine oU fun j hj=>?_
  rw[Dx (n:=n+1) (M:=fun r c=>M (r+1) (sk j c)) (i:=i) (by omega) fun c hc=>h (sk j c) (jL hc),Int.mul_zero]
structure Alt(n:Nat)(φ:Fn→Int):Prop where
 cg:∀M M':Fn,(∀r c,r<n→c<n→M r c=M' r c)→φ M=φ M'
 nW:∀(i:Nat) (M P Q:Fn) (a b:Int),i<n→(∀c,c<n→M i c=a*P i c+b*Q i c)→(∀r c,r<n→c<n→r≠i→M r c=P r c∧M r c=Q r c)→φ M=a*φ P+b*φ Q
 alt:∀(i j:Nat) (M:Fn),i<n→j<n→i≠j→(∀c,c<n→M i c=M j c)→φ M=0
noncomputable def upd(M:Fn)(i:Nat)(x:Nat→Int):Fn:=fun r c=>if r=i then x c else M r c
theorem bN(M:Fn)(i:Nat)(x:Nat→Int)(c:Nat):upd M i x i c=x c:=if_pos rfl
theorem aE{M:Fn}{i r:Nat}{x:Nat→Int}(h:r≠i)(c:Nat):upd M i x r c=M r c:=if_neg h
theorem KC{n i j:Nat}{φ:Fn→Int}(cg:∀M M':Fn,(∀r c,r<n→c<n→M r c=M' r c)→φ M=φ M')
 (nW:∀(i:Nat) (M P Q:Fn) (a b:Int),i<n→(∀c,c<n→M i c=a*P i c+b*Q i c)→(∀r c,r<n→c<n→r≠i→M r c=P r c∧M r c=Q r c)→φ M=a*φ P+b*φ Q)
 (hi:i<n) (hj:j<n) (hij:i≠j) (alt:∀N:Fn,(∀c,c<n→N i c=N j c)→φ N=0) (M:Fn):φ (fun r=>M (sw i j r))= -φ M:=by
 have l1:φ (upd (upd M i fun c=>M i c+M j c) j fun c=>M i c+M j c)=1*φ (upd (upd M i (M i)) j fun c=>M i c+M j c)+1*φ (upd (upd M i (M j)) j fun c=>M i c+M j c):=
  nW i _ _ _ 1 1 hi (fun c _=>by rw[aE hij,aE hij,aE hij,bN,bN,bN];omega) fun r c _ _ hr=>by
   unfold upd
   grind
 have l2:∀x:Nat→Int,φ (upd (upd M i x) j fun c=>M i c+M j c)=1*φ (upd (upd M i x) j (M i))+1*φ (upd (upd M i x) j (M j)):=fun x=>
  nW j _ _ _ 1 1 hj (fun c _=>by rw[bN,bN,bN];omega) fun r c _ _ hr=>by
   rw[aE hr,aE hr,aE hr];exact⟨rfl,rfl⟩
 have z0:φ (upd (upd M i fun c=>M i c+M j c) j fun c=>M i c+M j c)=0:=alt _ fun c _=>by rw[aE hij,bN,bN]
 have z1:φ (upd (upd M i (M i)) j (M i))=0:=alt _ fun c _=>by rw[aE hij,bN,bN]
 have z2:φ (upd (upd M i (M j)) j (M j))=0:=alt _ fun c _=>by rw[aE hij,bN,bN]
 have s1:φ (upd (upd M i (M i)) j (M j))=φ M:=cg _ _ fun r c _ _=>by
  unfold upd
  split
  · rename_i e;rw[e]
  · split
    · rename_i e;rw[e]
    · rfl
 have s2:φ (upd (upd M i (M j)) j (M i))=φ (fun r=>M (sw i j r)):=cg _ _ fun r c _ _=>by
  unfold upd sw
  by_cases h1:r=j
  · rw[if_pos h1]
    by_cases h2:r=i
    · omega
    · rw[if_neg h2,if_pos h1]
  · rw[if_neg h1]
    by_cases h2:r=i
    · rw[if_pos h2,if_pos h2]
    · rw[if_neg h2,if_neg h2,if_neg h1]
 have a1:=l2 (M i)
 have a2:=l2 (M j)
 rw[z1,s1]at a1
 rw[z2,s2]at a2
 rw[z0,a1,a2]at l1
 omega
theorem Alt.swap{n i j:Nat}{φ:Fn→Int}(A:Alt n φ)(hi:i<n)(hj:j<n)(hij:i≠j)(M:Fn):φ (fun r=>M (sw i j r))= -φ M:=
 KC A.cg A.nW hi hj hij (fun N h=>A.alt i j N hi hj hij h) M
theorem sd{n:Nat}{φ:Fn→Int}(cg:∀M M':Fn,(∀r c,r<n→c<n→M r c=M' r c)→φ M=φ M')
 (nW:∀(i:Nat) (M P Q:Fn) (a b:Int),i<n→(∀c,c<n→M i c=a*P i c+b*Q i c)→(∀r c,r<n→c<n→r≠i→M r c=P r c∧M r c=Q r c)→φ M=a*φ P+b*φ Q)
 (adj:∀(i:Nat) (M:Fn),i+1<n→(∀c,c<n→M i c=M (i+1) c)→φ M=0):Alt n φ:=by
 have far:∀(d i:Nat) (M:Fn),i+d+1<n→(∀c,c<n→M i c=M (i+d+1) c)→φ M=0:=by
  intro d
  induction d with
  |zero=>exact fun i M h1 h2=>adj i M h1 h2
  |succ d ih=>
   intro i M h1 h2
   have hs:=KC cg nW (i:=i+d+1) (j:=i+d+1+1) (by omega) (by omega) (by omega) (fun N h=>adj (i+d+1) N (by omega) h) M
   have:φ (fun r=>M (sw (i+d+1) (i+d+1+1) r))=0:=ih i _ (by omega) fun c hc=>by
    have e1:sw (i+d+1) (i+d+1+1) i=i:=by unfold sw;rw[if_neg (by omega),if_neg (by omega)]
    have e2:sw (i+d+1) (i+d+1+1) (i+d+1)=i+d+1+1:=by unfold sw;rw[if_pos rfl]
    rw[e1,e2]
    exact h2 c hc
   omega
 refine⟨cg,nW,fun i j M hi hj hij h=>?_⟩
 by_cases hlt:i<j
 · obtain⟨d,rfl⟩:∃d,j=i+d+1:=⟨j-i-1,by omega⟩
   exact far d i M hj h
 · obtain⟨d,rfl⟩:∃d,i=j+d+1:=⟨i-j-1,by omega⟩
   exact far d j M hi fun c hc=>(h c hc).symm
theorem kR(n:Nat):Alt n (D n):=sd (fun _ _ h=>bq h) (fun _ _ _ _ _ _ hi h0 h=>yX hi h0 h) fun _ _ h1 h2=>Dx h1 h2
theorem Alt.Fy{n i:Nat}{φ:Fn→Int}(A:Alt n φ)(hi:i<n){M:Fn}(h:∀c,c<n→M i c=0):φ M=0:=by
 have:=A.nW i M M M 0 0 hi (fun c hc=>by rw[h c hc];rfl) fun _ _ _ _ _=>⟨rfl,rfl⟩
 omega
theorem Alt.kj{n i:Nat}{φ:Fn→Int}(A:Alt n φ)(hi:i<n)(M:Fn)(t:Int)(x:Nat→Int):φ (upd M i fun c=>t*x c)=t*φ (upd M i x):=by
 have:=A.nW i (upd M i fun c=>t*x c) (upd M i x) (upd M i x) t 0 hi (fun c hc=>by rw[bN,bN];omega) fun r c _ _ hr=>by rw[aE hr,aE hr];exact⟨rfl,rfl⟩
 omega
theorem Alt.o8{n i:Nat}{φ:Fn→Int}(A:Alt n φ)(hi:i<n)(M:Fn)(x y:Nat→Int):φ (upd M i fun c=>x c+y c)=φ (upd M i x)+φ (upd M i y):=by
 have:=A.nW i (upd M i fun c=>x c+y c) (upd M i x) (upd M i y) 1 1 hi (fun c hc=>by rw[bN,bN,bN];omega) fun r c _ _ hr=>by rw[aE hr,aE hr,aE hr];exact⟨rfl,rfl⟩
 omega
theorem Alt.og{n i:Nat}{φ:Fn→Int}(A:Alt n φ)(hi:i<n)(M:Fn)(a:Nat→Int)(x:Nat→Nat→Int):∀m,φ (upd M i fun c=>S m fun j=>a j*x j c)=S m fun j=>a j*φ (upd M i (x j))
 |0=>A.Fy hi fun c _=>by rw[bN];rfl
 |m+1=>by
  have:(fun c=>S (m+1) fun j=>a j*x j c)=fun c=>(S m fun j=>a j*x j c)+a m*x m c:=rfl
  rw[this,A.o8 hi,A.og hi M a x m,A.kj hi]
  rfl
theorem Alt.more{n i:Nat}{φ:Fn→Int}(A:Alt n φ)(hi:i<n)(M:Fn)(x:Nat→Int)(a:Nat→Int)(m:Nat)(hm:m≤n)(him:m≤i):φ (upd M i fun c=>x c+S m fun j=>a j*M j c)=φ (upd M i x):=by
 rw[A.o8 hi,A.og hi M a (fun j=>M j) m,oU fun j hj=>?_,Int.add_zero]
 rw[A.alt i j _ hi (by omega) (by omega) fun c _=>by rw[bN,aE (by omega)],Int.mul_zero]
noncomputable def un(j c:Nat):Nat:=if c<j then c else c-1
noncomputable def grow(j:Nat)(B:Fn):Fn:=fun r c=>if r=0 then dl j c else if c=j then 0 else B (r-1) (un j c)
theorem rH{n j c:Nat}(hj:j<n+1)(hc:c<n+1)(h:c≠j):un j c<n:=by unfold un;split<;>omega
theorem yR{j c:Nat}(h:c≠j):sk j (un j c)=c:=by unfold sk un;grind
theorem Alt.grow{n j:Nat}{φ:Fn→Int}(A:Alt (n+1) φ)(hj:j<n+1):Alt n fun B=>φ (Mx.grow j B) where
 cg:=fun M M' h=>A.cg _ _ fun r c hr hc=>by
  have:=h (r-1) (un j c)
  have:=rH (c:=c) hj hc
  unfold Mx.grow
  grind
 nW:=fun i M P Q a b hi h0 h=>A.nW (i+1) _ _ _ a b (by omega) (fun c hc=>by
  have:=h0 (un j c)
  have:=rH (c:=c) hj hc
  have e:i+1-1=i:=by omega
  unfold Mx.grow
  rw[e]
  grind) fun r c hr hc hne=>by
  have:=h (r-1) (un j c)
  have:=rH (c:=c) hj hc
  unfold Mx.grow
  grind
 alt:=fun i k M hi hk hik h=>A.alt (i+1) (k+1) _ (by omega) (by omega) (by omega) fun c hc=>by
  have:=h (un j c)
  have:=rH (c:=c) hj hc
  have e:i+1-1=i:=by omega
  have e2:k+1-1=k:=by omega
  unfold Mx.grow
  rw[e,e2]
  grind
theorem Alt.units{n:Nat}{φ:Fn→Int}(A:Alt (n+1) φ):∀j,j<n+1→φ (Mx.grow j dl)=sg j*φ dl
 |0,_=>by
  rw[sX,Int.one_mul]
  refine A.cg _ _ fun r c hr hc=>?_
  unfold Mx.grow un dl
  grind
 |j+1,hj=>by
  have ih:=A.units j (by omega)
  have s:=A.swap (i:=0) (j:=j+1) (by omega) hj (by omega) (Mx.grow j dl)
  rw[se,Int.neg_mul,←ih,←s]
  refine A.cg _ _ fun r c hr hc=>?_
  unfold Mx.grow un dl sw
  grind
theorem Alt.HE{n i k:Nat}{φ:Fn→Int}(A:Alt n φ)(hi:i<n)(hk:k<n)(hik:i≠k)(M:Fn)(x:Nat→Int)(t:Int):φ (upd M i fun c=>x c+t*M k c)=φ (upd M i x):=by
 rw[A.o8 hi,A.kj hi M t (M k),A.alt i k (upd M i (M k)) hi hk hik fun c _=>by rw[bN,aE (Ne.symm hik)],Int.mul_zero,Int.add_zero]
noncomputable def zr(j m:Nat)(M:Fn):Fn:=fun r c=>if r=0 then dl j c else if r≤m∧c=j then 0 else M r c
theorem Alt.zr{n j:Nat}{φ:Fn→Int}(A:Alt (n+1) φ)(M:Fn):∀m,m≤n→φ (Mx.zr j m M)=φ (upd M 0 (dl j))
 |0,_=>A.cg _ _ fun r c hr hc=>by unfold Mx.zr upd;grind
 |m+1,hm=>by
  rw[←A.zr M m (by omega)]
  have e:=A.HE (i:=m+1) (k:=0) (by omega) (by omega) (by omega) (Mx.zr j m M) (M (m+1)) (-M (m+1) j)
  have e1:φ (Mx.zr j (m+1) M)=φ (upd (Mx.zr j m M) (m+1) fun c=>M (m+1) c+ -M (m+1) j*Mx.zr j m M 0 c):=A.cg _ _ fun r c hr hc=>by
   unfold upd Mx.zr dl
   by_cases h0:r=m+1
   · subst h0
     by_cases h1:c=j
     · subst h1;simp;omega
     · have:¬j=c:=fun z=>h1 z.symm
       simp[h1,this]
   · rw[if_neg h0]
     grind
  have e2:φ (upd (Mx.zr j m M) (m+1) (M (m+1)))=φ (Mx.zr j m M):=A.cg _ _ fun r c hr hc=>by
   unfold upd Mx.zr
   grind
  rw[e1,e,e2]
theorem C6:∀ {n:Nat} {φ:Fn→Int},Alt n φ→∀M,φ M=φ dl*D n M
 |0,φ,A,M=>by rw[iW,Int.mul_one];exact A.cg _ _ fun r c hr=>by omega
 |n+1,φ,A,M=>by
  have h1:φ M=S (n+1) fun j=>M 0 j*φ (upd M 0 (dl j)):=by
   rw[←A.og (by omega) M (M 0) dl (n+1)]
   refine A.cg _ _ fun r c hr hc=>?_
   by_cases h0:r=0
   · subst h0
     rw[bN,rl hc]
   · rw[aE h0]
  have h2:∀j,j<n+1→φ (upd M 0 (dl j))=φ (Mx.grow j fun r c=>M (r+1) (sk j c)):=fun j hj=>by
   rw[←A.zr M n (Nat.le_refl _)]
   refine A.cg _ _ fun r c hr hc=>?_
   unfold Mx.grow Mx.zr
   by_cases h0:r=0
   · rw[if_pos h0,if_pos h0]
   · rw[if_neg h0,if_neg h0]
     by_cases h3:c=j
     · rw[if_pos ⟨by omega,h3⟩,if_pos h3]
     · rw[if_neg (by omega),if_neg h3]
       dsimp only
       rw[yR h3,show r-1+1=r by omega]
  rw[h1,dH,←gn]
  refine aQ fun j hj=>?_
  have h3:=C6 (A.grow hj) fun r c=>M (r+1) (sk j c)
  have h4:=A.units j hj
  have h5:φ (Mx.grow j fun r c=>M (r+1) (sk j c))=φ (Mx.grow j dl)*D n fun r c=>M (r+1) (sk j c):=h3
  rw[h2 j hj,h5,h4]
  grind
theorem xQ:∀n,D n dl=1
 |0=>rfl
 |n+1=>by
  rw[dH,nK (k:=0) (by omega) fun j hj h0=>by rw[dX (Ne.symm h0),Int.mul_zero,Int.zero_mul]]
  have:D n (fun r c=>dl (r+1) (sk 0 c))=D n dl:=bq fun r c _ _=>by
   unfold dl sk
   grind
  rw[this,xQ n,dm];rfl
theorem AY:∀ {n:Nat} {M P Q:Fn} {a b:Int} {i:Nat},i<n→(∀r,r<n→M r i=a*P r i+b*Q r i)→(∀r c,r<n→c<n→c≠i→M r c=P r c∧M r c=Q r c)→D n M=a*D n P+b*D n Q
 |0,_,_,_,_,_,_,h,_,_=>by omega
 |n+1,M,P,Q,a,b,i,hi,h0,h=>by
  rw[dH,dH,dH,←gn,←gn,←j9]
  refine aQ fun j hj=>?_
  by_cases hij:j=i
  · subst hij
    have hs:∀c,sk j c≠j:=fun c=>by unfold sk;split<;>omega
    have e1:D n (fun r c=>M (r+1) (sk j c))=D n (fun r c=>P (r+1) (sk j c)):=bq fun r c hr hc=>(h (r+1) (sk j c) (by omega) (jL hc) (hs c)).1
    have e2:D n (fun r c=>M (r+1) (sk j c))=D n (fun r c=>Q (r+1) (sk j c)):=bq fun r c hr hc=>(h (r+1) (sk j c) (by omega) (jL hc) (hs c)).2
    rw[h0 0 (by omega),←e1,←e2]
    grind
  · have p:=h 0 j (by omega) hj hij
    have hu:sk j (un j i)=i:=yR (Ne.symm hij)
    have hs:∀c,c≠un j i→sk j c≠i:=fun c hc=>by unfold sk;unfold un at hc;grind
    have hlt:un j i<n:=rH hj hi (Ne.symm hij)
    have e:=AY (n:=n) (M:=fun r c=>M (r+1) (sk j c)) (P:=fun r c=>P (r+1) (sk j c)) (Q:=fun r c=>Q (r+1) (sk j c)) (a:=a) (b:=b) (i:=un j i) hlt (fun r hr=>by
     rw[hu]
     exact h0 (r+1) (by omega)) fun r c hr hc hne=>h (r+1) (sk j c) (by omega) (jL hc) (hs c hne)
    rw[e,←p.1,←p.2]
    grind
theorem Ay:∀ {n:Nat} {M:Fn} {i:Nat},i+1<n→(∀r,r<n→M r i=M r (i+1))→D n M=0
 |0,_,_,h,_=>by omega
 |n+1,M,i,hi,h=>by
  rw[dH]
  have key:∀j,j<n+1→j≠i→j≠i+1→D n (fun r c=>M (r+1) (sk j c))=0:=fun j hj h1 h2=>by
   refine Ay (i:=un j i) (by unfold un;split<;>omega) fun r hr=>?_
   have e1:sk j (un j i)=i:=yR (Ne.symm h1)
   have e2:sk j (un j i+1)=i+1:=by unfold sk un;grind
   rw[e1,e2]
   exact h (r+1) (by omega)
  have e:D n (fun r c=>M (r+1) (sk i c))=D n (fun r c=>M (r+1) (sk (i+1) c)):=bq fun r c hr hc=>by
   by_cases hc2:c=i
   · subst hc2
     have a1:sk c c=c+1:=by unfold sk;rw[if_neg (by omega)]
     have a2:sk (c+1) c=c:=by unfold sk;rw[if_pos (by omega)]
     rw[a1,a2]
     exact(h (r+1) (by omega)).symm
   · have a1:sk i c=sk (i+1) c:=by unfold sk;grind
     rw[a1]
  have two:∀(m:Nat) (f:Nat→Int),i+1<m→(∀j,j<m→j≠i→j≠i+1→f j=0)→S m f=f i+f (i+1):=fun m=>by
   induction m with
   |zero=>intro f h;omega
   |succ m ih=>
    intro f hm hf
    show S m f+f m=_
    by_cases hmi:m=i+1
    · subst hmi
      rw[nK (k:=i) (by omega) fun j hj hne=>hf j (by omega) hne (by omega)]
    · rw[ih f (by omega) fun j hj h1 h2=>hf j (by omega) h1 h2,hf m (by omega) (by omega) hmi,Int.add_zero]
  rw[two (n+1) _ hi fun j hj h1 h2=>by rw[key j hj h1 h2,Int.mul_zero],e,se,h 0 (by omega)]
  grind
noncomputable def tr(M:Fn):Fn:=fun r c=>M c r
theorem oS(n:Nat)(M:Fn):D n (tr M)=D n M:=by
 have al:Alt n fun A=>D n (tr A):=sd (fun M M' h=>bq fun r c hr hc=>h c r hc hr)
  (fun i M P Q a b hi h0 h=>AY hi (fun r hr=>h0 r hr) fun r c hr hc hne=>h c r hc hr hne)
  fun i M hi h=>Ay hi fun r hr=>h r hr
 have h:=C6 al M
 have e:D n (tr dl)=D n dl:=bq fun r c _ _=>m6 c r
 have h2:D n (tr M)=D n (tr dl)*D n M:=h
 rw[h2,e,xQ,Int.one_mul]
noncomputable def Pr:Nat→(Nat→Int)→Int
 |0,_=>1
 |n+1,f=>Pr n f*f n
theorem rY:∀ {n:Nat} {M:Fn},(∀c,c<n+1→M n c=dl n c)→D (n+1) M=D n M
 |0,M,h=>by
  rw[dH]
  show 0+sg 0*M 0 0*D 0 _=1
  rw[h 0 (by omega),dm,sX,iW];omega
 |n+1,M,h=>by
  have e1:∀j,j<n+1→D (n+1) (fun r c=>M (r+1) (sk j c))=D n (fun r c=>M (r+1) (sk j c)):=fun j hj=>rY fun c hc=>by
   rw[h (sk j c) (jL hc)]
   unfold dl sk
   grind
  have e2:D (n+1) (fun r c=>M (r+1) (sk (n+1) c))=0:=(kR (n+1)).Fy (i:=n) (by omega) fun c hc=>by
   have s:sk (n+1) c=c:=by unfold sk;rw[if_pos (by omega)]
   rw[s,h c (by omega),dX (by omega)]
  have e3:D (n+1+1) M=(S (n+1) fun j=>sg j*M 0 j*D (n+1) fun r c=>M (r+1) (sk j c))+sg (n+1)*M 0 (n+1)*D (n+1) (fun r c=>M (r+1) (sk (n+1) c)):=dH (n+1) M
  rw[e3,e2,Int.mul_zero,Int.add_zero,dH]
  exact aQ fun j hj=>by rw[e1 j hj]
end Mx
namespace Mx
theorem lW{M:Fn}{i j:Nat}{x y:Nat→Int}(h:i≠j):upd (upd M i x) j y=upd (upd M j y) i x:=by
 funext r c
 unfold upd
 grind
noncomputable def gx(R:Fn)(p:Nat)(x:Nat→Int)(j:Nat):Int:=D (p+1) fun r c=>if r<p then R r (if c<p then c else j)else x (if c<p then c else j)
theorem zZ{R:Fn}{p j:Nat}{x:Nat→Int}(h:j<p):gx R p x j=0:=by
 unfold gx
 rw[←oS]
 refine(kR (p+1)).alt j p _ (by omega) (by omega) (by omega) fun c hc=>?_
 unfold tr
 dsimp only
 rw[if_pos h,if_neg (Nat.lt_irrefl p)]
noncomputable def bt(R:Fn)(p:Nat)(x:Nat→Int)(k:Nat):Int:=D (p+1) (upd (fun c r=>if r<p then R r c else x c) p (dl k))
theorem CI(R:Fn)(p:Nat)(x:Nat→Int)(j:Nat):gx R p x j=D p R*x j+S p fun k=>bt R p x k*R k j:=by
 have e1:gx R p x j=D (p+1) (upd (fun c r=>if r<p then R r c else x c) p fun r=>S (p+1) fun k=>(if k<p then R k j else x j)*dl k r):=by
  unfold gx
  rw[←oS]
  refine bq fun c r hc hr=>?_
  unfold tr upd
  by_cases h:c=p
  · subst h
    rw[if_pos rfl]
    dsimp only
    rw[rl hr,if_neg (Nat.lt_irrefl _)]
  · rw[if_neg h]
    dsimp only
    rw[if_pos (show c<p by omega)]
 rw[e1,(kR (p+1)).og (by omega)]
 have e2:D (p+1) (upd (fun c r=>if r<p then R r c else x c) p (dl p))=D p R:=by
  rw[rY fun c _=>bN _ _ _ _]
  rw[←oS]
  refine bq fun r c hr hc=>?_
  unfold tr
  rw[aE (by omega),if_pos (by omega)]
 have e3:(S (p+1) fun k=>(if k<p then R k j else x j)*D (p+1) (upd (fun c r=>if r<p then R r c else x c) p (dl k)))=(S p fun k=>(if k<p then R k j else x j)*D (p+1) (upd (fun c r=>if r<p then R r c else x c) p (dl k)))+(if p<p then R p j else x j)*D (p+1) (upd (fun c r=>if r<p then R r c else x c) p (dl p)):=rfl
 rw[e3,e2,if_neg (Nat.lt_irrefl p),Int.add_comm,Int.mul_comm]
 congr 1
 refine aQ fun k hk=>?_
 rw[if_pos hk,Int.mul_comm]
 rfl
noncomputable def cl(p j1 j2 c:Nat):Nat:=if c<p then c else if c=p then j1 else j2
noncomputable def gy(R:Fn)(p:Nat)(x y:Nat→Int)(j1 j2:Nat):Int:=D (p+2) (upd (upd (fun r c=>R r (cl p j1 j2 c)) p fun c=>x (cl p j1 j2 c)) (p+1) fun c=>y (cl p j1 j2 c))
theorem Ip{R:Fn}{p j1 j2:Nat}{x y:Nat→Int}(hd:D p R≠0):gx R p x j1*gx R p y j2-gx R p y j1*gx R p x j2=D p R*gy R p x y j1 j2:=by
 have A:=kR (p+2)
 let B:Fn:=fun r c=>R r (cl p j1 j2 c)
 let ps:(Nat→Int)→(Nat→Int)→Int:=fun u v=>D (p+2) (upd (upd B p u) (p+1) v)
 have s1:∀u,ps u (fun c=>gx R p y (cl p j1 j2 c))=D p R*ps u fun c=>y (cl p j1 j2 c):=fun u=>by
  have e:(fun c=>gx R p y (cl p j1 j2 c))=fun c=>(fun c=>D p R*y (cl p j1 j2 c)) c+S p fun k=>bt R p y k*upd B p u k c:=by
   funext c
   rw[CI]
   congr 1
   refine aQ fun k hk=>?_
   rw[aE (by omega)]
  show D (p+2) (upd (upd B p u) (p+1) fun c=>gx R p y (cl p j1 j2 c))=_
  rw[e,A.more (i:=p+1) (by omega) (upd B p u) (fun c=>D p R*y (cl p j1 j2 c)) (bt R p y) p (by omega) (by omega),A.kj (by omega)]
 have s2:∀v,ps (fun c=>gx R p x (cl p j1 j2 c)) v=D p R*ps (fun c=>x (cl p j1 j2 c)) v:=fun v=>by
  have e:(fun c=>gx R p x (cl p j1 j2 c))=fun c=>(fun c=>D p R*x (cl p j1 j2 c)) c+S p fun k=>bt R p x k*upd B (p+1) v k c:=by
   funext c
   rw[CI]
   congr 1
   refine aQ fun k hk=>?_
   rw[aE (by omega)]
  show D (p+2) (upd (upd B p fun c=>gx R p x (cl p j1 j2 c)) (p+1) v)=D p R*D (p+2) (upd (upd B p fun c=>x (cl p j1 j2 c)) (p+1) v)
  rw[lW (by omega),e,A.more (i:=p) (by omega) (upd B (p+1) v) (fun c=>D p R*x (cl p j1 j2 c)) (bt R p x) p (by omega) (by omega),A.kj (by omega),lW (by omega)]
 have lhs:ps (fun c=>gx R p x (cl p j1 j2 c)) (fun c=>gx R p y (cl p j1 j2 c))=D p R*(D p R*gy R p x y j1 j2):=by
  rw[s1,s2];rfl
 have two:∀z:Nat→Int,∀c,c<p+2→gx R p z (cl p j1 j2 c)=gx R p z j1*dl p c+gx R p z j2*dl (p+1) c:=fun z c hc=>by
  unfold cl
  by_cases h1:c<p
  · rw[if_pos h1,zZ h1,dX (by omega),dX (by omega)];omega
  · rw[if_neg h1]
    by_cases h2:c=p
    · rw[if_pos h2,h2,dm,dX (by omega)];omega
    · rw[if_neg h2,show c=p+1 by omega,dm,dX (by omega)];omega
 have lin2:∀u a b,ps u (fun c=>a*dl p c+b*dl (p+1) c)=a*ps u (dl p)+b*ps u (dl (p+1)):=fun u a b=>by
  show D (p+2) (upd (upd B p u) (p+1) fun c=>a*dl p c+b*dl (p+1) c)=_
  rw[A.o8 (by omega),A.kj (by omega),A.kj (by omega)]
 have lin1:∀v a b,ps (fun c=>a*dl p c+b*dl (p+1) c) v=a*ps (dl p) v+b*ps (dl (p+1)) v:=fun v a b=>by
  show D (p+2) (upd (upd B p fun c=>a*dl p c+b*dl (p+1) c) (p+1) v)=a*D (p+2) (upd (upd B p (dl p)) (p+1) v)+b*D (p+2) (upd (upd B p (dl (p+1))) (p+1) v)
  rw[lW (by omega),A.o8 (by omega),A.kj (by omega),A.kj (by omega),lW (by omega),lW (show p+1≠p by omega)]
 have z1:∀u,ps u u=0:=fun u=>A.alt p (p+1) _ (by omega) (by omega) (by omega) fun c _=>by rw[aE (by omega),bN,bN]
 have z2:ps (dl (p+1)) (dl p)= -ps (dl p) (dl (p+1)):=by
  have h:=A.swap (i:=p) (j:=p+1) (by omega) (by omega) (by omega) (upd (upd B p (dl p)) (p+1) (dl (p+1)))
  rw[←h]
  refine bq fun r c hr hc=>?_
  unfold upd sw
  grind
 have z3:ps (dl p) (dl (p+1))=D p R:=by
  show D (p+2) (upd (upd B p (dl p)) (p+1) (dl (p+1)))=_
  rw[rY fun c _=>bN _ _ _ _]
  have e:D (p+1) (upd (upd B p (dl p)) (p+1) (dl (p+1)))=D (p+1) (upd B p (dl p)):=bq fun r c hr hc=>aE (by omega) c
  rw[e,rY fun c _=>bN _ _ _ _]
  refine bq fun r c hr hc=>?_
  rw[aE (by omega)]
  show R r (cl p j1 j2 c)=R r c
  unfold cl
  rw[if_pos hc]
 have rhs:ps (fun c=>gx R p x (cl p j1 j2 c)) (fun c=>gx R p y (cl p j1 j2 c))=D p R*(gx R p x j1*gx R p y j2-gx R p y j1*gx R p x j2):=by
  have e:ps (fun c=>gx R p x (cl p j1 j2 c)) (fun c=>gx R p y (cl p j1 j2 c))=ps (fun c=>gx R p x j1*dl p c+gx R p x j2*dl (p+1) c) (fun c=>gx R p y j1*dl p c+gx R p y j2*dl (p+1) c):=bq fun r c hr hc=>by
   unfold upd
   by_cases h1:r=p+1
   · rw[if_pos h1,if_pos h1];exact two y c hc
   · rw[if_neg h1,if_neg h1]
     by_cases h2:r=p
     · rw[if_pos h2,if_pos h2];exact two x c hc
     · rw[if_neg h2,if_neg h2]
  rw[e,lin1,lin2,lin2,z1,z1,z2,z3]
  grind
 have:=lhs.symm.trans rhs
 exact(Int.eq_of_mul_eq_mul_left hd this).symm
theorem J0{n:Nat}{f:Nat→Int}{m:Nat}(h:∀i,i<n→(f i).natAbs≤m):(S n f).natAbs≤n*m:=by
 induction n with
 |zero=>simp[S]
 |succ n ih=>
  have h1:=ih fun i hi=>h i (by omega)
  have h2:=h n (by omega)
  show(S n f+f n).natAbs≤_
  rw[Nat.succ_mul]
  omega
theorem rp{m:Nat}:∀ {n:Nat} {M:Fn},n≤8→(∀r c,r<n→c<n→(M r c).natAbs≤m)→(D n M).natAbs≤(8*m)^n
 |0,_,_,_=>by simp[D]
 |n+1,M,hn,h=>by
  rw[dH]
  have key:∀j,j<n+1→(sg j*M 0 j*D n fun r c=>M (r+1) (sk j c)).natAbs≤m*(8*m)^n:=fun j hj=>by
   have a:=rp (n:=n) (M:=fun r c=>M (r+1) (sk j c)) (by omega) fun r c hr hc=>h (r+1) (sk j c) (by omega) (jL hc)
   have b:=h 0 j (by omega) hj
   have s:(sg j).natAbs=1:=by unfold sg;split<;>rfl
   rw[Int.natAbs_mul,Int.natAbs_mul,s,Nat.one_mul]
   exact Nat.mul_le_mul b a
  have e:=J0 key
  refine Nat.le_trans e ?_
  rw[Nat.pow_succ,Nat.mul_comm ((8*m)^n),Nat.mul_assoc]
  have:(n+1)*(m*(8*m)^n)≤8*(m*(8*m)^n):=Nat.mul_le_mul_right _ hn
  exact this
end Mx
namespace Mx
end Mx
namespace Mx
theorem k_(R:Fn)(x:Nat→Int)(j:Nat):gx R 0 x j=x j:=by
 unfold gx
 rw[dH]
 show 0+sg 0*_*D 0 _=_
 rw[sX,iW,if_neg (by omega),if_neg (by omega)]
 omega
theorem mS(R:Fn)(p:Nat):gx R p (R p) p=D (p+1) R:=bq fun r c hr hc=>by
 have e2:(if c<p then c else p)=c:=by split<;>omega
 rw[e2]
 split
 · rfl
 · have:r=p:=by omega
   rw[this]
theorem Iv(R:Fn)(p:Nat)(y:Nat→Int)(j:Nat):gy R p (R p) y p j=gx R (p+1) y j:=by
 unfold gy gx
 refine bq fun r c hr hc=>?_
 have ec:cl p p j c=if c<p+1 then c else j:=by unfold cl;grind
 unfold upd
 dsimp only
 rw[ec]
 by_cases a1:r=p+1
 · rw[if_pos a1,if_neg (show¬r<p+1 by omega)]
 · rw[if_neg a1,if_pos (show r<p+1 by omega)]
   by_cases a2:r=p
   · rw[if_pos a2,a2]
   · rw[if_neg a2]
theorem jQ{R:Fn}{p:Nat}(hd:D p R≠0)(y:Nat→Int)(j:Nat):D (p+1) R*gx R p y j-gx R p y p*gx R p (R p) j=D p R*gx R (p+1) y j:=by
 rw[←Iv,←Ip hd,mS]
theorem lR{G:Fn}(sym:∀i j,G i j=G j i)(p k j:Nat):gx G p (G k) j=gx G p (G j) k:=by
 unfold gx
 rw[←oS]
 refine bq fun r c hr hc=>?_
 unfold tr
 by_cases h1:c<p
 · by_cases h2:r<p
   · simp only[if_pos h1,if_pos h2];exact sym _ _
   · simp only[if_pos h1,if_neg h2];exact sym _ _
 · by_cases h2:r<p
   · simp only[if_neg h1,if_pos h2];exact sym _ _
   · simp only[if_neg h1,if_neg h2];exact sym _ _
theorem Ai{G:Fn}{n m p i j:Nat}(hn:n≤8)(hb:∀r c,r<n→c<n→(G r c).natAbs≤m)(hp:p<n)(hi:i<n)(hj:j<n):(gx G p (G i) j).natAbs≤(8*m)^(p+1):=
 rp (by omega) fun r c hr hc=>by
  split
  · exact hb _ _ (by omega) (by split<;>omega)
  · exact hb _ _ hi (by split<;>omega)
noncomputable def lam(G:Fn)(i j:Nat):Int:=gx G j (G i) j
theorem dP(G:Fn)(i:Nat):lam G i i=D (i+1) G:=mS G i
theorem vi{G:Fn}(sym:∀i j,G i j=G j i){k:Nat}(hd:D k G≠0)(i j:Nat):(D (k+1) G*gx G k (G i) j-lam G i k*lam G j k).fdiv (D k G)=gx G (k+1) (G i) j:=by
 have h:=jQ hd (G i) j
 rw[lR sym k k j]at h
 unfold lam
 rw[h,Int.mul_fdiv_cancel_left _ hd]
noncomputable def ae(A:Rows):Fn:=fun i j=>gC (A.getD i []) (A.getD j [])
end Mx
namespace Mx
theorem vJ:∀a b:Row,gC a b=gC b a
 | [],[]=>rfl
 | [],_::_=>rfl
 |_::_,[]=>rfl
 |a::as,b::bs=>by
  unfold gC
  rw[vJ as bs,Int.mul_comm]
theorem jf(A:Rows)(i j:Nat):ae A i j=ae A j i:=vJ _ _
noncomputable def aO(G:Fn)(i:Nat):Row:=(List.range (i+1)).map fun j=>lam G i j
noncomputable def oV(G:Fn)(n:Nat):Rows:=(List.range n).map (aO G)
theorem d6(G:Fn)(i:Nat):(aO G i).length=i+1:=by unfold aO;simp
theorem ir(G:Fn){i j:Nat}(h:j≤i):(aO G i).getD j 0=lam G i j:=by
 unfold aO
 rw[aX (by simp;omega),List.getElem_map,List.getElem_range]
theorem vU(G:Fn)(n:Nat):(oV G n).length=n:=by unfold oV;simp
theorem xf(G:Fn){n i:Nat}(h:i<n):(oV G n).getD i []=aO G i:=by
 unfold oV
 rw[aX (by simpa using h),List.getElem_map,List.getElem_range]
end Mx
namespace Mx
noncomputable def RA(A:Rows)(N:Nat):Fn:=fun i j=>if j<N then ae A i j else(A.getD i []).getD (j-N) 0
noncomputable def ev(A:Rows)(N i k c:Nat):Int:=gx (RA A N) k (RA A N i) (N+c)
theorem Bk{A:Rows}{N k:Nat}(hk:k≤N):D k (RA A N)=D k (ae A):=bq fun r c hr hc=>if_pos (by omega)
theorem IH{A:Rows}{N k i j:Nat}(hk:k≤N)(hj:j<N):gx (RA A N) k (RA A N i) j=gx (ae A) k (ae A i) j:=bq fun r c hr hc=>by
 have h:(if c<k then c else j)<N:=by split<;>omega
 unfold RA
 rw[if_pos h,if_pos h]
theorem sP(A:Rows)(N i c:Nat):ev A N i 0 c=(A.getD i []).getD c 0:=by
 unfold ev
 rw[k_]
 unfold RA
 rw[if_neg (by omega)]
 congr 1;omega
theorem sW{A:Rows}{N k:Nat}(hk:k<N)(hd:D k (ae A)≠0)(i c:Nat):D k (ae A)*ev A N i (k+1) c=D (k+1) (ae A)*ev A N i k c-lam (ae A) i k*ev A N k k c:=by
 have h:=jQ (R:=RA A N) (p:=k) (by rw[Bk (by omega)];exact hd) (RA A N i) (N+c)
 rw[Bk (by omega),Bk (by omega),IH (by omega) hk]at h
 unfold ev lam
 omega
theorem i4(n:Nat)(a b:Int)(f g:Nat→Int):S n (fun c=>a*f c-b*g c)=a*S n f-b*S n g:=by
 induction n with
 |zero=>show(0:Int)=a*0-b*0;omega
 |succ n ih=>
  show S n (fun c=>a*f c-b*g c)+(a*f n-b*g n)=a*(S n f+f n)-b*(S n g+g n)
  rw[ih,Int.mul_add,Int.mul_add];omega
theorem cancel{a x y:Int}(ha:a≠0)(h:a*x=a*y):x=y:=Int.eq_of_mul_eq_mul_left ha h
section
variable {A:Rows}{N w:Nat}
theorem oK(hA:bZ N w A)(hD:∀k,k≤N→D k (ae A)≠0){m:Nat}(hm:m<N):∀(k i:Nat),k≤N→i<N→S w (fun c=>ev A N i k c*(A.getD m []).getD c 0)=gx (ae A) k (ae A i) m
 |0,i,_,hi=>by
  rw[k_]
  have hl:=hA.len
  have e1:(A.getD i []).length=w:=hA.ij _ (by rw[aX (by omega)];exact List.getElem_mem _)
  have e2:(A.getD m []).length=w:=hA.ij _ (by rw[aX (by omega)];exact List.getElem_mem _)
  unfold ae
  rw[kv (by rw[e1,e2]),e2]
  refine aQ fun c hc=>?_
  rw[sP]
 |k+1,i,hk,hi=>by
  have hd:=hD k (by omega)
  refine cancel hd ?_
  rw[←gn,←jQ hd (ae A i) m]
  have e:S w (fun c=>D k (ae A)*(ev A N i (k+1) c*(A.getD m []).getD c 0))=S w fun c=>D (k+1) (ae A)*(ev A N i k c*(A.getD m []).getD c 0)-lam (ae A) i k*(ev A N k k c*(A.getD m []).getD c 0):=aQ fun c hc=>by
   rw[←Int.mul_assoc,sW (by omega) hd,Int.sub_mul,Int.mul_assoc,Int.mul_assoc]
  rw[e,i4,oK hA hD hm k i (by omega) hi,oK hA hD hm k k (by omega) (by omega)]
  rfl
theorem sF(hA:bZ N w A)(hD:∀k,k≤N→D k (ae A)≠0){i:Nat}(hi:i<N):∀(k j:Nat),k≤j→j<i→S w (fun c=>ev A N i i c*ev A N j k c)=0
 |0,j,_,hj=>by
  have:=oK hA hD (m:=j) (by omega) i i (by omega) hi
  rw[zZ hj]at this
  rw[←this]
  exact aQ fun c hc=>by rw[sP]
 |k+1,j,hk,hj=>by
  have hd:=hD k (by omega)
  refine cancel hd ?_
  rw[←gn]
  have e:S w (fun c=>D k (ae A)*(ev A N i i c*ev A N j (k+1) c))=S w fun c=>D (k+1) (ae A)*(ev A N i i c*ev A N j k c)-lam (ae A) j k*(ev A N i i c*ev A N k k c):=aQ fun c hc=>by
   rw[Int.mul_left_comm,sW (by omega) hd,Int.mul_sub,Int.mul_left_comm,Int.mul_left_comm (ev A N i i c)]
  rw[e,i4,sF hA hD hi k j (by omega) hj,sF hA hD hi k k (Nat.le_refl _) (by omega)]
  simp
theorem ou(hA:bZ N w A)(hD:∀k,k≤N→D k (ae A)≠0){i:Nat}(hi:i<N):∀k,k≤i→S w (fun c=>ev A N i i c*ev A N i k c)=D k (ae A)*D (i+1) (ae A)
 |0,_=>by
  have:=oK hA hD (m:=i) hi i i (by omega) hi
  rw[mS]at this
  rw[iW,Int.one_mul,←this]
  exact aQ fun c hc=>by rw[sP]
 |k+1,hk=>by
  have hd:=hD k (by omega)
  refine cancel hd ?_
  rw[←gn]
  have e:S w (fun c=>D k (ae A)*(ev A N i i c*ev A N i (k+1) c))=S w fun c=>D (k+1) (ae A)*(ev A N i i c*ev A N i k c)-lam (ae A) i k*(ev A N i i c*ev A N k k c):=aQ fun c hc=>by
   rw[Int.mul_left_comm,sW (by omega) hd,Int.mul_sub,Int.mul_left_comm,Int.mul_left_comm (ev A N i i c)]
  rw[e,i4,ou hA hD hi k (by omega),sF hA hD hi k k (Nat.le_refl _) (by omega),Int.mul_zero,Int.sub_zero,Int.mul_left_comm]
end
end Mx
namespace Mx
theorem lJ{n:Nat}{f:Nat→Int}(h:∀i,i<n→0≤f i):0≤S n f:=by
 induction n with
 |zero=>exact Int.le_refl _
 |succ n ih=>exact Int.add_nonneg (ih fun i hi=>h i (by omega)) (h n (by omega))
theorem sq_nonneg(x:Int):0≤x*x:=by
 rcases Int.le_total 0 x with h|h
 · exact Int.mul_nonneg h h
 · exact Int.mul_nonneg_of_nonpos_of_nonpos h h
theorem yr{A:Rows}{N w:Nat}(hA:bZ N w A)(hD:∀k,k≤N→D k (ae A)≠0):∀k,k≤N→0<D k (ae A)
 |0,_=>by rw[iW];decide
 |k+1,hk=>by
  have ih:=yr hA hD k (by omega)
  have h:=ou hA hD (i:=k) (by omega) k (Nat.le_refl _)
  have h2:0≤D k (ae A)*D (k+1) (ae A):=by rw[←h];exact lJ fun i _=>sq_nonneg _
  have h3:=Int.nonneg_of_mul_nonneg_right h2 ih
  have h4:=hD (k+1) hk
  omega
structure Sh(G:Fn)(N:Nat):Prop where
 half:∀i j,j<i→i<N→2*(((lam G i j).natAbs:Nat):Int)≤D (j+1) G
 HZ:∀i,0<i→i<N→¬4*D (i+1) G*D (i-1) G<3*D i G*D i G-4*lam G i (i-1)*lam G i (i-1)
end Mx
namespace Mx
noncomputable def ng(M:Fn)(k j:Nat)(q:Int):Fn:=fun a b=>if a=k then M a b-q*M j b else M a b
noncomputable def oM(M:Fn)(k j:Nat)(q:Int):Fn:=fun a b=>if b=k then M a b-q*M a j else M a b
noncomputable def tk(G:Fn)(k j:Nat)(q:Int):Fn:=oM (ng G k j q) k j q
theorem Dm{n k j:Nat}(M:Fn)(q:Int)(hk:k<n)(hj:j<n)(h:k≠j):D n (ng M k j q)=D n M:=by
 have e:=(kR n).HE hk hj h M (M k) (-q)
 have e1:D n (upd M k fun c=>M k c+ -q*M j c)=D n (ng M k j q):=bq fun r c _ _=>by
  unfold upd ng
  by_cases hr:r=k
  · rw[if_pos hr,if_pos hr,hr]
    dsimp only
    rw[Int.neg_mul];omega
  · rw[if_neg hr,if_neg hr]
 have e2:D n (upd M k (M k))=D n M:=bq fun r c _ _=>by
  unfold upd
  by_cases hr:r=k
  · rw[if_pos hr,hr]
  · rw[if_neg hr]
 rw[←e1,e,e2]
theorem CW{n k j:Nat}(M:Fn)(q:Int)(hk:k<n)(hj:j<n)(h:k≠j):D n (oM M k j q)=D n M:=by
 rw[←oS n M,←Dm (tr M) q hk hj h,←oS n (oM M k j q)]
 exact bq fun r c _ _=>rfl
theorem fI(G:Fn)(i p:Nat):lam G i p=D (p+1) fun r c=>G (if r<p then r else i) c:=bq fun r c hr hc=>by
 have e:(if c<p then c else p)=c:=by split<;>omega
 rw[e]
 split<;>rfl
theorem FY{G:Fn}{p j c:Nat}(h:j<p):gx G p (G j) c=0:=by
 unfold gx
 refine(kR (p+1)).alt j p _ (by omega) (by omega) (by omega) fun c' hc'=>?_
 rw[if_pos h,if_neg (Nat.lt_irrefl p)]
theorem qX{G:Fn}{j p:Nat}(h:j<p):lam G j p=0:=FY h
theorem Gw{G:Fn}{k j i p:Nat}{q:Int}(hj:j<k)(hp:p≤i):lam (tk G k j q) i p=lam G i p-if i=k then q*lam G j p else 0:=by
 by_cases h1:p<k
 · by_cases hi:i=k
   · rw[if_pos hi,fI,fI,fI]
     have e:=yX (n:=p+1) (M:=fun r c=>tk G k j q (if r<p then r else i) c) (P:=fun r c=>G (if r<p then r else i) c) (Q:=fun r c=>G (if r<p then r else j) c) (a:=1) (b:= -q) (i:=p) (by omega) (fun c hc=>by
      try dsimp only
      rw[if_neg (Nat.lt_irrefl p)]
      rw[if_neg (Nat.lt_irrefl p)]
      unfold tk oM ng
      rw[if_neg (by omega),if_pos hi,hi,Int.neg_mul];omega) (fun r c hr hc hne=>by
      try dsimp only
      have hrp:r<p:=by omega
      rw[if_pos hrp,if_pos hrp]
      unfold tk oM ng
      rw[if_neg (by omega),if_neg (by omega)]
      exact⟨rfl,rfl⟩)
     rw[e,Int.one_mul,Int.neg_mul];omega
   · rw[if_neg hi,Int.sub_zero,fI,fI]
     refine bq fun r c hr hc=>?_
     unfold tk oM ng
     rw[if_neg (by omega),if_neg (by split<;>omega)]
 · have e0:(if i=k then q*lam G j p else 0)=0:=by
    split
    · rw[qX (by omega),Int.mul_zero]
    · rfl
   rw[e0,Int.sub_zero,fI,fI]
   by_cases h2:k<p∨i=k
   ·
    have hkk:∀r,r<p+1→((if r<p then r else i)=k↔r=if k<p then k else p):=fun r hr=>by
     by_cases hkp:k<p
     · rw[if_pos hkp];split<;>omega
     · rw[if_neg hkp];split<;>omega
    have hk':(if k<p then k else p)=k:=by split<;>omega
    rw[←Dm (fun r c=>G (if r<p then r else i) c) q (show k<p+1 by omega) (show j<p+1 by omega) (by omega),←CW (ng (fun r c=>G (if r<p then r else i) c) k j q) q (show k<p+1 by omega) (show j<p+1 by omega) (by omega)]
    refine bq fun r c hr hc=>?_
    have hrk:=hkk r hr
    rw[hk']at hrk
    have hjj:(if j<p then j else i)=j:=if_pos (by omega)
    unfold tk oM ng
    by_cases hr2:r=k
    · subst hr2
      have:=hrk.mpr rfl
      simp only[this,if_true,hjj]
    · have hne:¬(if r<p then r else i)=k:=fun z=>hr2 (hrk.mp z)
      simp only[if_neg hne,if_neg hr2]
   · have hpk:p=k:=by omega
     have hik:i≠k:=by omega
     rw[←CW (fun r c=>G (if r<p then r else i) c) q (show k<p+1 by omega) (show j<p+1 by omega) (by omega)]
     refine bq fun r c hr hc=>?_
     have hne:¬(if r<p then r else i)=k:=by split<;>omega
     unfold tk oM ng
     simp only[if_neg hne]
end Mx
namespace Mx
noncomputable def bK(G:Fn)(t:Nat):Fn:=fun a b=>G (sw t (t+1) a) (sw t (t+1) b)
theorem uZ(t:Nat):sw t (t+1) t=t+1:=if_pos rfl
theorem yA(t:Nat):sw t (t+1) (t+1)=t:=by unfold sw;rw[if_neg (by omega),if_pos rfl]
theorem iA{t a:Nat}(h1:a≠t)(h2:a≠t+1):sw t (t+1) a=a:=by unfold sw;rw[if_neg h1,if_neg h2]
theorem Dy{n i j:Nat}(hi:i<n)(hj:j<n)(h:i≠j)(M:Fn):D n (fun r c=>M (sw i j r) c)= -D n M:=(kR n).swap hi hj h M
theorem IP{n i j:Nat}(hi:i<n)(hj:j<n)(h:i≠j)(M:Fn):D n (fun r c=>M r (sw i j c))= -D n M:=by
 rw[←oS n M,←Dy hi hj h (tr M),←oS]
 exact bq fun r c _ _=>rfl
theorem Hw{n t:Nat}(h:t+1<n)(M:Fn):D n (fun r c=>M (sw t (t+1) r) (sw t (t+1) c))=D n M:=by
 have e1:=Dy (n:=n) (i:=t) (j:=t+1) (by omega) h (by omega) fun r c=>M r (sw t (t+1) c)
 have e2:=IP (n:=n) (i:=t) (j:=t+1) (by omega) h (by omega) M
 rw[e1,e2];omega
theorem kU{G:Fn}{t p:Nat}(h:p≠t+1):D p (bK G t)=D p G:=by
 by_cases h1:p≤t
 · refine bq fun r c hr hc=>?_
   unfold bK
   rw[iA (by omega) (by omega),iA (by omega) (by omega)]
 · exact Hw (by omega) G
theorem jW{G:Fn}{t i p:Nat}(h:p<t):lam (bK G t) i p=lam G (sw t (t+1) i) p:=by
 rw[fI,fI]
 refine bq fun r c hr hc=>?_
 unfold bK
 rw[iA (a:=c) (by omega) (by omega)]
 by_cases hr2:r<p
 · rw[if_pos hr2,if_pos hr2,iA (by omega) (by omega)]
 · rw[if_neg hr2,if_neg hr2]
theorem Cp{G:Fn}{t i p:Nat}(h:t+1<p)(hi:p≤i):lam (bK G t) i p=lam G i p:=by
 rw[fI,fI,←Hw (n:=p+1) (t:=t) (by omega) (fun r c=>G (if r<p then r else i) c)]
 refine bq fun r c hr hc=>?_
 unfold bK
 by_cases hr2:r<p
 · have:sw t (t+1) r<p:=by
    unfold sw
    by_cases h1:r=t
    · rw[if_pos h1];omega
    · rw[if_neg h1]
      by_cases h2:r=t+1
      · rw[if_pos h2];omega
      · rw[if_neg h2];exact hr2
   rw[if_pos hr2,if_pos this]
 · have e:r=p:=by omega
   rw[if_neg hr2,e,iA (a:=p) (by omega) (by omega),if_neg (Nat.lt_irrefl p),iA (a:=i) (by omega) (by omega)]
theorem qB{G:Fn}{t i:Nat}:lam (bK G t) i t=gx G t (G (sw t (t+1) i)) (t+1):=by
 unfold lam gx
 refine bq fun r c hr hc=>?_
 have ec:sw t (t+1) (if c<t then c else t)=if c<t then c else t+1:=by
  by_cases h:c<t
  · rw[if_pos h,if_pos h,iA (by omega) (by omega)]
  · rw[if_neg h,if_neg h,uZ]
 unfold bK
 rw[ec]
 by_cases hr2:r<t
 · rw[if_pos hr2,if_pos hr2,iA (by omega) (by omega)]
 · rw[if_neg hr2,if_neg hr2]
section
variable {G:Fn}{t:Nat}(sym:∀i j,G i j=G j i)
include sym
theorem Ff:∀i j,bK G t i j=bK G t j i:=fun i j=>sym _ _
theorem vv:lam (bK G t) (t+1) t=lam G (t+1) t:=by
 rw[qB,yA,lR sym];rfl
theorem mY(hd:D t G≠0):D (t+1) G*lam (bK G t) t t=D t G*D (t+2) G+lam G (t+1) t*lam G (t+1) t:=by
 have h:=jQ hd (G (t+1)) (t+1)
 rw[mS,lR sym t t (t+1)]at h
 rw[qB,uZ]
 unfold lam
 rw[show t+1+1=t+2 from rfl]at h
 omega
theorem Gz:lam (bK G t) (t+1) (t+1)=lam G (t+1) (t+1):=by
 rw[dP,dP];exact kU (by omega)
theorem Ak(hd:D t G≠0){i:Nat}(hi:t+1<i):D (t+1) G*lam (bK G t) i t=D t G*lam G i (t+1)+lam G (t+1) t*lam G i t:=by
 have h:=jQ hd (G i) (t+1)
 rw[lR sym t t (t+1)]at h
 rw[qB,iA (by omega) (by omega)]
 unfold lam
 have e:gx G t (G i) t*gx G t (G (t+1)) t=gx G t (G (t+1)) t*gx G t (G i) t:=Int.mul_comm _ _
 omega
theorem Ds(hd:D t G≠0)(hd1:D (t+1) G≠0){i:Nat}(hi:t+1<i):D (t+1) G*lam (bK G t) i (t+1)=D (t+2) G*lam G i t-lam G (t+1) t*lam G i (t+1):=by
 have hd':D t (bK G t)≠0:=by rw[kU (by omega)];exact hd
 have h:=jQ hd' (bK G t i) (t+1)
 have e1:gx (bK G t) t (bK G t i) (t+1)=lam G i t:=by
  unfold lam gx
  refine bq fun r c hr hc=>?_
  have ec:sw t (t+1) (if c<t then c else t+1)=if c<t then c else t:=by
   by_cases h:c<t
   · rw[if_pos h,if_pos h,iA (by omega) (by omega)]
   · rw[if_neg h,if_neg h,yA]
  unfold bK
  rw[ec]
  by_cases hr2:r<t
  · rw[if_pos hr2,if_pos hr2,iA (by omega) (by omega)]
  · rw[if_neg hr2,if_neg hr2,iA (by omega) (by omega)]
 have e2:gx (bK G t) t (bK G t i) t=lam (bK G t) i t:=rfl
 have e3:gx (bK G t) t (bK G t t) (t+1)=lam G (t+1) t:=by
  rw[lR (Ff sym)];exact vv sym
 have e4:gx (bK G t) (t+1) (bK G t i) (t+1)=lam (bK G t) i (t+1):=rfl
 have e5:D (t+1) (bK G t)=lam (bK G t) t t:=(dP _ _).symm
 rw[e1,e2,e3,e4,e5,kU (by omega)]at h
 have m:=mY (t:=t) sym hd
 have l:=Ak sym hd hi
 refine cancel hd ?_
 grind
theorem Ee(hd:D t G≠0)(hd1:D (t+1) G≠0){i:Nat}(hi:t+1<i):D (t+2) G*lam (bK G t) i t=lam (bK G t) t t*lam G i (t+1)+lam G (t+1) t*lam (bK G t) i (t+1):=by
 have m:=mY (t:=t) sym hd
 have l:=Ak sym hd hi
 have u:=Ds sym hd hd1 hi
 refine cancel hd1 ?_
 grind
end
end Mx
namespace Mx
theorem Fe{a b c x y:Int}(ha:0≤a)(hb:0≤b)(h:c*c≤a*b):2*(c*(x*y))≤a*(y*y)+b*(x*x):=by
 by_cases h0:a=0
 · subst h0
   have hc:c=0:=by
    have h1:=sq_nonneg c
    have h2:c*c=0:=by omega
    rcases Int.mul_eq_zero.mp h2 with h|h<;>exact h
   subst hc
   have:=Int.mul_nonneg hb (sq_nonneg x)
   omega
 · have hp:0<a:=by omega
   have h1:=sq_nonneg (a*y-c*x)
   have h2:=Int.mul_le_mul_of_nonneg_right h (sq_nonneg x)
   refine Int.le_of_mul_le_mul_left (a:=a) ?_ hp
   have e1:(a*y-c*x)*(a*y-c*x)=a*(a*(y*y))-a*(2*(c*(x*y)))+c*c*(x*x):=by grind
   have e2:a*(a*(y*y)+b*(x*x))=a*(a*(y*y))+a*b*(x*x):=by grind
   rw[e1]at h1
   rw[e2]
   omega
theorem zI(n:Nat)(f g:Nat→Int):S n (fun i=>f i*g i)*S n (fun i=>f i*g i)≤S n (fun i=>f i*f i)*S n (fun i=>g i*g i):=by
 induction n with
 |zero=>exact Int.le_refl _
 |succ n ih=>
  show(S n (fun i=>f i*g i)+f n*g n)*(S n (fun i=>f i*g i)+f n*g n)≤(S n (fun i=>f i*f i)+f n*f n)*(S n (fun i=>g i*g i)+g n*g n)
  have ha:0≤S n fun i=>f i*f i:=lJ fun i _=>sq_nonneg _
  have hb:0≤S n fun i=>g i*g i:=lJ fun i _=>sq_nonneg _
  generalize S n (fun i=>f i*f i)=a at*
  generalize S n (fun i=>g i*g i)=b at*
  generalize S n (fun i=>f i*g i)=c at*
  have h:=Fe (x:=f n) (y:=g n) ha hb ih
  have e1:(c+f n*g n)*(c+f n*g n)=c*c+2*(c*(f n*g n))+(f n*f n)*(g n*g n):=by grind
  have e2:(a+f n*f n)*(b+g n*g n)=a*b+(a*(g n*g n)+b*(f n*f n))+(f n*f n)*(g n*g n):=by grind
  rw[e1,e2]
  omega
section
variable {A:Rows}{N w:Nat}
theorem bW(hA:bZ N w A){i:Nat}(hi:i<N):(A.getD i []).length=w:=hA.ij _ (by have:=hA.len;rw[aX (by omega)];exact List.getElem_mem _)
theorem iS(hA:bZ N w A){i j:Nat}(hi:i<N)(hj:j<N):ae A i j=S w fun c=>(A.getD i []).getD c 0*(A.getD j []).getD c 0:=by
 unfold ae
 rw[kv (by rw[bW hA hi,bW hA hj]),bW hA hj]
theorem eY(hA:bZ N w A){i:Nat}(hi:i<N):0≤ae A i i:=by
 rw[iS hA hi hi];exact lJ fun c _=>sq_nonneg _
theorem Hl(hA:bZ N w A)(hD:∀k,k≤N→D k (ae A)≠0){k j:Nat}(hk:k<N)(hj:j<N):lam (ae A) k j*lam (ae A) k j≤D j (ae A)*D (j+1) (ae A)*ae A k k:=by
 have h1:=oK hA hD (m:=k) hk j j (by omega) hj
 rw[lR (jf A)]at h1
 have h2:=zI w (fun c=>ev A N j j c) (fun c=>(A.getD k []).getD c 0)
 rw[ou hA hD hj j (Nat.le_refl _),←iS hA hk hk]at h2
 have h3:S w (fun c=>ev A N j j c*(A.getD k []).getD c 0)=lam (ae A) k j:=h1
 rw[h3]at h2
 exact h2
theorem Hk(hA:bZ N w A)(hD:∀k,k≤N→D k (ae A)≠0){m:Int}(hm:∀k,k≤N→D k (ae A)≤m){i:Nat}(hi:i<N)(hh:∀j,j<i→2*(((lam (ae A) i j).natAbs:Nat):Int)≤D (j+1) (ae A)):
 ∀d,d≤i→gx (ae A) (i-d) (ae A i) i≤D (i-d) (ae A)*((d+1:Nat)*m):=by
 have hp:=yr hA hD
 intro d
 induction d with
 |zero=>
  intro _
  rw[Nat.sub_zero,mS]
  have h1:=hm (i+1) (by omega)
  have h2:=hp i (by omega)
  have h3:=hp (i+1) (by omega)
  have:(((0+1:Nat):Int)*m)=m:=by simp
  rw[this]
  calc D (i+1) (ae A)≤1*m:=by omega
   _≤D i (ae A)*m:=Int.mul_le_mul_of_nonneg_right (by omega) (by omega)
 |succ d ih=>
  intro hd
  obtain⟨p,ep⟩:∃p,i-d=p+1:=⟨i-d-1,by omega⟩
  have ep2:i-(d+1)=p:=by omega
  rw[ep2]
  have ih:=ih (by omega)
  rw[ep]at ih
  have q1:=hp p (by omega)
  have q2:=hp (p+1) (by omega)
  have q3:=hm (p+1) (by omega)
  have hl:=hh p (by omega)
  have nx:=jQ (R:=ae A) (p:=p) (by omega) (ae A i) i
  rw[lR (jf A) p p i]at nx
  have hll:lam (ae A) i p*lam (ae A) i p≤D (p+1) (ae A)*D (p+1) (ae A):=by
   have:lam (ae A) i p*lam (ae A) i p=(((lam (ae A) i p).natAbs:Nat):Int)*(((lam (ae A) i p).natAbs:Nat):Int):=(Int.natAbs_mul_self' _).symm
   rw[this]
   exact Int.mul_le_mul (by omega) (by omega) (by omega) (by omega)
  refine Int.le_of_mul_le_mul_left (a:=D (p+1) (ae A)) ?_ q2
  have h5:=Int.mul_le_mul_of_nonneg_left ih (show 0≤D p (ae A) by omega)
  have h6:D (p+1) (ae A)*D (p+1) (ae A)≤D (p+1) (ae A)*(D p (ae A)*m):=by
   refine Int.mul_le_mul_of_nonneg_left ?_ (by omega)
   calc D (p+1) (ae A)≤1*m:=by omega
    _≤D p (ae A)*m:=Int.mul_le_mul_of_nonneg_right (by omega) (by omega)
  have e1:D (p+1) (ae A)*(D p (ae A)*(((d+1+1:Nat):Int)*m))=D p (ae A)*(D (p+1) (ae A)*(((d+1:Nat):Int)*m))+D (p+1) (ae A)*(D p (ae A)*m):=by
   push_cast
   grind
  rw[e1]
  unfold lam at hll
  omega
theorem xO(hA:bZ N w A)(hD:∀k,k≤N→D k (ae A)≠0){m:Int}(hm:∀k,k≤N→D k (ae A)≤m){i:Nat}(hi:i<N)(hh:∀j,j<i→2*(((lam (ae A) i j).natAbs:Nat):Int)≤D (j+1) (ae A)):ae A i i≤((i+1:Nat):Int)*m:=by
 have h:=Hk hA hD hm hi hh i (Nat.le_refl _)
 rw[Nat.sub_self,k_,iW,Int.one_mul]at h
 exact h
end
theorem va{t d:Int}(hd:0<d):2*((t-((2*t+d).fdiv (2*d))*d).natAbs:Int)≤d∧(((2*t+d).fdiv (2*d)).natAbs:Int)≤(t.natAbs:Int):=by
 have h1:=Int.fmod_add_mul_fdiv (2*t+d) (2*d)
 have h2:=Int.fmod_nonneg_of_pos (2*t+d) (show 0<2*d by omega)
 have h3:=Int.fmod_lt_of_pos (2*t+d) (show 0<2*d by omega)
 generalize(2*t+d).fmod (2*d)=r at*
 generalize(2*t+d).fdiv (2*d)=q at*
 have e:2*d*q=2*(q*d):=by grind
 rw[e]at h1
 constructor
 · generalize q*d=u at*
   omega
 ·
  rcases Int.lt_trichotomy q 0 with hq|hq|hq
  · have h4:=Int.mul_nonneg (show 0≤ -q-1 by omega) (show 0≤d-1 by omega)
    have e4:(-q-1)*(d-1)= -(q*d)+q-d+1:=by grind
    rw[e4]at h4
    generalize q*d=u at*
    omega
  · subst hq;simp
  · have h4:=Int.mul_nonneg (show 0≤q-1 by omega) (show 0≤d-1 by omega)
    have e4:(q-1)*(d-1)=q*d-q-d+1:=by grind
    rw[e4]at h4
    generalize q*d=u at*
    omega
end Mx
namespace Mx
theorem Ic{N j:Nat}{G:Fn}{u x:Nat→Int}(hj:j<N)(hx:∀c,c<N→x c=S N fun k=>u k*G k c):D N (upd G j x)=u j*D N G:=by
 have e1:D N (upd G j x)=D N (upd G j fun c=>S N fun k=>u k*G k c):=bq fun r c hr hc=>by
  unfold upd
  by_cases h:r=j
  · rw[if_pos h,if_pos h];exact hx c hc
  · rw[if_neg h,if_neg h]
 rw[e1,(kR N).og hj G u G N,nK hj fun k hk hkj=>?_]
 · congr 1
   refine bq fun r c hr hc=>?_
   unfold upd
   by_cases h:r=j
   · rw[if_pos h,h]
   · rw[if_neg h]
 · have:D N (upd G j (G k))=0:=(kR N).alt j k _ hj hk (Ne.symm hkj) fun c _=>by rw[bN,aE hkj]
   rw[this,Int.mul_zero]
theorem rm{N j m:Nat}{G:Fn}{u x:Nat→Int}(hN:N≤8)(hj:j<N)(hx:∀c,c<N→x c=S N fun k=>u k*G k c)(hD:D N G≠0)(hG:∀r c,r<N→c<N→(G r c).natAbs≤m)(hxm:∀c,c<N→(x c).natAbs≤m):(u j).natAbs≤(8*m)^N:=by
 have h:=Ic hj hx
 have h2:(D N (upd G j x)).natAbs≤(8*m)^N:=rp hN fun r c hr hc=>by
  unfold upd
  by_cases hr2:r=j
  · rw[if_pos hr2];exact hxm c hc
  · rw[if_neg hr2];exact hG r c hr hc
 rw[h,Int.natAbs_mul]at h2
 have h3:(u j).natAbs*1≤(u j).natAbs*(D N G).natAbs:=Nat.mul_le_mul_left _ (by omega)
 omega
noncomputable def bj(A:Rows)(k:Nat)(q:Int)(j:Nat):Rows:=A.set k (gz (A.getD k []) (-q) (A.getD j []))
noncomputable def cf(A:Rows)(k o:Nat):Rows:=(A.set k (A.getD o [])).set o (A.getD k [])
theorem nR{A:Rows}{k i:Nat}{r:Row}(hk:k<A.length):(A.set k r).getD i []=if i=k then r else A.getD i []:=by
 rw[List.getD_eq_getElem?_getD,List.getElem?_set]
 by_cases h:k=i
 · rw[if_pos h,if_pos (by omega),if_pos h.symm];rfl
 · rw[if_neg h,if_neg (Ne.symm h),List.getD_eq_getElem?_getD]
theorem qM{A:Rows}{t i:Nat}(ht:t+1<A.length):(cf A (t+1) t).getD i []=A.getD (sw t (t+1) i) []:=by
 unfold cf
 rw[nR (by rw[List.length_set];omega),nR ht]
 unfold sw
 by_cases h1:i=t
 · rw[if_pos h1,if_pos h1]
 · rw[if_neg h1,if_neg h1]
   by_cases h2:i=t+1
   · rw[if_pos h2,if_pos h2]
   · rw[if_neg h2,if_neg h2]
theorem kh{A:Rows}{t:Nat}(ht:t+1<A.length):ae (cf A (t+1) t)=bK (ae A) t:=by
 funext a b
 unfold ae bK
 rw[qM ht,qM ht]
theorem zU{A:Rows}{k j:Nat}{q:Int}:(bj A k q j).length=A.length:=by unfold bj;rw[List.length_set]
theorem lG{A:Rows}{N w k j:Nat}{q:Int}(hA:bZ N w A)(hk:k<N)(hj:j<N):bZ N w (bj A k q j):=by
 refine⟨zU.trans hA.len,fun r hr=>?_⟩
 unfold bj at hr
 rcases List.mem_or_eq_of_mem_set hr with h|rfl
 · exact hA.ij r h
 · rw[lY (by rw[bW hA hk,bW hA hj]),bW hA hk]
theorem qQ{A:Rows}{N w t:Nat}(hA:bZ N w A)(ht:t+1<N):bZ N w (cf A (t+1) t):=by
 refine⟨by unfold cf;rw[List.length_set,List.length_set];exact hA.len,fun r hr=>?_⟩
 unfold cf at hr
 rcases List.mem_or_eq_of_mem_set hr with h|rfl
 · rcases List.mem_or_eq_of_mem_set h with h|rfl
   · exact hA.ij r h
   · exact bW hA (by omega)
 · exact bW hA ht
theorem oC{A:Rows}{N w k j:Nat}{q:Int}(hA:bZ N w A)(hk:k<N)(hj:j<N)(hkj:j≠k){a b:Nat}(ha:a<N)(hb:b<N):ae (bj A k q j) a b=tk (ae A) k j q a b:=by
 have hl:=hA.len
 have lk:=bW hA hk
 have lj:=bW hA hj
 have at':∀i c,(((bj A k q j).getD i []).getD c 0)=if i=k then(A.getD k []).getD c 0-q*(A.getD j []).getD c 0 else(A.getD i []).getD c 0:=fun i c=>by
  unfold bj
  rw[nR (by omega)]
  by_cases h:i=k
  · rw[if_pos h,if_pos h,pJ (by rw[lk,lj]),Int.neg_mul];omega
  · rw[if_neg h,if_neg h]
 have hS:=i4
 rw[iS (lG hA hk hj) ha hb]
 unfold tk oM ng
 rw[iS hA ha hb,iS hA ha hj,iS hA hj hb,iS hA hj hj]
 by_cases h1:b=k
 · by_cases h2:a=k
   · rw[if_pos h1,if_pos h2,if_pos h2]
     have e:S w (fun c=>((bj A k q j).getD a []).getD c 0*((bj A k q j).getD b []).getD c 0)=S w fun c=>1*(1*((A.getD a []).getD c 0*(A.getD b []).getD c 0)-q*((A.getD j []).getD c 0*(A.getD b []).getD c 0))-q*(1*((A.getD a []).getD c 0*(A.getD j []).getD c 0)-q*((A.getD j []).getD c 0*(A.getD j []).getD c 0)):=aQ fun c _=>by
      rw[at',at',if_pos h1,if_pos h2,h1,h2];grind
     rw[e,i4,i4,i4]
     simp only[Int.one_mul]
   · rw[if_pos h1,if_neg h2,if_neg h2]
     have e:S w (fun c=>((bj A k q j).getD a []).getD c 0*((bj A k q j).getD b []).getD c 0)=S w fun c=>1*((A.getD a []).getD c 0*(A.getD b []).getD c 0)-q*((A.getD a []).getD c 0*(A.getD j []).getD c 0):=aQ fun c _=>by
      rw[at',at',if_pos h1,if_neg h2,h1];grind
     rw[e,i4];omega
 · rw[if_neg h1]
   by_cases h2:a=k
   · rw[if_pos h2]
     have e:S w (fun c=>((bj A k q j).getD a []).getD c 0*((bj A k q j).getD b []).getD c 0)=S w fun c=>1*((A.getD a []).getD c 0*(A.getD b []).getD c 0)-q*((A.getD j []).getD c 0*(A.getD b []).getD c 0):=aQ fun c _=>by
      rw[at',at',if_neg h1,if_pos h2,h2];grind
     rw[e,i4];omega
   · rw[if_neg h2]
     exact aQ fun c _=>by rw[at',at',if_neg h1,if_neg h2]
theorem DN{A:Rows}{N p i:Nat}{G:Fn}(h:∀a b,a<N→b<N→ae A a b=G a b)(hp:p≤i)(hi:i<N):lam (ae A) i p=lam G i p:=by
 rw[fI,fI]
 exact bq fun r c hr hc=>h _ _ (by split<;>omega) (by omega)
theorem jS{A:Rows}{N w k j i p:Nat}{q:Int}(hA:bZ N w A)(hj:j<k)(hk:k<N)(hi:i<N)(hp:p≤i):lam (ae (bj A k q j)) i p=lam (ae A) i p-if i=k then q*lam (ae A) j p else 0:=by
 rw[DN (fun a b ha hb=>oC hA hk (by omega) (by omega) ha hb) hp hi,Gw hj hp]
theorem rO{A:Rows}{N w k j p:Nat}{q:Int}(hA:bZ N w A)(hj:j<k)(hk:k<N)(hp:p≤N):D p (ae (bj A k q j))=D p (ae A):=by
 cases p with
 |zero=>rw[iW,iW]
 |succ p=>
  have:=jS (q:=q) hA hj hk (i:=p) (p:=p) (by omega) (Nat.le_refl _)
  rw[dP,dP]at this
  rw[this]
  split
  · rename_i h;subst h;rw[qX hj,Int.mul_zero,Int.sub_zero]
  · omega
theorem A4{A:Rows}{N w k j:Nat}{q:Int}(hA:bZ N w A)(hk:k<N)(hj:j<N)(hkj:j≠k):ae (bj A k q j) k k≤2*(ae A k k+q*q*ae A j j):=by
 have h1:=eY (lG (q:= -q) hA hk hj) hk
 rw[oC hA hk hj hkj hk hk]at h1⊢
 unfold tk oM ng at h1⊢
 simp only[if_true]at h1⊢
 have hs:=jf A k j
 rw[hs]at h1⊢
 grind
end Mx
namespace Mx
structure Tn(A0 A U C:Rows)(N w:Nat):Prop where
 isA:bZ N w A
 iu:bZ N N U
 iV:bZ N N C
 ua:∀i c,i<N→c<w→g A i c=S N fun k=>g U i k*g A0 k c
 ub:∀i j,i<N→j<N→S N (fun k=>g U i k*g C j k)=dl i j
 bu:∀i j,i<N→j<N→S N (fun k=>g C k i*g U k j)=dl i j
theorem nc{A:Rows}{N w k j:Nat}{q:Int}(hA:bZ N w A)(hk:k<N)(hj:j<N)(i c:Nat):g (bj A k q j) i c=if i=k then g A k c-q*g A j c else g A i c:=by
 unfold g bj
 have hl:=hA.len
 rw[nR (by omega)]
 by_cases h:i=k
 · rw[if_pos h,if_pos h,pJ (by rw[bW hA hk,bW hA hj]),Int.neg_mul];omega
 · rw[if_neg h,if_neg h]
theorem mW{A:Rows}{N w t:Nat}(hA:bZ N w A)(ht:t+1<N)(i c:Nat):g (cf A (t+1) t) i c=g A (sw t (t+1) i) c:=by
 unfold g
 rw[qM (by have:=hA.len;omega)]
theorem rg(n:Nat)(a b:Int)(f h:Nat→Int):S n (fun c=>a*f c+b*h c)=a*S n f+b*S n h:=by
 rw[j9,gn,gn]
theorem Tn.take{A0 A U C:Rows}{N w k j:Nat}{q:Int}(T:Tn A0 A U C N w)(hk:k<N)(hj:j<N)(hkj:j≠k):Tn A0 (bj A k q j) (bj U k q j) (bj C j (-q) k) N w where
 isA:=lG T.isA hk hj
 iu:=lG T.iu hk hj
 iV:=lG T.iV hj hk
 ua:=fun i c hi hc=>by
  rw[nc T.isA hk hj]
  have e:S N (fun m=>g (bj U k q j) i m*g A0 m c)=S N fun m=>(if i=k then g U k m-q*g U j m else g U i m)*g A0 m c:=aQ fun m _=>by rw[nc T.iu hk hj]
  rw[e]
  by_cases h:i=k
  · simp only[if_pos h]
    rw[T.ua k c hk hc,T.ua j c hj hc]
    have e2:S N (fun m=>(g U k m-q*g U j m)*g A0 m c)=S N fun m=>1*(g U k m*g A0 m c)-q*(g U j m*g A0 m c):=aQ fun m _=>by grind
    rw[e2,i4];omega
  · simp only[if_neg h]
    exact T.ua i c hi hc
 ub:=fun i l hi hl=>by
  have e:S N (fun m=>g (bj U k q j) i m*g (bj C j (-q) k) l m)=S N fun m=>(if i=k then g U k m-q*g U j m else g U i m)*(if l=j then g C j m- -q*g C k m else g C l m):=aQ fun m _=>by rw[nc T.iu hk hj,nc T.iV hj hk]
  rw[e]
  have djk:dl j k=0:=dX hkj
  by_cases h:i=k
  · by_cases h2:l=j
    · simp only[if_pos h,if_pos h2]
      have e2:S N (fun m=>(g U k m-q*g U j m)*(g C j m- -q*g C k m))=S N fun m=>1*(1*(g U k m*g C j m)+q*(g U k m*g C k m))-q*(1*(g U j m*g C j m)+q*(g U j m*g C k m)):=aQ fun m _=>by grind
      rw[e2,i4,rg,rg,T.ub k j hk hj,T.ub k k hk hk,T.ub j j hj hj,T.ub j k hj hk,h,h2,dm,dm,djk,m6 k j,djk]
      omega
    · simp only[if_pos h,if_neg h2]
      have e2:S N (fun m=>(g U k m-q*g U j m)*g C l m)=S N fun m=>1*(g U k m*g C l m)-q*(g U j m*g C l m):=aQ fun m _=>by grind
      rw[e2,i4,T.ub k l hk hl,T.ub j l hj hl,h,dX (Ne.symm h2)]
      omega
  · by_cases h2:l=j
    · simp only[if_neg h,if_pos h2]
      have e2:S N (fun m=>g U i m*(g C j m- -q*g C k m))=S N fun m=>1*(g U i m*g C j m)+q*(g U i m*g C k m):=aQ fun m _=>by grind
      rw[e2,rg,T.ub i j hi hj,T.ub i k hi hk,h2,dX h]
      omega
    · simp only[if_neg h,if_neg h2]
      exact T.ub i l hi hl
 bu:=fun i l hi hl=>by
  have e:S N (fun m=>g (bj C j (-q) k) m i*g (bj U k q j) m l)=S N fun m=>g C m i*g U m l+((q*(g C k i*g U j l))*dl m j+(-(q*(g C k i*g U j l)))*dl m k):=aQ fun m _=>by
   rw[nc T.iu hk hj,nc T.iV hj hk]
   by_cases h1:m=j
   · have h2:m≠k:=by omega
     rw[if_pos h1,if_neg h2,h1,dm,dX hkj];grind
   · rw[if_neg h1,dX h1]
     by_cases h2:m=k
     · rw[if_pos h2,h2,dm];grind
     · rw[if_neg h2,dX h2];grind
  rw[e,j9,rg,T.bu i l hi hl]
  have e1:S N (fun c=>dl c j)=1:=by
   rw[nK hj fun i _ h=>dX h,dm]
  have e2:S N (fun c=>dl c k)=1:=by
   rw[nK hk fun i _ h=>dX h,dm]
  rw[e1,e2];omega
theorem Et{t a b:Nat}:dl (sw t (t+1) a) (sw t (t+1) b)=dl a b:=by
 by_cases h:a=b
 · rw[h,dm,dm]
 · rw[dX h,dX]
   intro z
   apply h
   have:∀x,sw t (t+1) (sw t (t+1) x)=x:=fun x=>by unfold sw;grind
   rw[←this a,←this b,z]
theorem oJ{t N i:Nat}(ht:t+1<N)(hi:i<N):sw t (t+1) i<N:=by unfold sw;grind
theorem Tn.swap{A0 A U C:Rows}{N w t:Nat}(T:Tn A0 A U C N w)(ht:t+1<N):Tn A0 (cf A (t+1) t) (cf U (t+1) t) (cf C (t+1) t) N w where
 isA:=qQ T.isA ht
 iu:=qQ T.iu ht
 iV:=qQ T.iV ht
 ua:=fun i c hi hc=>by
  rw[mW T.isA ht,T.ua _ c (oJ ht hi) hc]
  exact aQ fun m _=>by rw[mW T.iu ht]
 ub:=fun i j hi hj=>by
  rw[←Et (t:=t),←T.ub _ _ (oJ ht hi) (oJ ht hj)]
  exact aQ fun m _=>by rw[mW T.iu ht,mW T.iV ht]
 bu:=fun i j hi hj=>by
  rw[←T.bu i j hi hj,←K7 (i:=t) (j:=t+1) (by omega) ht (by omega) fun k=>g C k i*g U k j]
  exact aQ fun m _=>by rw[mW T.iu ht,mW T.iV ht]
theorem we{a b:Row}(h:a.length=b.length):gC a b*gC a b≤gC a a*gC b b:=by
 rw[kv h,kv (a:=a) rfl,kv (a:=b) rfl,h]
 exact zI _ _ _
theorem mq{x:Int}{m:Nat}{a b:Int}(h:x*x≤a*b)(ha:0≤a)(hb:0≤b)(h1:a≤m)(h2:b≤m):x.natAbs≤m:=by
 have h3:a*b≤(m:Int)*m:=Int.mul_le_mul h1 h2 hb (by omega)
 have h4:((x.natAbs*x.natAbs:Nat):Int)≤((m*m:Nat):Int):=by
  rw[Int.natCast_mul,Int.natCast_mul,Int.natAbs_mul_self'];omega
 have h5:x.natAbs*x.natAbs≤m*m:=by omega
 exact Nat.le_of_not_lt fun h=>by
  have:=Nat.mul_lt_mul'' h h
  omega
theorem Tn.abs{A0 A U C:Rows}{N w m:Nat}(T:Tn A0 A U C N w)(h0:bZ N w A0)(hN:N≤8)(hD0:D N (ae A0)≠0)(hD:D N (ae A)≠0)(g0:∀i,i<N→ae A0 i i≤m)(g1:∀i,i<N→ae A i i≤m){i j:Nat}(hi:i<N)(hj:j<N):
 (g U i j).natAbs≤(8*m)^N∧(g C i j).natAbs≤(8*m)^N:=by
 have gb:∀ {B:Rows},bZ N w B→(∀i,i<N→ae B i i≤m)→∀r c,r<N→c<N→(ae B r c).natAbs≤m:=fun{B} hB hb r c hr hc=>by
  have:=we (a:=B.getD r []) (b:=B.getD c []) (by rw[bW hB hr,bW hB hc])
  exact mq this (eY hB hr) (eY hB hc) (hb r hr) (hb c hc)
 have xb:∀a b,a<N→b<N→(gC (A.getD a []) (A0.getD b [])).natAbs≤m:=fun a b ha hb=>
  mq (we (by rw[bW T.isA ha,bW h0 hb])) (eY T.isA ha) (eY h0 hb) (g1 a ha) (g0 b hb)
 constructor
 · refine rm (u:=fun k=>g U i k) (x:=fun c=>gC (A.getD i []) (A0.getD c [])) hN hj (fun c hc=>?_) hD0 (gb h0 g0) fun c hc=>xb i c hi hc
   rw[kv (by rw[bW T.isA hi,bW h0 hc]),bW h0 hc]
   have e:S w (fun d=>(A.getD i []).getD d 0*(A0.getD c []).getD d 0)=S w fun d=>S N fun k=>g U i k*(g A0 k d*g A0 c d):=aQ fun d hd=>by
    have:=T.ua i d hi hd
    show g A i d*g A0 c d=_
    rw[this,←AM]
    exact aQ fun k _=>by grind
   rw[e,rV]
   refine aQ fun k hk=>?_
   rw[gn,iS h0 hk hc]
   rfl
 · refine rm (u:=fun k=>g C k j) (x:=fun c=>gC (A.getD c []) (A0.getD j [])) hN hi (fun c hc=>?_) hD (gb T.isA g1) fun c hc=>xb c j hc hj
   rw[kv (by rw[bW T.isA hc,bW h0 hj]),bW h0 hj]
   have back:∀d,d<w→g A0 j d=S N fun k=>g C k j*g A k d:=fun d hd=>by
    have e:S N (fun k=>g C k j*g A k d)=S N fun k=>S N fun l=>(g C k j*g U k l)*g A0 l d:=aQ fun k hk=>by
     rw[T.ua k d hk hd,←gn]
     exact aQ fun l _=>by grind
    rw[e,rV]
    have e2:S N (fun l=>S N fun k=>(g C k j*g U k l)*g A0 l d)=S N fun l=>dl j l*g A0 l d:=aQ fun l hl=>by rw[AM,T.bu j l hj hl]
    rw[e2,rX hj]
   have e:S w (fun d=>(A.getD c []).getD d 0*(A0.getD j []).getD d 0)=S w fun d=>S N fun k=>g C k j*(g A k d*g A c d):=aQ fun d hd=>by
    show g A c d*g A0 j d=_
    rw[back d hd,←gn]
    exact aQ fun k _=>by grind
   rw[e,rV]
   refine aQ fun k hk=>?_
   rw[gn,iS T.isA hk hc]
   rfl
end Mx
set_option exponentiation.threshold 100
namespace Mx
theorem p2{a b:Nat}(h:a≤b):(2:Int)^a≤2^b:=by
 have:=Nat.pow_le_pow_right (n:=2) (by decide) h
 have h2:((2^a:Nat):Int)≤((2^b:Nat):Int):=Int.ofNat_le.mpr this
 rw[Int.natCast_pow,Int.natCast_pow]at h2
 exact h2
theorem kN(a:Nat):(0:Int)<2^a:=Int.pow_pos (by decide)
structure Lg(A0 A U C:Rows)(N w:Nat)(m:Nat→Nat):Prop where
 T:Tn A0 A U C N w
 D:∀p,p≤N→0<D p (ae A)∧D p (ae A)≤2^744
 len:∀i,i<N→ae A i i≤2^m i
variable {A0 A U C:Rows}{N w:Nat}{m:Nat→Nat}
theorem Lg.ne(L:Lg A0 A U C N w m):∀k,k≤N→Mx.D k (ae A)≠0:=fun k hk=>by have:=(L.D k hk).1;omega
theorem Lg.mono(L:Lg A0 A U C N w m){m':Nat→Nat}(h:∀i,i<N→m i≤m' i):Lg A0 A U C N w m':=⟨L.T,L.D,fun i hi=>Int.le_trans (L.len i hi) (p2 (h i hi))⟩
theorem Lg.Kh(L:Lg A0 A U C N w m){i p:Nat}(hi:i<N)(hp:p<N):lam (ae A) i p*lam (ae A) i p≤2^(1488+m i):=by
 have h:=Hl L.T.isA L.ne hi hp
 have h1:=L.D p (by omega)
 have h2:=L.D (p+1) (by omega)
 have h3:=L.len i hi
 have h4:=eY L.T.isA hi
 have h5:Mx.D p (ae A)*Mx.D (p+1) (ae A)≤2^744*2^744:=Int.mul_le_mul h1.2 h2.2 (by omega) (Int.le_of_lt (kN _))
 have h6:Mx.D p (ae A)*Mx.D (p+1) (ae A)*ae A i i≤2^744*2^744*2^m i:=Int.mul_le_mul h5 h3 h4 (Int.le_of_lt (Int.mul_pos (kN _) (kN _)))
 have e:(2:Int)^744*2^744*2^m i=2^(1488+m i):=by rw[←Int.pow_add,←Int.pow_add]
 rw[e]at h6
 exact Int.le_trans h h6
theorem AO{x:Int}{b:Nat}(h:x*x≤2^(b+b)):x.natAbs≤2^b:=by
 refine mq (m:=2^b) (a:=2^b) (b:=2^b) (by rw[←Int.pow_add];exact h) (Int.le_of_lt (kN _)) (Int.le_of_lt (kN _)) ?_ ?_<;>(rw[Int.natCast_pow];exact Int.le_refl _)
theorem Lg.HK(L:Lg A0 A U C N w m){i p:Nat}(hi:i<N)(hp:p<N)(h:m i≤37000):(lam (ae A) i p).natAbs≤2^40000:=AO (Int.le_trans (L.Kh hi hp) (p2 (by omega)))
theorem Lg.ent(L:Lg A0 A U C N w m)(h:∀i,i<N→m i≤37000):∀r∈A,∀x∈r,x.natAbs≤2^400000:=fun r hr x hx=>by
 obtain⟨i,hi,e⟩:=List.mem_iff_getElem.mp hr
 have hl:=L.T.isA.len
 have hiN:i<N:=by omega
 have e2:A.getD i []=r:=by rw[aX hi,e]
 have h1:=L.len i hiN
 obtain⟨c,hc,ec⟩:=List.mem_iff_getElem.mp hx
 have hcw:c<w:=by have:=L.T.isA.ij r hr;omega
 rw[iS L.T.isA hiN hiN,e2]at h1
 have h2:x*x≤S w fun c=>r.getD c 0*r.getD c 0:=by
  have key:∀n,c<n→x*x≤S n fun c=>r.getD c 0*r.getD c 0:=fun n=>by
   induction n with
   |zero=>intro h;omega
   |succ n ih=>
    intro h
    show x*x≤S n (fun c=>r.getD c 0*r.getD c 0)+r.getD n 0*r.getD n 0
    by_cases hcn:c=n
    · subst hcn
      rw[aX hc,ec]
      have:=lJ (n:=c) (f:=fun c=>r.getD c 0*r.getD c 0) fun i _=>sq_nonneg _
      omega
    · have:=ih (by omega)
      have h9:=sq_nonneg (r.getD n 0)
      omega
  exact key w hcw
 exact AO (Int.le_trans h2 (Int.le_trans h1 (p2 (by have:=h i hiN;omega))))
theorem Lg.turn(L:Lg A0 A U C N w m)(h0:bZ N w A0)(hN:N≤8)(hD0:Mx.D N (ae A0)≠0)(g0:∀i,i<N→ae A0 i i≤2^37000)(h:∀i,i<N→m i≤37000):(∀r∈U,∀x∈r,x.natAbs≤2^400000)∧∀r∈C,∀x∈r,x.natAbs≤2^400000:=by
 have b:(8*2^37000)^N≤2^400000:=by
  have e:8*2^37000=2^37003:=by rw[show 37003=3+37000 from rfl,Nat.pow_add]
  rw[e,←Nat.pow_mul]
  exact Nat.pow_le_pow_right (by decide) (by omega)
 have key:∀i j,i<N→j<N→(g U i j).natAbs≤2^400000∧(g C i j).natAbs≤2^400000:=fun i j hi hj=>by
  have:=L.T.abs (m:=2^37000) h0 hN hD0 (L.ne N (Nat.le_refl _)) (fun i hi=>by rw[Int.natCast_pow];exact g0 i hi) (fun i hi=>by rw[Int.natCast_pow];exact Int.le_trans (L.len i hi) (p2 (h i hi))) hi hj
  exact⟨Nat.le_trans this.1 b,Nat.le_trans this.2 b⟩
 have fin:∀ {B:Rows},bZ N N B→(∀i j,i<N→j<N→(g B i j).natAbs≤2^400000)→∀r∈B,∀x∈r,x.natAbs≤2^400000:=fun{B} hB hb r hr x hx=>by
  obtain⟨i,hi,e⟩:=List.mem_iff_getElem.mp hr
  obtain⟨c,hc,ec⟩:=List.mem_iff_getElem.mp hx
  have hl:=hB.len
  have hw:=hB.ij r hr
  have:=hb i c (by omega) (by omega)
  unfold g at this
  rw[aX hi,e,aX hc,ec]at this
  exact this
 exact⟨fin L.T.iu fun i j hi hj=>(key i j hi hj).1,fin L.T.iV fun i j hi hj=>(key i j hi hj).2⟩
theorem Lg.take(L:Lg A0 A U C N w m){k j:Nat}{q:Int}(hj:j<k)(hk:k<N)(hq:q*q≤2^(1488+m k))(hmj:m j≤748):Lg A0 (bj A k q j) (bj U k q j) (bj C j (-q) k) N w fun i=>if i=k then m k+2240 else m i where
 T:=L.T.take hk (by omega) (by omega)
 D:=fun p hp=>by rw[rO L.T.isA hj hk hp];exact L.D p hp
 len:=fun i hi=>by
  by_cases h:i=k
  · subst h
    rw[if_pos rfl]
    have h1:=A4 (q:=q) L.T.isA hi (show j<N by omega) (by omega)
    have h2:=L.len i hi
    have h3:=Int.le_trans (L.len j (by omega)) (p2 hmj)
    have h4:=eY L.T.isA (i:=j) (by omega)
    have h5:q*q*ae A j j≤2^(1488+m i)*2^748:=Int.mul_le_mul hq h3 h4 (Int.le_of_lt (kN _))
    rw[←Int.pow_add]at h5
    have h6:=p2 (show m i≤1488+m i+748 by omega)
    have h7:(2:Int)^(m i+2240)=2^(1488+m i+748)*2^4:=by rw[←Int.pow_add];congr 1;omega
    have h8:(2:Int)^4=16:=by decide
    rw[h7,h8]
    have h9:=kN (1488+m i+748)
    omega
  · rw[if_neg h]
    have e:ae (bj A k q j) i i=ae A i i:=by
     rw[oC L.T.isA hk (by omega) (by omega) hi hi]
     unfold tk oM ng
     rw[if_neg h,if_neg h]
    rw[e]
    exact L.len i hi
theorem Lg.swap(L:Lg A0 A U C N w m){t:Nat}(ht:t+1<N)(hm:0<lam (bK (ae A) t) t t∧lam (bK (ae A) t) t t≤2^744):Lg A0 (cf A (t+1) t) (cf U (t+1) t) (cf C (t+1) t) N w fun i=>m (sw t (t+1) i) where
 T:=L.T.swap ht
 D:=fun p hp=>by
  rw[kh (by have:=L.T.isA.len;omega)]
  by_cases h:p=t+1
  · subst h;rw[←dP];exact hm
  · rw[kU h];exact L.D p hp
 len:=fun i hi=>by
  rw[kh (by have:=L.T.isA.len;omega)]
  exact L.len _ (oJ ht hi)
end Mx
set_option exponentiation.threshold 100
namespace Mx
theorem vk{f:Nat→Int}:∀n,(∀i,i<n→0<f i)→0<Pr n f
 |0,_=>by show(0:Int)<1;decide
 |n+1,h=>Int.mul_pos (vk n fun i hi=>h i (by omega)) (h n (by omega))
theorem Di{f h:Nat→Int}{t:Nat}:∀n,t<n→(∀i,i<n→0<f i)→(∀i,i<n→0<h i)→(∀i,i<n→i≠t→h i=f i)→h t<f t→Pr n h<Pr n f
 |0,ht,_,_,_,_=>by omega
 |n+1,ht,hf,hh,he,hl=>by
  show Pr n h*h n<Pr n f*f n
  by_cases htn:t=n
  · subst htn
    have e:Pr t h=Pr t f:=by
     have key:∀m,m≤t→Pr m h=Pr m f:=fun m=>by
      induction m with
      |zero=>intro _;rfl
      |succ m ih=>intro hm;show Pr m h*h m=Pr m f*f m;rw[ih (by omega),he m (by omega) (by omega)]
     exact key t (Nat.le_refl _)
    rw[e]
    exact Int.mul_lt_mul_of_pos_left hl (vk t fun i hi=>hf i (by omega))
  · rw[he n (by omega) (by omega)]
    exact Int.mul_lt_mul_of_pos_right (Di n (by omega) (fun i hi=>hf i (by omega)) (fun i hi=>hh i (by omega)) (fun i hi=>he i (by omega)) hl) (hf n (by omega))
theorem CP{f h:Nat→Int}:∀n,(∀i,i<n→h i=f i)→Pr n h=Pr n f
 |0,_=>rfl
 |n+1,he=>by show Pr n h*h n=Pr n f*f n;rw[CP n fun i hi=>he i (by omega),he n (by omega)]
noncomputable def iK(A:Rows)(t:Nat):Prop:=4*(D (t+2) (ae A)*D t (ae A)+lam (ae A) (t+1) t*lam (ae A) (t+1) t)<3*D (t+1) (ae A)*D (t+1) (ae A)
variable {A0 A U C:Rows}{N w:Nat}{m:Nat→Nat}
theorem r8(L:Lg A0 A U C N w m){t:Nat}(ht:t+1<N)(h:iK A t):0<lam (bK (ae A) t) t t∧lam (bK (ae A) t) t t<D (t+1) (ae A):=by
 have p0:=(L.D t (by omega)).1
 have p1:=(L.D (t+1) (by omega)).1
 have p2:=(L.D (t+2) (by omega)).1
 have e:=mY (t:=t) (jf A) (by omega)
 have h1:=Int.mul_pos p0 p2
 have h2:=sq_nonneg (lam (ae A) (t+1) t)
 unfold iK at h
 rw[Int.mul_comm (D (t+2) (ae A))]at h
 constructor
 · have:0<D (t+1) (ae A)*lam (bK (ae A) t) t t:=by rw[e];omega
   exact Int.pos_of_mul_pos_left (by rw[Int.mul_comm];exact this) p1
 · refine Int.lt_of_mul_lt_mul_left (a:=D (t+1) (ae A)) ?_ (by omega)
   rw[e]
   have h3:=Int.mul_pos p1 p1
   have h4:3*D (t+1) (ae A)*D (t+1) (ae A)=3*(D (t+1) (ae A)*D (t+1) (ae A)):=by grind
   rw[h4]at h
   omega
noncomputable def mk(N k:Nat):Nat→Nat:=fun i=>if i=k then 748+2240*(N-k)else 748
structure Lk(A0 A U C:Rows)(N w k:Nat):Prop where
 L:Lg A0 A U C N w (mk N k)
 red:∀i,i<k→i<N→∀j,j<i→2*(((lam (ae A) i j).natAbs:Nat):Int)≤D (j+1) (ae A)
 flat:∀t,t+1<k→t+1<N→¬iK A t
noncomputable def nV(A:Rows)(N:Nat):Int:=Pr N fun p=>D (p+1) (ae A)
theorem vg{k j:Nat}{q:Int}(hA:bZ N w A)(hj:j<k)(hk:k<N):nV (bj A k q j) N=nV A N:=CP N fun p hp=>rO hA hj hk (by omega)
theorem Bp(L:Lg A0 A U C N w m){t:Nat}(ht:t+1<N)(h:iK A t):nV (cf A (t+1) t) N<nV A N:=by
 have hl:=L.T.isA.len
 have sm:=r8 L ht h
 have e:∀p,D p (ae (cf A (t+1) t))=if p=t+1 then lam (bK (ae A) t) t t else D p (ae A):=fun p=>by
  rw[kh (by omega)]
  by_cases hp:p=t+1
  · rw[if_pos hp,hp,dP]
  · rw[if_neg hp,kU hp]
 refine Di (t:=t) N (by omega) (fun i hi=>(L.D (i+1) (by omega)).1) (fun i hi=>?_) (fun i hi hne=>?_) ?_
 · rw[e];split
   · exact sm.1
   · exact(L.D (i+1) (by omega)).1
 · rw[e,if_neg (by omega)]
 · rw[e,if_pos rfl];exact sm.2
theorem D_(L:Lg A0 A U C N w m):0<nV A N:=vk N fun i hi=>(L.D (i+1) (by omega)).1
theorem vX(hA:bZ N w A){k j:Nat}{q:Int}(hj:j<k)(hk:k<N):lam (ae (bj A k q j)) k j=lam (ae A) k j-q*D (j+1) (ae A):=by
 rw[jS hA hj hk hk (by omega),if_pos rfl,dP]
theorem w_(hA:bZ N w A){k j p:Nat}{q:Int}(hj:j<k)(hk:k<N)(hp:j<p)(hpk:p≤k):lam (ae (bj A k q j)) k p=lam (ae A) k p:=by
 rw[jS hA hj hk hk hpk,if_pos rfl,qX hp,Int.mul_zero,Int.sub_zero]
theorem vN(hA:bZ N w A){k j i p:Nat}{q:Int}(hj:j<k)(hk:k<N)(hi:i<N)(hik:i≠k)(hp:p≤i):lam (ae (bj A k q j)) i p=lam (ae A) i p:=by
 rw[jS hA hj hk hi hp,if_neg hik,Int.sub_zero]
theorem FD(L:Lg A0 A U C N w m){k j:Nat}(hk:k<N)(hj:j<N):((2*lam (ae A) k j+D (j+1) (ae A)).fdiv (2*D (j+1) (ae A)))*((2*lam (ae A) k j+D (j+1) (ae A)).fdiv (2*D (j+1) (ae A)))≤2^(1488+m k):=by
 have h1:=(va (t:=lam (ae A) k j) (L.D (j+1) (by omega)).1).2
 have h2:=L.Kh hk hj
 generalize(2*lam (ae A) k j+D (j+1) (ae A)).fdiv (2*D (j+1) (ae A))=q at*
 have e1:q*q=((q.natAbs:Nat):Int)*((q.natAbs:Nat):Int):=(Int.natAbs_mul_self' _).symm
 have e2:lam (ae A) k j*lam (ae A) k j=(((lam (ae A) k j).natAbs:Nat):Int)*(((lam (ae A) k j).natAbs:Nat):Int):=(Int.natAbs_mul_self' _).symm
 rw[e1]
 rw[e2]at h2
 exact Int.le_trans (Int.mul_le_mul h1 h1 (by omega) (by omega)) h2
end Mx
set_option exponentiation.threshold 100
namespace Mx
theorem kY{n i j:Nat}(hi:i<n)(hj:j<n):g (units n) i j=dl i j:=by
 unfold g units dk
 rw[aX (l:=(List.range n).map _) (by simpa using hi),List.getElem_map,List.getElem_range,aX (by simpa using hj),List.getElem_map,List.getElem_range]
 exact m6 _ _
theorem Tn.refl{A:Rows}{N w:Nat}(hA:bZ N w A):Tn A A (units N) (units N) N w where
 isA:=hA
 iu:=qH N
 iV:=qH N
 ua:=fun i c hi hc=>by
  have e:S N (fun k=>g (units N) i k*g A k c)=S N fun k=>dl i k*g A k c:=aQ fun k hk=>by rw[kY hi hk]
  rw[e,rX hi]
 ub:=fun i j hi hj=>by
  have e:S N (fun k=>g (units N) i k*g (units N) j k)=S N fun k=>dl i k*dl j k:=aQ fun k hk=>by rw[kY hi hk,kY hj hk]
  rw[e,rX hi];exact m6 _ _
 bu:=fun i j hi hj=>by
  have e:S N (fun k=>g (units N) k i*g (units N) k j)=S N fun k=>dl i k*dl k j:=aQ fun k hk=>by rw[kY hk hi,kY hk hj,m6 k i]
  rw[e,rX hi]
theorem Lk.start{A:Rows}{N w:Nat}(hA:bZ N w A)(hD:∀k,k≤N→D k (ae A)≠0)(hb:∀k,k≤N→D k (ae A)≤2^744)(hl:∀i,i<N→ae A i i≤2^748):Lk A A (units N) (units N) N w 1 where
 L:=⟨Tn.refl hA,fun p hp=>⟨yr hA hD p hp,hb p hp⟩,fun i hi=>Int.le_trans (hl i hi) (p2 (by unfold Mx.mk;split<;>omega))⟩
 red:=fun i hi _ j hj=>by omega
 flat:=fun t ht=>by omega
end Mx
namespace Prog
open PySem L2 L3
open PySem.Spec hiding items?
open PyProof.Rows hiding St
theorem fm{i j:Int}(h1: -(2^64)<i)(h2:i<2^64):IntMulOk i j:= .of_left (intBits_le_64 h1 h2)
theorem xJ{i j:Int}(h1: -(2^64)<j)(h2:j<2^64):IntMulOk i j:= .of_right (intBits_le_64 h1 h2)
noncomputable def isInt:D→Bool
 | .int _=>true
 |_=>false
theorem tI{f:D→Bool}:∀xs:List D,jA (xs.map fun x=>D.bl (f x))=some (xs.map f)
 | []=>rfl
 |x::xs=>by simp[jA,tI xs]
noncomputable abbrev au(r:List Int):List D:=r.map D.int
noncomputable abbrev cV(r:List Int):D:= .tup (au r)
noncomputable abbrev bF(r:List Int):D:= .lst (au r)
noncomputable abbrev cH(A:List (List Int)):D:= .tup (A.map cV)
noncomputable abbrev De(A:List (List Int)):D:= .lst (A.map bF)
noncomputable def bS(st:ag):List D→List (List Int)→Prop
 | [],[]=>True
 |d::ds,r::rs=>items? st d=some (au r)∧bS st ds rs
 |_,_=>False
structure gX(st:ag)(d:D)(A:List (List Int)):Prop where
 ex:∃ds,items? st d=some ds∧bS st ds A
theorem bS.len{st:ag}:∀ {ds:List D} {A:List (List Int)},bS st ds A→ds.length=A.length
 | [],[],_=>rfl
 |_::_,_::_,h=>by simp[bS.len h.2]
theorem bS.tup{st:ag}:∀ {A:List (List Int)},bS st (A.map cV) A
 | []=>trivial
 |_::_=>⟨rfl,bS.tup⟩
theorem bS.lst{st:ag}:∀ {A:List (List Int)},bS st (A.map bF) A
 | []=>trivial
 |_::_=>⟨rfl,bS.lst⟩
theorem bS.get{st:ag}:∀ {ds:List D} {A:List (List Int)} {i:Nat} {d:D},bS st ds A→ds[i]?=some d→∃r,A[i]?=some r∧items? st d=some (au r)
 |_::_,r::_,0,_,h,e=>by simp at e;subst e;exact⟨r,rfl,h.1⟩
 |_::_,_::_,i+1,d,h,e=>by
  obtain⟨r,e1,e2⟩:=bS.get (i:=i) (d:=d) h.2 (by simpa using e)
  exact⟨r,by simpa using e1,e2⟩
theorem Eo{st:ag}{A:List (List Int)}:gX st (cH A) A:=⟨_,rfl,bS.tup⟩
theorem EA{st:ag}{A:List (List Int)}:gX st (De A) A:=⟨_,rfl,bS.lst⟩
structure Ext(st st':ag):Prop where
 len:st.length≤st'.length
 same:∀m,m<st.length→st'[m]?=st[m]?
theorem Ext.trans{st st1 st2:ag}(a:Ext st st1)(b:Ext st1 st2):Ext st st2:=⟨Nat.le_trans a.len b.len,fun m h=>(b.same m (Nat.lt_of_lt_of_le h a.len)).trans (a.same m h)⟩
theorem Ext.push{st:ag}{c:List Cell}:Ext st (st++c):=⟨by simp,fun m h=>List.getElem?_append_left h⟩
theorem Ext.set{st:ag}{n:Nat}{c:Cell}{st0:ag}(a:Ext st0 st)(h:st0.length≤n):Ext st0 (st.set n c):=⟨by rw[List.length_set];exact a.len,fun m hm=>by rw[List.getElem?_set_ne (by omega)];exact a.same m hm⟩
theorem Ext.items{st st':ag}{d:D}{xs:List D}(x:Ext st st')(e:items? st d=some xs):items? st' d=some xs:=by
 cases d with
 |ref n=>
  unfold items? at e⊢
  simp only at e⊢
  cases q:st[n]? with
  |none=>rw[q]at e;cases e
  |some c=>
   have hn:=(List.getElem?_eq_some_iff.mp q).1
   rw[x.same n hn]
   exact e
 |_=>exact e
theorem Ext.rD{st st':ag}(x:Ext st st'):∀ {ds:List D} {A:List (List Int)},bS st ds A→bS st' ds A
 | [],[],_=>trivial
 |_::_,_::_,h=>⟨x.items h.1,x.rD h.2⟩
theorem Ext.ur{st st':ag}(x:Ext st st'){d:D}{A:List (List Int)}(h:gX st d A):gX st' d A:=by
 obtain⟨ds,e,r⟩:=h.ex
 exact⟨ds,x.items e,x.rD r⟩
theorem hJ{r:List Int}{k:Nat}(h:k<r.length):eW (au r) (k:Int)=some (.int (r.getD k 0)):=by
 refine gF ?_
 rw[List.getElem?_map,List.getElem?_eq_getElem h,Mx.aX h];rfl
theorem getD_mem{r:List Int}{k:Nat}(h:k<r.length):r.getD k 0∈r:=by rw[Mx.aX h];exact List.getElem_mem _
theorem ints_app{r:List Int}{x:Int}:au r++[D.int x]=au (r++[x]):=by simp[au]
theorem Co{A:List (List Int)}{r:List Int}:A.map cV++[cV r]=(A++[r]).map cV:=by simp
theorem qK{r s:List Int}{d:D}(h:d∈fZ (au r) (au s)):∃a b,a∈r∧b∈s∧d= .tup [.int a,.int b]:=by
 obtain⟨n,hn,e⟩:=List.mem_iff_getElem.mp h
 have e':(fZ (au r) (au s))[n]?=some d:=by rw[List.getElem?_eq_getElem hn,e]
 obtain⟨x,y,ex,ey,rfl⟩:=qp e'
 rw[List.getElem?_map]at ex ey
 cases q1:r[n]? with
 |none=>rw[q1]at ex;cases ex
 |some a=>
  cases q2:s[n]? with
  |none=>rw[q2]at ey;cases ey
  |some b=>
   rw[q1]at ex
   rw[q2]at ey
   cases ex
   cases ey
   exact⟨a,b,List.mem_of_getElem? q1,List.mem_of_getElem? q2,rfl⟩
theorem BR(n:Nat):(List.replicate n [D.int 0]).flatten=au (List.replicate n 0):=by
 induction n with
 |zero=>rfl
 |succ n ih=>rw[List.replicate_succ,List.flatten_cons,ih];rfl
theorem vx{d:D}{ds:List D}:eW (d::ds) 0=some d:=gF (j:=0) rfl
theorem x9{n:Nat}{r:List Int}:(au r).all (pl n)=true:=by
 refine List.all_eq_true.mpr fun d hd=>?_
 obtain⟨i,_,rfl⟩:=List.mem_map.mp hd
 cases n<;>rfl
theorem BZ{n:Nat}{A:List (List Int)}:pl (n+2) (De A)=true:=by
 unfold pl
 refine List.all_eq_true.mpr fun d hd=>?_
 obtain⟨r,_,rfl⟩:=List.mem_map.mp hd
 unfold pl
 exact x9
def az:Addr:=173
def av:Addr:=229
noncomputable def jq:cW:=fun ds st K=>∃(d:D) (A:List (List Int)),ds=[d]∧gX st d A∧A.length≤1000∧K (cH A) st
noncomputable def mn:List Str:=["rows"]
noncomputable def AD:DS:=(bX (cJ eV (af (eM (gU (aa 0)) [none] (bB 0) cQ (cJ eV (af (aa 0) ao))) ao)))
theorem iN{tg:fN}{te:DE}{ok:ag→Prop}{σc:bR}{st:ag}{K:List D→ag→Prop}{ds:List D}{A:List (List Int)}(f:List Int→D)(aP:ok st)(hr:bS st ds A)(hx:∀d r,r∈A→items? st d=some (au r)→∀K',K' (f r) st→∃σ2,tg d σc=some σ2∧te σ2 st K')(k:K (A.map f) st):dZ tg cQ te ok σc ds [] st K:=by
 refine jU (fun rest acc st'=>∃(A1 A2:List (List Int)),st=st'∧A1++A2=A∧bS st rest A2∧acc=A1.map f) ?_ ?_ _ _ _ ⟨[],A,rfl,rfl,hr,rfl⟩
 · rintro acc st' ⟨A1,A2,rfl,he,h,rfl⟩
   match A2,h with
   | [],_=>
     rw[List.append_nil]at he
     subst he
     exact⟨aP,k⟩
 · rintro d rest acc st' ⟨A1,A2,rfl,he,h,rfl⟩ next
   match A2,h with
   |r::A2,h=>
    obtain⟨σ2,e2,q⟩:=hx d r (by rw[←he];simp) h.1 (fun y st2=>dZ tg cQ te ok σc rest (A1.map f++[y]) st2 K) (next _ _ ⟨A1++[r],A2,rfl,by rw[←he];simp,h.2,by simp⟩)
    exact⟨aP,σ2,e2,q⟩
theorem zo:∀ds st K,jq ds st K→ds.length=1∧AD {nx:=fun _ st'=>K .aH st',rt:=K} (bx mn ds) st:=by
 rintro ds st K ⟨d,A,rfl,⟨da,hd,ra⟩,hl,k⟩
 refine⟨rfl,?_⟩
 refine vZ hd fun ok aP=>⟨dJ (by rw[ra.len];exact hl),?_⟩
 refine iN cV aP ra (fun e r hr he K' q=>⟨_,rfl,eK he q⟩) ?_
 exact eK rfl k
noncomputable def jZ:cW:=fun ds st K=>∃x y t r s,ds=[x,.int t,y]∧items? st x=some (au r)∧items? st y=some (au s)∧r.length≤1000∧(∀b∈s,IntMulOk t b)∧K (bF (Mx.gz r t s)) st
noncomputable def pH:List Str:=["row","times","other"]
noncomputable def ET:DS:=(bX (eM (oq (af (aa 0) (af (aa 2) ao))) [none,none,some 1] (ja 0 1) cQ (ak cC (aa 0) (ak bO (aa 2) (aa 1)))))
theorem tZ{t:Int}:∀(r s:List Int),(fZ (au r) (au s)).map (fun d=>match d with| .tup [.int a,.int b]=> .int (a+t*b)|_=> .aH)=au (Mx.gz r t s)
 | [],_=>rfl
 |_::_,[]=>rfl
 |a::r,b::s=>by
  have:=tZ (t:=t) r s
  unfold fZ Mx.gz at this⊢
  simp only[au,List.map_cons,List.zip_cons_cons,List.zipWith_cons_cons]at this⊢
  rw[this]
theorem Cy:∀ds st K,jZ ds st K→ds.length=3∧ET {nx:=fun _ st'=>K .aH st',rt:=K} (bx pH ds) st:=by
 rintro ds st K ⟨x,y,t,r,s,rfl,hx,hy,hl,hm,k⟩
 refine⟨rfl,?_⟩
 refine om hx hy fun ok aP=>⟨dJ (by rw[nF];simp;omega),?_⟩
 refine comp_map (g:=fun d=>match d with| .tup [.int a,.int b]=> .int (a+t*b)|_=> .aH) (aP st hx hy) _ (fun d hd K' q=>?_) ?_
 · obtain⟨a,b,ha,hb,rfl⟩:=qK hd
   exact⟨_,rfl,bY (hm b hb) (cM q)⟩
 · rw[tZ];exact k
noncomputable def lS:cW:=fun ds st K=>∃(d:D) (A:List (List Int)) (j:Nat),ds=[d,.int j]∧gX st d A∧(∀r∈A,j<r.length)∧A.length≤1000∧K (cV (Mx.nQ A j)) st
noncomputable def nM:List Str:=["rows","place"]
noncomputable def BP:DS:=(bX (cJ eV (af (eM (gU (aa 0)) [none,some 1] (bB 0) cQ (ak bU (aa 0) (aa 1))) ao)))
theorem AN{tg:fN}{te:DE}{ok:ag→Prop}{σc:bR}{st:ag}{K:List D→ag→Prop}{ds:List D}{A:List (List Int)}(f:List Int→D)(aP:ok st)(hr:bS st ds A)(hx:∀d r,r∈A→items? st d=some (au r)→∀K',K' (f r) st→∃σ2,tg d σc=some σ2∧te σ2 st K')(k:K (A.map f) st):dZ tg cQ te ok σc ds [] st K:=by
 refine jU (fun rest acc st'=>∃(A1 A2:List (List Int)),st=st'∧A1++A2=A∧bS st rest A2∧acc=A1.map f) ?_ ?_ _ _ _ ⟨[],A,rfl,rfl,hr,rfl⟩
 · rintro acc st' ⟨A1,A2,rfl,he,h,rfl⟩
   match A2,h with
   | [],_=>
     rw[List.append_nil]at he
     subst he
     exact⟨aP,k⟩
 · rintro d rest acc st' ⟨A1,A2,rfl,he,h,rfl⟩ next
   match A2,h with
   |r::A2,h=>
    obtain⟨σ2,e2,q⟩:=hx d r (by rw[←he];simp) h.1 (fun y st2=>dZ tg cQ te ok σc rest (A1.map f++[y]) st2 K) (next _ _ ⟨A1++[r],A2,rfl,by rw[←he];simp,h.2,by simp⟩)
    exact⟨aP,σ2,e2,q⟩
theorem z9(A:List (List Int))(j:Nat):A.map (fun r=>D.int (r.getD j 0))=au (Mx.nQ A j):=by unfold Mx.nQ au;rw[List.map_map];rfl
theorem Ap:∀ds st K,lS ds st K→ds.length=2∧BP {nx:=fun _ st'=>K .aH st',rt:=K} (bx nM ds) st:=by
 rintro ds st K ⟨d,A,j,rfl,⟨da,hd,ra⟩,hj,hl,k⟩
 refine⟨rfl,?_⟩
 refine vZ hd fun ok aP=>⟨dJ (by rw[ra.len];exact hl),?_⟩
 refine AN (fun r=> .int (r.getD j 0)) aP ra (fun e r hr he K' q=>⟨_,rfl,aZ he (hJ (hj r hr)) q⟩) ?_
 rw[z9]
 exact eK rfl k
noncomputable def g7:cW:=fun ds st K=>∃(d:D) (A:List (List Int)) (n:Nat),ds=[d,.int n]∧gX st d A∧(∀r∈A,r.length=n)∧A.length≤1000∧n≤1000∧K (cH (Mx.lV A n)) st
noncomputable def i7:List Str:=["rows","wide"]
noncomputable def t8:DS:=(bX (cJ eV (af (eM (cP (af (aa 1) ao)) [none,some 0] (bB 0) cQ (a_ lS (af (aa 1) (af (aa 0) ao)))) ao)))
theorem BN(A:List (List Int))(n:Nat):(List.range n).map (fun j=>cV (Mx.nQ A j))=(Mx.lV A n).map cV:=by unfold Mx.lV;rw[List.map_map];rfl
theorem sr:∀ds st K,g7 ds st K→ds.length=2∧t8 {nx:=fun _ st'=>K .aH st',rt:=K} (bx i7 ds) st:=by
 rintro ds st K ⟨d,A,n,rfl,hd,hw,hl,hn,k⟩
 refine⟨rfl,?_⟩
 refine eP ⟨by omega,by omega⟩ ⟨dJ (by rw[dE];omega),?_⟩
 rw[Int.toNat_natCast]
 refine gQ (fun j=>cV (Mx.nQ A j)) n (fun i hi K' q=>⟨_,rfl,d,A,i,rfl,hd,fun r hr=>by rw[hw r hr];exact hi,hl,q⟩) ?_
 rw[BN]
 exact eK rfl k
noncomputable def jD:cW:=fun ds st K=>∃(n i:Nat),ds=[.int n,.int i]∧n≤1000∧K (cV (Mx.dk n i)) st
noncomputable def kJ:List Str:=["n","place"]
noncomputable def yx:DS:=(bX (cJ eV (af (eM (cP (af (aa 0) ao)) [none,some 1] (bB 0) cQ (zP (bL (ak jr (aa 0) (aa 1))) (dC (.int 1)) (dC (.int 0)))) ao)))
theorem wZ:∀ds st K,jD ds st K→ds.length=2∧yx {nx:=fun _ st'=>K .aH st',rt:=K} (bx kJ ds) st:=by
 rintro ds st K ⟨n,i,rfl,hn,k⟩
 refine⟨rfl,?_⟩
 refine eP ⟨by omega,by omega⟩ ⟨dJ (by rw[dE];omega),?_⟩
 rw[Int.toNat_natCast]
 refine gQ (fun j=> .int (Mx.dl j i)) n (fun j hj K' q=>⟨_,rfl,?_⟩) ?_
 · refine eq2 (fun h=>hX ?_) fun h=>?_
   · have:j=i:=by omega
     subst this
     rw[Mx.dm]at q;exact q
   · rw[Mx.dX (by omega)]at q;exact q
 · have:(List.range n).map (fun j=>D.int (Mx.dl j i))=au (Mx.dk n i):=by unfold Mx.dk au;rw[List.map_map];rfl
   rw[this]
   exact eK rfl k
noncomputable def hV:cW:=fun ds st K=>∃(n:Nat),ds=[.int n]∧n≤1000∧K (cH (Mx.units n)) st
noncomputable def j8:List Str:=["n"]
noncomputable def wV:DS:=(bX (cJ eV (af (eM (cP (af (aa 0) ao)) [none,some 0] (bB 0) cQ (a_ jD (af (aa 1) (af (aa 0) ao)))) ao)))
theorem vm:∀ds st K,hV ds st K→ds.length=1∧wV {nx:=fun _ st'=>K .aH st',rt:=K} (bx j8 ds) st:=by
 rintro ds st K ⟨n,rfl,hn,k⟩
 refine⟨rfl,?_⟩
 refine eP ⟨by omega,by omega⟩ ⟨dJ (by rw[dE];omega),?_⟩
 rw[Int.toNat_natCast]
 refine gQ (fun i=>cV (Mx.dk n i)) n (fun i hi K' q=>⟨_,rfl,n,i,rfl,hn,q⟩) ?_
 have:(List.range n).map (fun i=>cV (Mx.dk n i))=(Mx.units n).map cV:=by unfold Mx.units;rw[List.map_map];rfl
 rw[this]
 exact eK rfl k
noncomputable def nP:cW:=fun ds st K=>∃(x y:D) (r s:List Int),ds=[x,y]∧items? st x=some (au r)∧items? st y=some (au s)∧r.length≤1000∧(∀a∈r,∀b∈s,IntMulOk a b)∧K (.int (Mx.gC r s)) st
noncomputable def uz:List Str:=["one","other"]
noncomputable def Io:DS:=(bX (cJ sN (af (eM (oq (af (aa 0) (af (aa 1) ao))) [none,none] (ja 0 1) cQ (ak bO (aa 0) (aa 1))) ao)))
theorem xF:∀(r s:List Int),∃ns:List Int,(fZ (au r) (au s)).map (fun d=>match d with| .tup [.int a,.int b]=> .int (a*b)|_=> .aH)=au ns∧ns.sum=Mx.gC r s
 | [],_=>⟨[],rfl,rfl⟩
 |_::_,[]=>⟨[],rfl,rfl⟩
 |a::r,b::s=>by
  obtain⟨ns,h1,h2⟩:=xF r s
  refine⟨a*b::ns,?_,?_⟩
  · have e:fZ (au (a::r)) (au (b::s))= .tup [.int a,.int b]::fZ (au r) (au s):=rfl
    rw[e,List.map_cons,h1];rfl
  · rw[List.sum_cons,h2];rfl
theorem zS:∀ds st K,nP ds st K→ds.length=2∧Io {nx:=fun _ st'=>K .aH st',rt:=K} (bx uz ds) st:=by
 rintro ds st K ⟨x,y,r,s,rfl,hx,hy,hl,hm,k⟩
 refine⟨rfl,?_⟩
 refine om hx hy fun ok aP=>⟨dJ (by rw[nF];simp;omega),?_⟩
 obtain⟨ns,h1,h2⟩:=xF r s
 refine comp_map (g:=fun d=>match d with| .tup [.int a,.int b]=> .int (a*b)|_=> .aH) (aP st hx hy) _ (fun d hd K' q=>?_) ?_
 · obtain⟨a,b,ha,hb,rfl⟩:=qK hd
   exact⟨_,rfl,bY (hm a ha b hb) q⟩
 · rw[h1]
   refine Ii (ints_map _) ?_
   rw[h2];exact k
noncomputable def w9:Nat:=1237940039285380274899124224
theorem Ke{p:Nat}(h:p≤8):(8*w9)^p≤2^744:=by
 have e:8*w9=2^93:=by decide
 rw[e,←Nat.pow_mul]
 exact Nat.pow_le_pow_right (by decide) (by omega)
theorem bits_le{a:Int}{m:Nat}(h:a.natAbs<2^m):Builtin.Int.intBits a≤m:=by
 unfold Builtin.Int.intBits
 by_cases h0:a.natAbs=0
 · have:a=0:=by omega
   subst this
   simp
 · have:=(Nat.log2_lt h0).mpr h
   split<;>omega
theorem xX{a b:Int}(ha:a.natAbs≤2^744)(hb:b.natAbs≤2^744):IntMulOk a b:=by
 have l:(2:Nat)^744<2^745:=Nat.pow_lt_pow_right (by decide) (by decide)
 have l2:745≤2^20:=by decide
 exact .of_bits (Nat.le_trans (bits_le (Nat.lt_of_le_of_lt ha l)) l2) (Nat.le_trans (bits_le (Nat.lt_of_le_of_lt hb l)) l2)
theorem IY{a:Int}(ha:a.natAbs≤2^744)(h0:a≠0):a.natAbs.log2<9000:=by
 have l:(2:Nat)^744<2^745:=Nat.pow_lt_pow_right (by decide) (by decide)
 have:=(Nat.log2_lt (show a.natAbs≠0 by omega)).mpr (Nat.lt_of_le_of_lt ha l)
 omega
structure Gm(G:Mx.Fn)(n:Nat):Prop where
 le:n≤8
 bd:∀r c,r<n→c<n→(G r c).natAbs≤w9
 sym:∀i j,G i j=G j i
theorem Gm.gx{G:Mx.Fn}{n p i j:Nat}(h:Gm G n)(hp:p<n)(hi:i<n)(hj:j<n):(Mx.gx G p (G i) j).natAbs≤2^744:=Nat.le_trans (Mx.Ai h.le h.bd hp hi hj) (Ke (by have:=h.le;omega))
theorem Gm.D{G:Mx.Fn}{n p:Nat}(h:Gm G n)(hp:p≤n):(Mx.D p G).natAbs≤2^744:=Nat.le_trans (Mx.rp (by have:=h.le;omega) fun r c hr hc=>h.bd r c (by omega) (by omega)) (Ke (by have:=h.le;omega))
noncomputable def jn:cW:=fun ds st K=>∃(G:Mx.Fn) (n i j:Nat) (m:Nat) (o1 o2:List Int) (dt d1 d2:D) (ts:List D),ds=[.int (G i j),dt,d1,d2]∧items? st dt=some ts∧bS st ts (Mx.oV G m)∧items? st d1=some (au o1)∧items? st d2=some (au o2)∧o1.length=j∧j≤o2.length∧j≤m∧(∀k,k<j→o1.getD k 0=Mx.lam G i k∧o2.getD k 0=Mx.lam G j k)∧(∀k,k<j→Mx.D k G≠0)∧Gm G n∧i<n∧j<n∧K (.int (Mx.gx G j (G i) j)) st
noncomputable def mi:List Str:=["together","table","one","other","divisor","line","left","right"]
noncomputable def Az:DS:=(aD (bg 4 (dC (.int 1)))
 (aD (gc (yy (af (aa 1) (af (aa 2) (af (aa 3) ao)))) (mQ 5 6 7) (aD (bg 0 (ak iF (ak dD (ak bO (ak bU (aa 5) (nS jB (dC (.int 1)))) (aa 0)) (ak bO (aa 6) (aa 7))) (aa 4)))
 (bg 4 (ak bU (aa 5) (nS jB (dC (.int 1)))))))
 (bX (aa 0))))
theorem mX{r:List Int}{n:Nat}(h:r.length=n+1):eW (au r) (-1)=some (.int (r.getD n 0)):=by
 have e:r=r.take n++[r.getD n 0]:=by
  rw[Mx.aX (by omega),←List.take_succ_eq_append_getElem (by omega),List.take_of_length_le (by omega)]
 have e2:au r=au (r.take n)++[.int (r.getD n 0)]:=by
  conv=>lhs;rw[e]
  simp[au]
 rw[e2]
 exact BE _ _
theorem rE{ts:List D}{o1 o2:List Int}{k:Nat}(h1:k<ts.length)(h2:k<o1.length)(h3:k<o2.length):fD (ts.drop k) (au (o1.drop k)) (au (o2.drop k))= .tup [ts[k],.int (o1.getD k 0),.int (o2.getD k 0)]::fD (ts.drop (k+1)) (au (o1.drop (k+1))) (au (o2.drop (k+1))):=by
 rw[List.drop_eq_getElem_cons h1,List.drop_eq_getElem_cons h2,List.drop_eq_getElem_cons h3,Mx.aX h2,Mx.aX h3]
 rfl
theorem my{st:ag}{ts:List D}{A:List (List Int)}{q:Nat}(h:bS st ts A)(hq:q<ts.length):items? st ts[q]=some (au (A.getD q [])):=by
 obtain⟨r,e1,e2⟩:=h.get (List.getElem?_eq_getElem hq)
 have hl:=h.len
 rw[List.getElem?_eq_getElem (by omega)]at e1
 cases e1
 rw[Mx.aX (by omega)]
 exact e2
theorem yK:∀ds st K,jn ds st K→ds.length=4∧Az {nx:=fun _ st'=>K .aH st',rt:=K} (bx mi ds) st:=by
 rintro ds st K ⟨G,n,i,j,m,o1,o2,dt,d1,d2,ts,rfl,ht,rt,h1,h2,l1,l2,l3,ho,hD,g,hi,hj,k⟩
 refine⟨rfl,?_⟩
 have hg:=g.le
 have lt:=rt.len
 rw[Mx.vU]at lt
 refine Ed ht h1 h2 fun ok aP=>?_
 refine gi (fun rest σ st'=>st'=st∧∃(q:Nat) (v5 v6 v7:Option D),q≤j∧σ=[some (.int (Mx.gx G q (G i) j)),some dt,some d1,some d2,some (.int (Mx.D q G)),v5,v6,v7]∧rest=fD (ts.drop q) (au (o1.drop q)) (au (o2.drop q))) ?_ ?_ _ _ _ ⟨rfl,0,none,none,none,Nat.zero_le _,by rw[Mx.k_];rfl,rfl⟩
 · rintro σ st' ⟨rfl,q,v5,v6,v7,hq,rfl,hr⟩
   refine⟨aP _ ht h1 h2,?_⟩
   have:q=j:=by
    by_cases h:q<j
    · rw[rE (by omega) (by omega) (by omega)]at hr
      cases hr
    · omega
   subst this
   exact k
 · rintro x rest σ st' ⟨rfl,q,v5,v6,v7,hq,rfl,hr⟩ next
   have hqj:q<j:=by
    by_cases h:q<j
    · exact h
    · have:o1.drop q=[]:=List.drop_eq_nil_of_le (by omega)
      rw[this]at hr
      have e:fD (ts.drop q) (au []) (au (o2.drop q))=[]:=by
       cases (ts.drop q)<;>rfl
      rw[e]at hr
      cases hr
   rw[rE (by omega) (by omega) (by omega),List.cons.injEq]at hr
   obtain⟨rfl,rfl⟩:=hr
   refine⟨aP _ ht h1 h2,_,rfl,?_⟩
   have il:=my rt (q:=q) (by omega)
   rw[Mx.xf G (show q<m by omega)]at il
   rw[(ho q hqj).1,(ho q hqj).2]
   have eL:(Mx.aO G q).getD q 0=Mx.D (q+1) G:=by rw[Mx.ir G (Nat.le_refl _),Mx.dP]
   have b1:=g.D (p:=q+1) (by omega)
   have b2:=g.gx (p:=q) (i:=i) (j:=j) (by omega) hi hj
   have b3:(Mx.lam G i q).natAbs≤2^744:=g.gx (by omega) hi (by omega)
   have b4:(Mx.lam G j q).natAbs≤2^744:=g.gx (by omega) hj (by omega)
   have b5:=g.D (p:=q) (by omega)
   refine jv (aZ il (mX (Mx.d6 G q)) ?_)
   rw[eL]
   refine bY (xX b1 b2) (bY (xX b3 b4) (cS (j4 (hD q hqj) (IY b5 (hD q hqj)) ?_)))
   rw[Mx.vi g.sym (hD q hqj)]
   refine jv (aZ il (mX (Mx.d6 G q)) ?_)
   rw[eL]
   exact next _ _ ⟨rfl,q+1,_,_,_,hqj,rfl,rfl⟩
structure St(A:List (List Int))(N w:Nat):Prop where
 is:Mx.bZ N w A
 wd:w≤1000
 sm:∀r∈A,∀x∈r,x.natAbs<2^64
 gm:Gm (Mx.ae A) N
theorem St.mem{A:List (List Int)}{N w i:Nat}(h:St A N w)(hi:i<N):A.getD i []∈A:=by
 have:=h.is.len
 rw[Mx.aX (by omega)];exact List.getElem_mem _
noncomputable def kl:cW:=fun ds st K=>∃(A:List (List Int)) (N w i:Nat) (dt dA dr:D) (ts:List D),ds=[dt,dA,dr]∧items? st dt=some ts∧bS st ts (Mx.oV (Mx.ae A) i)∧gX st dA A∧St A N w∧i<N∧items? st dr=some (au (A.getD i []))∧(∀k,k≤i→Mx.D k (Mx.ae A)≠0)∧∀st',Ext st st'→st'.length=st.length+1→st'[st.length]?=some (.lst (au (Mx.aO (Mx.ae A) i)))→K (.ref st.length) st'
noncomputable def mE:List Str:=["table","steps","row","made","line","step"]
noncomputable def Be:DS:=(aD (bg 3 (lT ao))
 (aD (gc (oq (af (aa 0) (af (aa 1) ao))) (ja 4 5) (gj (gg (aa 3) (a_ jn (af (a_ nP (af (aa 2) (af (aa 5) ao))) (af (aa 0) (af (aa 3) (af (aa 4) ao))))))))
 (aD (gj (gg (aa 3) (a_ jn (af (a_ nP (af (aa 2) (af (aa 2) ao))) (af (aa 0) (af (aa 3) (af (aa 3) ao)))))))
 (bX (aa 3)))))
theorem tE{ts da:List D}{q:Nat}(h1:q<ts.length)(h2:q<da.length):fZ (ts.drop q) (da.drop q)= .tup [ts[q],da[q]]::fZ (ts.drop (q+1)) (da.drop (q+1)):=by
 rw[List.drop_eq_getElem_cons h1,List.drop_eq_getElem_cons h2]
 rfl
theorem Av{A:List (List Int)}{N w i j:Nat}(h:St A N w)(hi:i<N)(hj:j<N):∀a∈A.getD i [],∀b∈A.getD j [],IntMulOk a b:=fun a ha b _=>by
 have:=h.sm _ (h.mem hi) a ha
 exact fm (by omega) (by omega)
theorem qO(G:Mx.Fn)(i q:Nat):au ((List.range q).map fun j=>Mx.lam G i j)++[.int (Mx.lam G i q)]=au ((List.range (q+1)).map fun j=>Mx.lam G i j):=by rw[List.range_succ,List.map_append];simp[au]
theorem mP(G:Mx.Fn){i q k:Nat}(h:k<q):((List.range q).map fun j=>Mx.lam G i j).getD k 0=Mx.lam G i k:=by rw[Mx.aX (by simpa using h),List.getElem_map,List.getElem_range]
theorem yk:∀ds st K,kl ds st K→ds.length=3∧Be {nx:=fun _ st'=>K .aH st',rt:=K} (bx mE ds) st:=by
 rintro ds st K ⟨A,N,w,i,dt,dA,dr,ts,rfl,ht,rt,⟨da,hda,ra⟩,hS,hi,hr,hD,k⟩
 refine⟨rfl,?_⟩
 have hl:=hS.is.len
 have hla:=ra.len
 have lt:=rt.len
 rw[Mx.vU]at lt
 have h8:=hS.gm.le
 have wi:=hS.is.ij _ (hS.mem hi)
 have hw:=hS.wd
 refine⟨Nat.le_of_ble_eq_true rfl,?_⟩
 have X0:Ext st (st++[.lst []]):=Ext.push
 have e0:(st++[Cell.lst []])[st.length]?=some (.lst (au ((List.range 0).map fun j=>Mx.lam (Mx.ae A) i j))):=by simp
 refine om (X0.items ht) (X0.items hda) fun ok aP=>?_
 refine gi (fun rest σ st'=>∃(q:Nat) (v4 v5:Option D),q≤i∧σ=[some dt,some dA,some dr,some (.ref st.length),v4,v5]∧rest=fZ (ts.drop q) (da.drop q)∧Ext st st'∧st'.length=st.length+1∧st'[st.length]?=some (.lst (au ((List.range q).map fun j=>Mx.lam (Mx.ae A) i j)))) ?_ ?_ _ _ _ ⟨0,none,none,Nat.zero_le _,rfl,rfl,X0,by simp,e0⟩
 · rintro σ st1 ⟨q,v4,v5,hq,rfl,hrest,X,ln1,e⟩
   refine⟨aP _ (X.items ht) (X.items hda),?_⟩
   have hqi:q=i:=by
    by_cases h:q<i
    · rw[tE (by omega) (by omega)]at hrest
      cases hrest
    · omega
   subst hqi
   refine lF (by rfl) e ?_
   refine⟨_,_,A.getD q [],A.getD q [],rfl,X.items hr,X.items hr,by omega,Av hS hi hi,?_⟩
   refine⟨Mx.ae A,N,q,q,q,(List.range q).map fun j=>Mx.lam (Mx.ae A) q j,(List.range q).map fun j=>Mx.lam (Mx.ae A) q j,dt,.ref st.length,.ref st.length,ts,rfl,X.items ht,X.rD rt,aF e,aF e,by simp,by simp,Nat.le_refl _,fun k hk=>⟨mP _ hk,mP _ hk⟩,fun k hk=>hD k (by omega),hS.gm,hi,hi,?_⟩
   refine jV e (by rw[sizeLine_eq];simp;omega) ?_
   have hlt:=(List.getElem?_eq_some_iff.mp e).1
   have e2:(st1.set st.length (.lst (au ((List.range q).map fun j=>Mx.lam (Mx.ae A) q j)++[.int (Mx.gx (Mx.ae A) q (Mx.ae A q) q)])))[st.length]?=some (.lst (au (Mx.aO (Mx.ae A) q))):=by
    rw[List.getElem?_set_self hlt]
    have:=qO (Mx.ae A) q q
    unfold Mx.lam at this⊢
    unfold Mx.aO Mx.lam
    rw[this]
   exact k _ (X.set (Nat.le_refl _)) (by rw[List.length_set];exact ln1) e2
 · rintro x rest σ st1 ⟨q,v4,v5,hq,rfl,hrest,X,ln1,e⟩ next
   have hqi:q<i:=by
    by_cases h:q<i
    · exact h
    · have:ts.drop q=[]:=List.drop_eq_nil_of_le (by omega)
      rw[this]at hrest
      cases hrest
   rw[tE (by omega) (by omega),List.cons.injEq]at hrest
   obtain⟨rfl,rfl⟩:=hrest
   refine⟨aP _ (X.items ht) (X.items hda),_,rfl,?_⟩
   have hrq:=my ra (q:=q) (by omega)
   have htq:=my rt (q:=q) (by omega)
   rw[Mx.xf _ hqi]at htq
   refine lF (by rfl) e ?_
   refine⟨_,_,A.getD i [],A.getD q [],rfl,X.items hr,X.items hrq,by omega,Av hS hi (by omega),?_⟩
   refine⟨Mx.ae A,N,i,q,i,(List.range q).map fun j=>Mx.lam (Mx.ae A) i j,Mx.aO (Mx.ae A) q,dt,.ref st.length,ts[q],ts,rfl,X.items ht,X.rD rt,aF e,X.items htq,by simp,by rw[Mx.d6];omega,by omega,fun k hk=>⟨mP _ hk,Mx.ir _ (by omega)⟩,fun k hk=>hD k (by omega),hS.gm,hi,by omega,?_⟩
   refine jV e (by rw[sizeLine_eq];simp;omega) ?_
   have hlt:=(List.getElem?_eq_some_iff.mp e).1
   refine next _ _ ⟨q+1,_,_,hqi,rfl,rfl,X.set (Nat.le_refl _),by rw[List.length_set];exact ln1,?_⟩
   rw[List.getElem?_set_self hlt]
   have:=qO (Mx.ae A) i q
   unfold Mx.lam at this⊢
   rw[this]
structure Tb(st:ag)(tb:Nat)(rs:List Nat)(G:Mx.Fn)(N:Nat):Prop where
 et:st[tb]?=some (Cell.lst (rs.map D.ref))
 lr:rs.length=N
 nd:∀(i j c:Nat),rs[i]?=some c→rs[j]?=some c→i=j
 nt:∀(i c:Nat),rs[i]?=some c→c≠tb
 row:∀(i c:Nat),rs[i]?=some c→st[c]?=some (Cell.lst (au (Mx.aO G i)))
theorem Tb.rows{st:ag}{tb:Nat}{rs:List Nat}{G:Mx.Fn}{N:Nat}(T:Tb st tb rs G N):bS st (rs.map D.ref) (Mx.oV G N):=by
 have key:∀(l:List Nat) (n:Nat),(∀(i c:Nat),l[i]?=some c→st[c]?=some (Cell.lst (au (Mx.aO G (n+i)))))→bS st (l.map D.ref) ((List.range l.length).map fun i=>Mx.aO G (n+i)):=by
  intro l
  induction l with
  |nil=>intro n h;trivial
  |cons c l ih=>
   intro n h
   rw[List.length_cons,List.range_succ_eq_map,List.map_cons,List.map_cons,List.map_map]
   refine⟨aF (by have:=h 0 c rfl;exact this),?_⟩
   have:=ih (n+1) fun i d hd=>by
    have:=h (i+1) d (by simpa using hd)
    rw[show n+1+i=n+(i+1) by omega]
    exact this
   have e:((fun i=>Mx.aO G (n+i))∘Nat.succ)=fun i=>Mx.aO G (n+1+i):=by
    funext i
    show Mx.aO G (n+(i+1))=_
    rw[show n+1+i=n+(i+1) by omega]
   rw[e]
   exact this
 have h:=key rs 0 fun i c hc=>by rw[Nat.zero_add];exact T.row i c hc
 rw[T.lr]at h
 unfold Mx.oV
 have e:(fun i=>Mx.aO G (0+i))=Mx.aO G:=by funext i;rw[Nat.zero_add]
 rw[e]at h
 exact h
theorem Tb.ext{st st':ag}{tb:Nat}{rs:List Nat}{G:Mx.Fn}{N:Nat}(T:Tb st tb rs G N)(h1:st'[tb]?=st[tb]?)(h2:∀(i c:Nat),rs[i]?=some c→st'[c]?=st[c]?):Tb st' tb rs G N:=⟨h1.trans T.et,T.lr,T.nd,T.nt,fun i c h=>(h2 i c h).trans (T.row i c h)⟩
noncomputable def jE:cW:=fun ds st K=>∃(A:List (List Int)) (N w:Nat) (dA:D),ds=[dA]∧gX st dA A∧St A N w∧(∀k,k≤N→Mx.D k (Mx.ae A)≠0)∧∀st' rs,Ext st st'→Tb st' st.length rs (Mx.ae A) N→(∀(i c:Nat),rs[i]?=some c→st.length<c)→K (.ref st.length) st'
noncomputable def kM:List Str:=["steps","table","step","line"]
noncomputable def yQ:DS:=(aD (bg 1 (lT ao))
 (aD (gc (gU (aa 0)) (bB 2) (aD (bg 3 (a_ kl (af (aa 1) (af (aa 0) (af (aa 2) ao)))))
 (aD (fw (bL (ak jr (ak bU (aa 3) (nS jB (dC (.int 1)))) (dC (.int 0)))) Aq d9)
 (gj (gg (aa 1) (aa 3))))))
 (bX (aa 1))))
theorem rf{i:Nat}{σ:bR}{st:ag}{K:DK}{d:D}(h:σ[i]?=some (some d))(k:K d st):aa i σ st K:=by
 unfold aa
 simp only[h]
 exact k
theorem wL:∀ds st K,jE ds st K→ds.length=1∧yQ {nx:=fun _ st'=>K .aH st',rt:=K} (bx kM ds) st:=by
 rintro ds st K ⟨A,N,w,dA,rfl,hA,hS,hD,k⟩
 refine⟨rfl,?_⟩
 obtain⟨da,hda,ra⟩:=hA.ex
 have hl:=hS.is.len
 have hla:=ra.len
 have h8:=hS.gm.le
 refine⟨Nat.le_of_ble_eq_true rfl,?_⟩
 have X0:Ext st (st++[.lst []]):=Ext.push
 have T0:Tb (st++[Cell.lst []]) st.length [] (Mx.ae A) 0:=⟨by simp,rfl,fun i j c h=>by simp at h,fun i c h=>by simp at h,fun i c h=>by simp at h⟩
 refine EI (X0.items hda) fun ok aP=>?_
 refine gi (fun rest σ st'=>∃(q:Nat) (rs:List Nat) (v2 v3:Option D),q≤N∧σ=[some dA,some (.ref st.length),v2,v3]∧rest=da.drop q∧Ext st st'∧Tb st' st.length rs (Mx.ae A) q∧∀(i c:Nat),rs[i]?=some c→st.length<c∧c<st'.length) ?_ ?_ _ _ _ ⟨0,[],none,none,Nat.zero_le _,rfl,rfl,X0,T0,fun i c h=>by simp at h⟩
 · rintro σ st1 ⟨q,rs,v2,v3,hq,rfl,hrest,X,T,hc⟩
   refine⟨aP _ (X.items hda),?_⟩
   have hqN:q=N:=by
    have:=congrArg List.length hrest
    simp at this
    omega
   subst hqN
   exact k _ rs X T fun i c h=>(hc i c h).1
 · rintro x rest σ st1 ⟨q,rs,v2,v3,hq,rfl,hrest,X,T,hc⟩ next
   have hqN:q<N:=by
    have:=congrArg List.length hrest
    simp at this
    omega
   rw[List.drop_eq_getElem_cons (show q<da.length by omega),List.cons.injEq]at hrest
   obtain⟨rfl,rfl⟩:=hrest
   refine⟨aP _ (X.items hda),_,rfl,?_⟩
   have hrq:=my ra (q:=q) (by omega)
   refine⟨A,N,w,q,.ref st.length,dA,_,_,rfl,aF T.et,T.rows,X.ur hA,hS,hqN,X.items hrq,fun k hk=>hD k (by omega),fun st2 X2 ln2 e2=>?_⟩
   have X3:=X.trans X2
   have hlt:st.length<st1.length:=(List.getElem?_eq_some_iff.mp T.et).1
   have lr:=T.lr
   refine jv (aZ (aF e2) (mX (Mx.d6 _ q)) ?_)
   rw[Mx.ir _ (Nat.le_refl q),Mx.dP]
   refine Fq (hD (q+1) (by omega)) ?_
   have et2:st2[st.length]?=some (.lst (rs.map D.ref)):=(X2.same _ hlt).trans T.et
   refine lF (by rfl) et2 (rf rfl (jV et2 (by rw[sizeLine_eq,List.length_map];omega) ?_))
   have key:∀(i c:Nat),(rs++[st1.length])[i]?=some c→(i<q∧rs[i]?=some c)∨(i=q∧c=st1.length):=fun i c h=>by
    by_cases hi:i<rs.length
    · rw[List.getElem?_append_left hi]at h;exact .inl ⟨by omega,h⟩
    · have hlt2:=(List.getElem?_eq_some_iff.mp h).1
      have:i=rs.length:=by simp at hlt2;omega
      rw[List.getElem?_append_right (by omega),this,Nat.sub_self]at h
      simp at h
      exact .inr ⟨by omega,h.symm⟩
   refine next _ _ ⟨q+1,rs++[st1.length],_,_,hqN,rfl,rfl,X3.set (Nat.le_refl _),⟨?_,by simp[lr],fun i j c hi hj=>?_,fun i c hi=>?_,fun i c hi=>?_⟩,fun i c hi=>?_⟩
   · rw[List.getElem?_set_self (by omega),List.map_append];rfl
   · rcases key i c hi with⟨a1,a2⟩|⟨a1,a2⟩<;>rcases key j c hj with⟨b1,b2⟩|⟨b1,b2⟩
     · exact T.nd i j c a2 b2
     · have:=(hc i c a2).2;omega
     · have:=(hc j c b2).2;omega
     · omega
   · rcases key i c hi with⟨a1,a2⟩|⟨a1,a2⟩
     · exact T.nt i c a2
     · omega
   · rcases key i c hi with⟨a1,a2⟩|⟨a1,a2⟩
     · have h1:=hc i c a2
       rw[List.getElem?_set_ne (by omega),X2.same c h1.2]
       exact T.row i c a2
     · rw[a2,a1,List.getElem?_set_ne (by omega)]
       exact e2
   · rcases key i c hi with⟨a1,a2⟩|⟨a1,a2⟩
     · have h1:=hc i c a2
       exact⟨h1.1,by rw[List.length_set];omega⟩
     · exact⟨by omega,by rw[List.length_set];omega⟩
noncomputable def fg:cW:=fun ds st K=>∃(t d:Int),ds=[.int t,.int d]∧0<d∧d.natAbs≤2^8000∧K (.int ((2*t+d).fdiv (2*d))) st
noncomputable def gk:List Str:=["top","bottom"]
noncomputable def o5:DS:=(bX (ak iF (ak cC (ak bO (dC (.int 2)) (aa 0)) (aa 1)) (ak bO (dC (.int 2)) (aa 1))))
theorem BS{a:Int}{m:Nat}(h:a.natAbs<2^m):Builtin.Int.intBits a≤m:=by
 unfold Builtin.Int.intBits
 by_cases h0:a.natAbs=0
 · have:a=0:=by omega
   subst this
   simp
 · have:=(Nat.log2_lt h0).mpr h
   split<;>omega
theorem jM{a b:Int}{m n:Nat}(ha:a.natAbs≤2^m)(hb:b.natAbs≤2^n):(a*b).natAbs≤2^(m+n):=by
 rw[Int.natAbs_mul,Nat.pow_add]
 exact Nat.mul_le_mul ha hb
theorem dn{a b:Int}{m n:Nat}(ha:a.natAbs≤2^m)(hb:b.natAbs≤2^n)(hm:m<1000000)(hn:n<1000000):IntMulOk a b:=by
 have l2:(1000000:Nat)≤2^20:=by decide
 have q:∀ {x:Int} {k:Nat},x.natAbs≤2^k→k<1000000→Builtin.Int.intBits x≤2^20:=fun{x k} h hk=>Nat.le_trans (BS (Nat.lt_of_le_of_lt h (Nat.pow_lt_pow_right (by decide) (Nat.lt_succ_self k)))) (by omega)
 exact .of_bits (q ha hm) (q hb hn)
theorem rK{a:Int}{m:Nat}(ha:a.natAbs≤2^m)(h0:a≠0)(hm:m+1<9000):a.natAbs.log2<9000:=by
 have l:(2:Nat)^m<2^(m+1):=Nat.pow_lt_pow_right (by decide) (Nat.lt_succ_self m)
 have:=(Nat.log2_lt (show a.natAbs≠0 by omega)).mpr (Nat.lt_of_le_of_lt ha l)
 omega
theorem nY:∀ds st K,fg ds st K→ds.length=2∧o5 {nx:=fun _ st'=>K .aH st',rt:=K} (bx gk ds) st:=by
 rintro ds st K ⟨t,d,rfl,hd,hb,k⟩
 refine⟨rfl,?_⟩
 have h2:(2*d).natAbs≤2^(1+8000):=jM (m:=1) (by decide) hb
 exact bY (fm (by decide) (by decide)) (cM (bY (fm (by decide) (by decide)) (j4 (by omega) (rK h2 (by omega) (by decide)) k)))
noncomputable def gv:cW:=fun ds st K=>∃(n k o:Nat) (A:List (List Int)),ds=[.ref n,.int k,.int o]∧st[n]?=some (.lst (A.map bF))∧k<A.length∧o<A.length∧K (.ref st.length) (st++[.lst ((Mx.cf A k o).map bF)])
noncomputable def j_:List Str:=["rows","k","other","order"]
noncomputable def wU:DS:=(aD (bg 3 (cJ ph (af (aa 0) ao)))
 (aD (g9 (aa 3) (aa 1) (ak bU (aa 0) (aa 2)))
 (aD (g9 (aa 3) (aa 2) (ak bU (aa 0) (aa 1)))
 (bX (aa 3)))))
theorem jl{A:List (List Int)}{j:Nat}(h:j<A.length):eW (A.map bF) (j:Int)=some (bF (A.getD j [])):=by
 refine gF ?_
 rw[List.getElem?_map,List.getElem?_eq_getElem h,Mx.aX h];rfl
theorem jw{m k:Nat}(h:k<m):jP m (k:Int)=some k:=by
 have:=Fv (i:=(k:Int)) (m:=m) (by omega) (by omega)
 rw[Int.toNat_natCast]at this
 exact this
theorem jX{A:List (List Int)}{k:Nat}{r:List Int}:(A.map bF).set k (bF r)=(A.set k r).map bF:=by rw[List.map_set]
theorem vP:∀ds st K,gv ds st K→ds.length=3∧wU {nx:=fun _ st'=>K .aH st',rt:=K} (bx j_ ds) st:=by
 rintro ds st K ⟨n,k,o,A,rfl,e,hk,ho,kk⟩
 refine⟨rfl,?_⟩
 have hn:n<st.length:=(List.getElem?_eq_some_iff.mp e).1
 refine BV (aF e) ?_
 have e1:(st++[Cell.lst (A.map bF)])[n]?=some (.lst (A.map bF)):=by rw[List.getElem?_append_left hn];exact e
 have e2:(st++[Cell.lst (A.map bF)])[st.length]?=some (.lst (A.map bF)):=by simp
 refine aZ (aF e1) (jl ho) (jK e2 (by rw[List.length_map];exact jw hk) ?_)
 rw[jX]
 have es:(st++[Cell.lst (A.map bF)]).set st.length (.lst ((A.set k (A.getD o [])).map bF))=st++[Cell.lst ((A.set k (A.getD o [])).map bF)]:=by
  rw[List.set_append_right _ _ (Nat.le_refl _),Nat.sub_self];rfl
 rw[es]
 have e3:(st++[Cell.lst ((A.set k (A.getD o [])).map bF)])[n]?=some (.lst (A.map bF)):=by rw[List.getElem?_append_left hn];exact e
 have e4:(st++[Cell.lst ((A.set k (A.getD o [])).map bF)])[st.length]?=some (.lst ((A.set k (A.getD o [])).map bF)):=by simp
 refine aZ (aF e3) (jl hk) (jK e4 (by rw[List.length_map,List.length_set];exact jw ho) ?_)
 rw[jX]
 have es2:(st++[Cell.lst ((A.set k (A.getD o [])).map bF)]).set st.length (.lst (((A.set k (A.getD o [])).set o (A.getD k [])).map bF))=st++[Cell.lst ((Mx.cf A k o).map bF)]:=by
  rw[List.set_append_right _ _ (Nat.le_refl _),Nat.sub_self];rfl
 rw[es2]
 exact kk
structure Bn(st:ag)(b xb xu xc:Nat)(A U C:List (List Int)):Prop where
 eb:st[b]?=some (Cell.ins az [("body",.ref xb),("turn",.ref xu),("back_columns",.ref xc)])
 e1:st[xb]?=some (Cell.lst (A.map bF))
 e2:st[xu]?=some (Cell.lst (U.map bF))
 e3:st[xc]?=some (Cell.lst (C.map bF))
 n1:xb≠xu
 n2:xb≠xc
 n3:xu≠xc
theorem iz{st:ag}{b x:Nat}{C:Addr}{fs:List (Str×D)}{xs:List D}(h1:st[b]?=some (Cell.ins C fs))(h2:st[x]?=some (Cell.lst xs)):b≠x:=fun z=>by rw[z,h2]at h1;cases h1
noncomputable def fT:cW:=fun ds st K=>∃(b N:Nat) (d:D) (A:List (List Int)),ds=[.ref b,d]∧st[b]?=some (.ins az [])∧gX st d A∧A.length=N∧N≤8∧∀st',Bn st' b st.length (st.length+1) (st.length+2) A (Mx.units N) (Mx.units N)→st'.length=st.length+3→(∀m,m<st.length→m≠b→st'[m]?=st[m]?)→K .aH st'
noncomputable def gS:List Str:=["self","rows"]
noncomputable def qy:DS:=(aD (kg az "body" (aa 0) (pd (gU (aa 1)) [none] (bB 0) cQ (cJ kO (af (aa 0) ao))))
 (aD (kg az "turn" (aa 0) (pd (gU (a_ hV (af (cJ gI (af (aa 1) ao)) ao))) [none] (bB 0) cQ (cJ kO (af (aa 0) ao))))
 (kg az "back_columns" (aa 0) (pd (gU (a_ hV (af (cJ gI (af (aa 1) ao)) ao))) [none] (bB 0) cQ (cJ kO (af (aa 0) ao))))))
theorem nE(f:Str)(v:D):∀fs:List (Str×D),(putD f v fs).length≤fs.length+1
 | []=>by simp[putD]
 |(g,x)::r=>by
  unfold putD
  split
  · simp
  · have:=nE f v r
    simp only[List.length_cons]
    omega
theorem wj{st:ag}{A:List (List Int)}:bS st (A.map cV) A:=bS.tup
theorem tQ(n:Nat):(Mx.units n).length=n:=by unfold Mx.units;simp
theorem p7:∀ds st K,fT ds st K→ds.length=2∧qy {nx:=fun _ st'=>K .aH st',rt:=K} (bx gS ds) st:=by
 rintro ds st K ⟨b,N,d,A,rfl,eb,hA,hl,hN,k⟩
 refine⟨rfl,?_⟩
 have hb:b<st.length:=(List.getElem?_eq_some_iff.mp eb).1
 obtain⟨da,hd,ra⟩:=hA.ex
 have hdl:=ra.len
 have lst:∀(e:D) (r:List Int),True:=fun _ _=>trivial
 refine vZ hd fun ok aP=>⟨dJ (by omega),?_⟩
 refine iN bF aP ra (fun e r hr he K' q=>⟨_,rfl,m7 he q⟩) ?_
 have eb1:(st++[Cell.lst (A.map bF)])[b]?=some (.ins az []):=by rw[List.getElem?_append_left hb];exact eb
 refine jm eb1 (by decide) ?_
 generalize hs1:(st++[Cell.lst (A.map bF)]).set b (.ins az (putD "body" (.ref st.length) []))=st1
 have l1:st1.length=st.length+1:=by rw[←hs1];simp
 have f1:∀m,m<st.length→m≠b→st1[m]?=st[m]?:=fun m hm hmb=>by rw[←hs1,List.getElem?_set_ne (Ne.symm hmb),List.getElem?_append_left hm]
 have b1:st1[b]?=some (.ins az (putD "body" (.ref st.length) [])):=by rw[←hs1,List.getElem?_set_self (by simp;omega)]
 have x1:st1[st.length]?=some (.lst (A.map bF)):=by rw[←hs1,List.getElem?_set_ne (by omega)];simp
 clear hs1
 have itd:∃da',items? st1 d=some da'∧da'.length=N:=by
  cases d with
  |ref n=>
   by_cases hnb:n=b
   · subst hnb
     unfold items? at hd
     simp only[eb]at hd
     cases hd
   · have hn:n<st.length:=by
      unfold items? at hd
      simp only at hd
      cases q:st[n]? with
      |none=>rw[q]at hd;cases hd
      |some c=>exact(List.getElem?_eq_some_iff.mp q).1
     refine⟨da,?_,by omega⟩
     unfold items? at hd⊢
     simp only at hd⊢
     rw[f1 n hn hnb]
     exact hd
  |_=>exact⟨da,hd,by omega⟩
 obtain⟨da1,hd1,hdl1⟩:=itd
 refine fX hd1 ?_
 rw[hdl1]
 refine⟨N,rfl,by omega,?_⟩
 refine iJ ⟨dJ (by rw[List.length_map,tQ];omega),?_⟩
 refine iN bF trivial wj (fun e r hr he K' q=>⟨_,rfl,m7 he q⟩) ?_
 have b2:(st1++[Cell.lst ((Mx.units N).map bF)])[b]?=some (.ins az (putD "body" (.ref st.length) [])):=by rw[List.getElem?_append_left (by omega)];exact b1
 refine jm b2 (by have:=nE "body" (.ref st.length) [];simp only[List.length_nil]at this;omega) ?_
 generalize hs2:(st1++[Cell.lst ((Mx.units N).map bF)]).set b (.ins az (putD "turn" (.ref st1.length) (putD "body" (.ref st.length) [])))=st2
 have l2:st2.length=st.length+2:=by rw[←hs2];simp;omega
 have f2:∀m,m<st1.length→m≠b→st2[m]?=st1[m]?:=fun m hm hmb=>by rw[←hs2,List.getElem?_set_ne (Ne.symm hmb),List.getElem?_append_left hm]
 have b2':st2[b]?=some (.ins az (putD "turn" (.ref st1.length) (putD "body" (.ref st.length) []))):=by rw[←hs2,List.getElem?_set_self (by simp;omega)]
 have x2:st2[st1.length]?=some (.lst ((Mx.units N).map bF)):=by rw[←hs2,List.getElem?_set_ne (by omega)];simp
 clear hs2
 have itd2:items? st2 d=some da1:=by
  cases d with
  |ref n=>
   by_cases hnb:n=b
   · subst hnb
     unfold items? at hd1
     simp only[b1]at hd1
     cases hd1
   · have hn:n<st1.length:=by
      unfold items? at hd1
      simp only at hd1
      cases q:st1[n]? with
      |none=>rw[q]at hd1;cases hd1
      |some c=>exact(List.getElem?_eq_some_iff.mp q).1
     unfold items? at hd1⊢
     simp only at hd1⊢
     rw[f2 n hn hnb]
     exact hd1
  |_=>exact hd1
 refine fX itd2 ?_
 rw[hdl1]
 refine⟨N,rfl,by omega,?_⟩
 refine iJ ⟨dJ (by rw[List.length_map,tQ];omega),?_⟩
 refine iN bF trivial wj (fun e r hr he K' q=>⟨_,rfl,m7 he q⟩) ?_
 have b3:(st2++[Cell.lst ((Mx.units N).map bF)])[b]?=some (.ins az (putD "turn" (.ref st1.length) (putD "body" (.ref st.length) []))):=by rw[List.getElem?_append_left (by omega)];exact b2'
 refine jm b3 (by have h1:=nE "body" (.ref st.length) [];have h2:=nE "turn" (.ref st1.length) (putD "body" (.ref st.length) []);simp only[List.length_nil]at h1;omega) ?_
 refine k _ ⟨?_,?_,?_,?_,by omega,by omega,by omega⟩ (by simp;omega) fun m hm hmb=>?_
 · rw[List.getElem?_set_self (by simp;omega),l1,l2];rfl
 · rw[List.getElem?_set_ne (by omega),List.getElem?_append_left (by omega),f2 _ (by omega) (by omega)];exact x1
 · rw[List.getElem?_set_ne (by omega),List.getElem?_append_left (by omega)]
   rw[l1]at x2
   exact x2
 · rw[List.getElem?_set_ne (by omega)]
   rw[show st.length+2=st2.length by omega]
   simp
 · rw[List.getElem?_set_ne (Ne.symm hmb),List.getElem?_append_left (by omega),f2 m (by omega) hmb,f1 m hm hmb]
noncomputable def iE:cW:=fun ds st K=>∃(b xb xu xc N w k j:Nat) (A U C:List (List Int)) (q:Int),ds=[.ref b,.int k,.int q,.int j]∧Bn st b xb xu xc A U C∧Mx.bZ N w A∧Mx.bZ N N U∧Mx.bZ N N C∧k<N∧j<N∧N≤8∧w≤9∧(∀x∈A.getD j [],IntMulOk (-q) x)∧(∀x∈U.getD j [],IntMulOk (-q) x)∧(∀x∈C.getD k [],IntMulOk q x)∧
 ∀st',Bn st' b xb xu xc (Mx.bj A k q j) (Mx.bj U k q j) (Mx.bj C j (-q) k)→st'.length=st.length→(∀m,m≠xb→m≠xu→m≠xc→st'[m]?=st[m]?)→K .aH st'
noncomputable def jx:List Str:=["self","k","times","other"]
noncomputable def vt:DS:=(aD (g9 (dq az "body" (aa 0)) (aa 1) (a_ jZ (af (ak bU (dq az "body" (aa 0)) (aa 1)) (af (nS jB (aa 2)) (af (ak bU (dq az "body" (aa 0)) (aa 3)) ao)))))
 (aD (g9 (dq az "turn" (aa 0)) (aa 1) (a_ jZ (af (ak bU (dq az "turn" (aa 0)) (aa 1)) (af (nS jB (aa 2)) (af (ak bU (dq az "turn" (aa 0)) (aa 3)) ao)))))
 (g9 (dq az "back_columns" (aa 0)) (aa 3) (a_ jZ (af (ak bU (dq az "back_columns" (aa 0)) (aa 3)) (af (aa 2) (af (ak bU (dq az "back_columns" (aa 0)) (aa 1)) ao)))))))
theorem uf:∀ds st K,iE ds st K→ds.length=4∧vt {nx:=fun _ st'=>K .aH st',rt:=K} (bx jx ds) st:=by
 rintro ds st K ⟨b,xb,xu,xc,N,w,k,j,A,U,C,q,rfl,B,hA,hU,hC,hk,hj,hN,hw,mA,mU,mC,kk⟩
 refine⟨rfl,?_⟩
 have lA:=hA.len
 have lU:=hU.len
 have lC:=hC.len
 have rA:=Mx.bW hA hk
 have rU:=Mx.bW hU hk
 have rC:=Mx.bW hC hj
 have bx1:=iz B.eb B.e1
 have bx2:=iz B.eb B.e2
 have bx3:=iz B.eb B.e3
 have n1:=B.n1
 have n2:=B.n2
 have n3:=B.n3
 refine cm B.eb rfl (aZ (aF B.e1) (jl (by omega)) (jv (cm B.eb rfl (aZ (aF B.e1) (jl (by omega)) ?_))))
 refine⟨_,_,-q,A.getD k [],A.getD j [],rfl,rfl,rfl,by omega,mA,?_⟩
 refine cm B.eb rfl (jK B.e1 (by rw[List.length_map,lA];exact jw hk) ?_)
 rw[jX]
 have g1:∀m,m≠xb→(st.set xb (.lst ((A.set k (Mx.gz (A.getD k []) (-q) (A.getD j []))).map bF)))[m]?=st[m]?:=fun m hm=>List.getElem?_set_ne (Ne.symm hm)
 have h1:(st.set xb (.lst ((A.set k (Mx.gz (A.getD k []) (-q) (A.getD j []))).map bF)))[xb]?=some (.lst ((Mx.bj A k q j).map bF)):=List.getElem?_set_self (List.getElem?_eq_some_iff.mp B.e1).1
 have z1:(st.set xb (.lst ((A.set k (Mx.gz (A.getD k []) (-q) (A.getD j []))).map bF))).length=st.length:=List.length_set
 generalize st.set xb (.lst ((A.set k (Mx.gz (A.getD k []) (-q) (A.getD j []))).map bF))=st1 at g1 h1 z1⊢
 have eb1:=(g1 b bx1).trans B.eb
 have e21:=(g1 xu (Ne.symm n1)).trans B.e2
 have e31:=(g1 xc (Ne.symm n2)).trans B.e3
 refine cm eb1 rfl (aZ (aF e21) (jl (by omega)) (jv (cm eb1 rfl (aZ (aF e21) (jl (by omega)) ?_))))
 refine⟨_,_,-q,U.getD k [],U.getD j [],rfl,rfl,rfl,by omega,mU,?_⟩
 refine cm eb1 rfl (jK e21 (by rw[List.length_map,lU];exact jw hk) ?_)
 rw[jX]
 have g2:∀m,m≠xu→(st1.set xu (.lst ((U.set k (Mx.gz (U.getD k []) (-q) (U.getD j []))).map bF)))[m]?=st1[m]?:=fun m hm=>List.getElem?_set_ne (Ne.symm hm)
 have h2:(st1.set xu (.lst ((U.set k (Mx.gz (U.getD k []) (-q) (U.getD j []))).map bF)))[xu]?=some (.lst ((Mx.bj U k q j).map bF)):=List.getElem?_set_self (List.getElem?_eq_some_iff.mp e21).1
 have z2:(st1.set xu (.lst ((U.set k (Mx.gz (U.getD k []) (-q) (U.getD j []))).map bF))).length=st1.length:=List.length_set
 generalize st1.set xu (.lst ((U.set k (Mx.gz (U.getD k []) (-q) (U.getD j []))).map bF))=st2 at g2 h2 z2⊢
 have eb2:=(g2 b bx2).trans eb1
 have e32:=(g2 xc (Ne.symm n3)).trans e31
 refine cm eb2 rfl (aZ (aF e32) (jl (by omega)) (cm eb2 rfl (aZ (aF e32) (jl (by omega)) ?_)))
 refine⟨_,_,q,C.getD j [],C.getD k [],rfl,rfl,rfl,by omega,mC,?_⟩
 refine cm eb2 rfl (jK e32 (by rw[List.length_map,lC];exact jw hj) ?_)
 rw[jX]
 have hc:C.set j (Mx.gz (C.getD j []) q (C.getD k []))=Mx.bj C j (-q) k:=by unfold Mx.bj;rw[Int.neg_neg]
 rw[hc]
 refine kk _ ⟨?_,?_,?_,?_,n1,n2,n3⟩ (by rw[List.length_set];omega) fun m m1 m2 m3=>?_
 · rw[List.getElem?_set_ne (Ne.symm bx3)];exact eb2
 · rw[List.getElem?_set_ne (Ne.symm n2),g2 _ n1];exact h1
 · rw[List.getElem?_set_ne (Ne.symm n3)];exact h2
 · exact List.getElem?_set_self (List.getElem?_eq_some_iff.mp e32).1
 · rw[List.getElem?_set_ne (Ne.symm m3),g2 m m2,g1 m m1]
noncomputable def fW:cW:=fun ds st K=>∃(b xb xu xc N w k o:Nat) (A U C:List (List Int)),ds=[.ref b,.int k,.int o]∧Bn st b xb xu xc A U C∧Mx.bZ N w A∧Mx.bZ N N U∧Mx.bZ N N C∧k<N∧o<N∧
 ∀st',Bn st' b st.length (st.length+1) (st.length+2) (Mx.cf A k o) (Mx.cf U k o) (Mx.cf C k o)→st'.length=st.length+3→(∀m,m<st.length→m≠b→st'[m]?=st[m]?)→K .aH st'
noncomputable def gW:List Str:=["self","k","other"]
noncomputable def qv:DS:=(aD (kg az "body" (aa 0) (a_ gv (af (dq az "body" (aa 0)) (af (aa 1) (af (aa 2) ao)))))
 (aD (kg az "turn" (aa 0) (a_ gv (af (dq az "turn" (aa 0)) (af (aa 1) (af (aa 2) ao)))))
 (kg az "back_columns" (aa 0) (a_ gv (af (dq az "back_columns" (aa 0)) (af (aa 1) (af (aa 2) ao)))))))
theorem p9:∀ds st K,fW ds st K→ds.length=3∧qv {nx:=fun _ st'=>K .aH st',rt:=K} (bx gW ds) st:=by
 rintro ds st K ⟨b,xb,xu,xc,N,w,k,o,A,U,C,rfl,B,hA,hU,hC,hk,ho,kk⟩
 refine⟨rfl,?_⟩
 have lA:=hA.len
 have lU:=hU.len
 have lC:=hC.len
 have bx1:=iz B.eb B.e1
 have bx2:=iz B.eb B.e2
 have bx3:=iz B.eb B.e3
 have hb:b<st.length:=(List.getElem?_eq_some_iff.mp B.eb).1
 have hu:xu<st.length:=(List.getElem?_eq_some_iff.mp B.e2).1
 have hc:xc<st.length:=(List.getElem?_eq_some_iff.mp B.e3).1
 refine cm B.eb rfl ?_
 refine⟨xb,k,o,A,rfl,B.e1,by omega,by omega,?_⟩
 have eb1:(st++[Cell.lst ((Mx.cf A k o).map bF)])[b]?=some (.ins az [("body",.ref xb),("turn",.ref xu),("back_columns",.ref xc)]):=by rw[List.getElem?_append_left hb];exact B.eb
 refine jm eb1 (by simp) ?_
 have pb:putD "body" (.ref st.length) [("body",.ref xb),("turn",.ref xu),("back_columns",.ref xc)]=([("body",.ref st.length),("turn",.ref xu),("back_columns",.ref xc)]:List (Str×D)):=rfl
 rw[pb]
 generalize hs1:(st++[Cell.lst ((Mx.cf A k o).map bF)]).set b (.ins az [("body",.ref st.length),("turn",.ref xu),("back_columns",.ref xc)])=st1
 have l1:st1.length=st.length+1:=by rw[←hs1];simp
 have f1:∀m,m<st.length→m≠b→st1[m]?=st[m]?:=fun m hm hmb=>by rw[←hs1,List.getElem?_set_ne (Ne.symm hmb),List.getElem?_append_left hm]
 have b1:st1[b]?=some (.ins az [("body",.ref st.length),("turn",.ref xu),("back_columns",.ref xc)]):=by rw[←hs1,List.getElem?_set_self (by simp;omega)]
 have x1:st1[st.length]?=some (.lst ((Mx.cf A k o).map bF)):=by rw[←hs1,List.getElem?_set_ne (by omega)];simp
 clear hs1 eb1
 refine cm b1 rfl ?_
 refine⟨xu,k,o,U,rfl,(f1 xu hu (Ne.symm bx2)).trans B.e2,by omega,by omega,?_⟩
 have eb1:(st1++[Cell.lst ((Mx.cf U k o).map bF)])[b]?=some (.ins az [("body",.ref st.length),("turn",.ref xu),("back_columns",.ref xc)]):=by rw[List.getElem?_append_left (by omega)];exact b1
 refine jm eb1 (by simp) ?_
 have pb:putD "turn" (.ref st1.length) [("body",.ref st.length),("turn",.ref xu),("back_columns",.ref xc)]=([("body",.ref st.length),("turn",.ref st1.length),("back_columns",.ref xc)]:List (Str×D)):=rfl
 rw[pb]
 generalize hs2:(st1++[Cell.lst ((Mx.cf U k o).map bF)]).set b (.ins az [("body",.ref st.length),("turn",.ref st1.length),("back_columns",.ref xc)])=st2
 have l2:st2.length=st.length+2:=by rw[←hs2];simp;omega
 have f2:∀m,m<st1.length→m≠b→st2[m]?=st1[m]?:=fun m hm hmb=>by rw[←hs2,List.getElem?_set_ne (Ne.symm hmb),List.getElem?_append_left hm]
 have b2:st2[b]?=some (.ins az [("body",.ref st.length),("turn",.ref st1.length),("back_columns",.ref xc)]):=by rw[←hs2,List.getElem?_set_self (by simp;omega)]
 have x2:st2[st1.length]?=some (.lst ((Mx.cf U k o).map bF)):=by rw[←hs2,List.getElem?_set_ne (by omega)];simp
 clear hs2 eb1
 refine cm b2 rfl ?_
 refine⟨xc,k,o,C,rfl,((f2 xc (by omega) (Ne.symm bx3)).trans (f1 xc hc (Ne.symm bx3))).trans B.e3,by omega,by omega,?_⟩
 have eb1:(st2++[Cell.lst ((Mx.cf C k o).map bF)])[b]?=some (.ins az [("body",.ref st.length),("turn",.ref st1.length),("back_columns",.ref xc)]):=by rw[List.getElem?_append_left (by omega)];exact b2
 refine jm eb1 (by simp) ?_
 have pb:putD "back_columns" (.ref st2.length) [("body",.ref st.length),("turn",.ref st1.length),("back_columns",.ref xc)]=([("body",.ref st.length),("turn",.ref st1.length),("back_columns",.ref st2.length)]:List (Str×D)):=rfl
 rw[pb]
 refine kk _ ⟨?_,?_,?_,?_,by omega,by omega,by omega⟩ (by simp;omega) fun m hm hmb=>?_
 · rw[List.getElem?_set_self (by simp;omega),l1,l2]
 · rw[List.getElem?_set_ne (by omega),List.getElem?_append_left (by omega),f2 _ (by omega) (by omega)];exact x1
 · rw[List.getElem?_set_ne (by omega),List.getElem?_append_left (by omega)]
   rw[l1]at x2
   exact x2
 · rw[List.getElem?_set_ne (by omega)]
   rw[show st.length+2=st2.length by omega]
   simp
 · rw[List.getElem?_set_ne (Ne.symm hmb),List.getElem?_append_left (by omega),f2 m (by omega) hmb,f1 m hm hmb]
structure Ss(n0:Nat)(st:ag)(s b xb xu xc tb:Nat)(rs:List Nat)(A U C:List (List Int))(N:Nat):Prop where
 es:st[s]?=some (Cell.ins av [("bench",.ref b),("table",.ref tb)])
 B:Bn st b xb xu xc A U C
 T:Tb st tb rs (Mx.ae A) N
 d1:tb≠xb∧tb≠xu∧tb≠xc
 d2:∀(i c:Nat),rs[i]?=some c→c≠xb∧c≠xu∧c≠xc
 lo:n0≤s∧n0≤b∧n0≤xb∧n0≤xu∧n0≤xc∧n0≤tb
 lr:∀(i c:Nat),rs[i]?=some c→n0≤c
theorem o6{st st':ag}(f:∀(m:Nat) (xs:List D),st[m]?=some (Cell.lst xs)→st'[m]?=some (Cell.lst xs)):∀ {ds:List D} {A:List (List Int)},bS st ds A→bS st' ds A
 | [],[],_=>trivial
 |d::_,_::_,h=>⟨by
  have h1:=h.1
  cases d with
  |ref n=>
   unfold items? at h1⊢
   simp only at h1⊢
   split at h1
   · rename_i xs e;rw[f n xs e];exact h1
   · cases h1
  |_=>exact h1,o6 f h.2⟩
theorem wD{st st':ag}(f:∀(m:Nat) (xs:List D),st[m]?=some (Cell.lst xs)→st'[m]?=some (Cell.lst xs)){d:D}{A:List (List Int)}(h:gX st d A):gX st' d A:=by
 obtain⟨ds,e,r⟩:=h.ex
 refine⟨ds,?_,o6 f r⟩
 cases d with
 |ref n=>
  unfold items? at e⊢
  simp only at e⊢
  split at e
  · rename_i xs e';rw[f n xs e'];exact e
  · cases e
 |_=>exact e
noncomputable def fz:cW:=fun ds st K=>∃(s N w:Nat) (d:D) (A:List (List Int)),ds=[.ref s,d]∧st[s]?=some (.ins av [])∧gX st d A∧St A N w∧(∀k,k≤N→Mx.D k (Mx.ae A)≠0)∧∀st' b xb xu xc tb rs,Ss s st' s b xb xu xc tb rs A (Mx.units N) (Mx.units N) N→(∀m,m<s→st'[m]?=st[m]?)→K .aH st'
noncomputable def gA:List Str:=["self","steps"]
noncomputable def p_:DS:=(aD (kg av "bench" (aa 0) (uy az fT (af (aa 1) ao)))
 (kg av "table" (aa 0) (a_ jE (af (aa 1) ao))))
theorem oj:∀ds st K,fz ds st K→ds.length=2∧p_ {nx:=fun _ st'=>K .aH st',rt:=K} (bx gA ds) st:=by
 rintro ds st K ⟨s,N,w,d,A,rfl,es,hA,hS,hD,k⟩
 refine⟨rfl,?_⟩
 have hs:s<st.length:=(List.getElem?_eq_some_iff.mp es).1
 have X0:Ext st (st++[.ins az []]):=Ext.push
 have e0:(st++[Cell.ins az []]).length=st.length+1:=by simp
 refine⟨st.length,N,d,A,rfl,by simp,X0.ur hA,hS.is.len,hS.gm.le,fun st1 B l1 f1=>⟨rfl,?_⟩⟩
 rw[e0]at B l1 f1
 have g1:∀m,m<st.length→st1[m]?=st[m]?:=fun m hm=>by rw[f1 m (by omega) (by omega),X0.same m hm]
 have es1:st1[s]?=some (.ins av []):=(g1 s hs).trans es
 refine jm es1 (by decide) ?_
 have pb:putD "bench" (.ref st.length) []=([("bench",.ref st.length)]:List (Str×D)):=rfl
 rw[pb]
 generalize hs2:st1.set s (.ins av [("bench",.ref st.length)])=st2
 have l2:st2.length=st.length+4:=by rw[←hs2,List.length_set];omega
 have f2:∀m,m≠s→st2[m]?=st1[m]?:=fun m hm=>by rw[←hs2,List.getElem?_set_ne (Ne.symm hm)]
 have es2:st2[s]?=some (.ins av [("bench",.ref st.length)]):=by rw[←hs2,List.getElem?_set_self (by omega)]
 clear hs2
 have hA2:gX st2 d A:=wD (fun m xs e=>by
  have hm:m<st.length:=(List.getElem?_eq_some_iff.mp e).1
  have hms:m≠s:=fun z=>by rw[z,es]at e;cases e
  rw[f2 m hms,g1 m hm];exact e) hA
 refine⟨A,N,w,d,rfl,hA2,hS,hD,fun st3 rs X3 T hrs=>?_⟩
 have es3:st3[s]?=some (.ins av [("bench",.ref st.length)]):=(X3.same s (by omega)).trans es2
 refine jm es3 (by simp) ?_
 have pb:putD "table" (.ref st2.length) [("bench",.ref st.length)]=([("bench",.ref st.length),("table",.ref st2.length)]:List (Str×D)):=rfl
 rw[pb]
 have ht:st2.length<st3.length:=(List.getElem?_eq_some_iff.mp T.et).1
 have g3:∀m,m<st2.length→m≠s→(st3.set s (.ins av [("bench",.ref st.length),("table",.ref st2.length)]))[m]?=st1[m]?:=fun m hm hms=>by rw[List.getElem?_set_ne (Ne.symm hms),X3.same m hm,f2 m hms]
 have b0:=(List.getElem?_eq_some_iff.mp B.eb).1
 refine k _ st.length (st.length+1) (st.length+1+1) (st.length+1+2) st2.length rs ⟨?_,⟨?_,?_,?_,?_,by omega,by omega,by omega⟩,?_,⟨by omega,by omega,by omega⟩,fun i c h=>?_,⟨by omega,by omega,by omega,by omega,by omega,by omega⟩,fun i c h=>?_⟩ fun m hm=>?_
 · rw[List.getElem?_set_self (by omega)]
 · rw[g3 _ (by omega) (by omega)];exact B.eb
 · rw[g3 _ (by omega) (by omega)];exact B.e1
 · rw[g3 _ (by omega) (by omega)];exact B.e2
 · rw[g3 _ (by omega) (by omega)];exact B.e3
 · refine T.ext (List.getElem?_set_ne (by omega)) fun i c h=>List.getElem?_set_ne ?_
   have:=hrs i c h
   omega
 · have:=hrs i c h
   exact⟨by omega,by omega,by omega⟩
 · have:=hrs i c h
   omega
 · rw[g3 m (by omega) (by omega),g1 m (by omega)]
noncomputable def cw:cW:=fun ds st K=>∃(s b tb N kk:Nat) (rs:List Nat) (G:Mx.Fn) (k:Int),ds=[.ref s,.int k]∧st[s]?=some (Cell.ins av [("bench",.ref b),("table",.ref tb)])∧Tb st tb rs G N∧k=(kk:Int)-1∧kk≤N∧K (.int (Mx.D kk G)) st
noncomputable def gR:List Str:=["self","k"]
noncomputable def qx:DS:=(bX (zP (bL (ak rR (aa 1) (dC (.int 0)))) (ak bU (ak bU (dq av "table" (aa 0)) (aa 1)) (aa 1)) (dC (.int 1))))
theorem Tb.line{st:ag}{tb N:Nat}{rs:List Nat}{G:Mx.Fn}(h:Tb st tb rs G N){i:Nat}(hi:i<N):∃c,rs[i]?=some c∧eW (rs.map D.ref) ((i:Nat):Int)=some (.ref c)∧st[c]?=some (Cell.lst (au (Mx.aO G i))):=by
 have lr:=h.lr
 have e:rs[i]?=some rs[i]:=List.getElem?_eq_getElem (by omega)
 exact⟨rs[i],e,gF (by rw[List.getElem?_map,e];rfl),h.row i _ e⟩
theorem Ss.line{n0 s b xb xu xc tb N:Nat}{rs:List Nat}{A U C:List (List Int)}{st:ag}(h:Ss n0 st s b xb xu xc tb rs A U C N){i:Nat}(hi:i<N):∃c,rs[i]?=some c∧eW (rs.map D.ref) ((i:Nat):Int)=some (.ref c)∧st[c]?=some (Cell.lst (au (Mx.aO (Mx.ae A) i))):=h.T.line hi
theorem iM{G:Mx.Fn}{i p:Nat}(h:p≤i):eW (au (Mx.aO G i)) ((p:Nat):Int)=some (.int (Mx.lam G i p)):=by
 have:=hJ (r:=Mx.aO G i) (k:=p) (by rw[Mx.d6];omega)
 rw[Mx.ir _ h]at this
 exact this
theorem pU:∀ds st K,cw ds st K→ds.length=2∧qx {nx:=fun _ st'=>K .aH st',rt:=K} (bx gR ds) st:=by
 rintro ds st K ⟨s,b,tb,N,kk,rs,G,k,rfl,es,T,rfl,hk,q⟩
 refine⟨rfl,?_⟩
 cases kk with
 |zero=>
  refine Kv (by omega) ?_
  rw[Mx.iW]at q
  exact q
 |succ m=>
  have em:((m+1:Nat):Int)-1=(m:Int):=by omega
  rw[em]
  obtain⟨c,e1,e2,e3⟩:=T.line (i:=m) (by omega)
  refine Kf (by omega) (hX (cm es rfl (aZ (aF T.et) e2 (aZ (aF e3) (iM (Nat.le_refl m)) ?_))))
  rw[Mx.dP]
  exact q
structure ve(A U C:List (List Int))(N:Nat):Prop where
 lam:∀i p,p≤i→i<N→(Mx.lam (Mx.ae A) i p).natAbs≤2^40000
 D:∀p,p≤N→0<Mx.D p (Mx.ae A)∧(Mx.D p (Mx.ae A)).natAbs≤2^744
 eA:∀r∈A,∀x∈r,x.natAbs≤2^400000
 eU:∀r∈U,∀x∈r,x.natAbs≤2^400000
 eC:∀r∈C,∀x∈r,x.natAbs≤2^400000
noncomputable abbrev nq(A:List (List Int))(k j:Nat):Int:=(2*Mx.lam (Mx.ae A) k j+Mx.D (j+1) (Mx.ae A)).fdiv (2*Mx.D (j+1) (Mx.ae A))
noncomputable def ft:cW:=fun ds st K=>∃(n0 s b xb xu xc tb N w k j:Nat) (rs:List Nat) (A U C:List (List Int)),ds=[.ref s,.int k,.int j]∧Ss n0 st s b xb xu xc tb rs A U C N∧Mx.bZ N w A∧Mx.bZ N N U∧Mx.bZ N N C∧j<k∧k<N∧N≤8∧w≤9∧ve A U C N∧
 ∀st',Ss n0 st' s b xb xu xc tb rs (Mx.bj A k (nq A k j) j) (Mx.bj U k (nq A k j) j) (Mx.bj C j (-nq A k j) k) N→(∀m,m<n0→st'[m]?=st[m]?)→K .aH st'
noncomputable def hZ:List Str:=["self","k","j","quotient","i"]
noncomputable def rP:DS:=(aD (bg 3 (a_ fg (af (ak bU (ak bU (dq av "table" (aa 0)) (aa 1)) (aa 2)) (af (ak bU (ak bU (dq av "table" (aa 0)) (aa 2)) (aa 2)) ao))))
 (aD (fw (bL (ak jr (aa 3) (dC (.int 0)))) zd d9)
 (aD (gj (fy az "take" iE (dq av "bench" (aa 0)) (af (aa 1) (af (aa 3) (af (aa 2) ao)))))
 (gc (cP (af (ak cC (aa 2) (dC (.int 1))) ao)) (bB 4) (wz (fun i j=>i-j) (ak bU (dq av "table" (aa 0)) (aa 1)) (aa 4) (ak bO (aa 3) (ak bU (ak bU (dq av "table" (aa 0)) (aa 2)) (aa 4))))))))
theorem AH{r s:List Int}(h:r.length=s.length):Mx.gz r 0 s=r:=by
 refine Mx.so (n:=r.length) (Mx.lY h) rfl fun c _=>?_
 rw[Mx.pJ h];omega
theorem nz{A:List (List Int)}{N w k j:Nat}(hA:Mx.bZ N w A)(hk:k<N)(hj:j<N):Mx.bj A k 0 j=A:=by
 unfold Mx.bj
 have hl:=hA.len
 rw[Int.neg_zero,AH (by rw[Mx.bW hA hk,Mx.bW hA hj]),Mx.aX (by omega)]
 exact List.set_getElem_self _
theorem xl{G G':Mx.Fn}{i:Nat}(h:∀p,p≤i→Mx.lam G i p=Mx.lam G' i p):Mx.aO G i=Mx.aO G' i:=by
 unfold Mx.aO
 exact List.map_congr_left fun p hp=>h p (by rw[List.mem_range]at hp;omega)
noncomputable def jy(G:Mx.Fn)(k j:Nat)(q:Int)(m:Nat):List Int:=(List.range (k+1)).map fun p=>if p<m then Mx.lam G k p-q*Mx.lam G j p else Mx.lam G k p
theorem su{G:Mx.Fn}{k j m p:Nat}{q:Int}(h:p≤k):(jy G k j q m).getD p 0=if p<m then Mx.lam G k p-q*Mx.lam G j p else Mx.lam G k p:=by
 unfold jy
 rw[Mx.aX (by simp;omega),List.getElem_map,List.getElem_range]
theorem lu{G:Mx.Fn}{k j m:Nat}{q:Int}:(jy G k j q m).length=k+1:=by unfold jy;simp
theorem BD{G:Mx.Fn}{k j m:Nat}{q:Int}(h:m≤k):(jy G k j q m).set m (Mx.lam G k m-q*Mx.lam G j m)=jy G k j q (m+1):=by
 refine Mx.so (n:=k+1) (by rw[List.length_set,lu]) lu fun c hc=>?_
 rw[su (by omega),List.getD_eq_getElem?_getD,List.getElem?_set]
 by_cases hcm:m=c
 · subst hcm
   rw[if_pos rfl,if_pos (by rw[lu];omega),if_pos (by omega)];rfl
 · rw[if_neg hcm,←List.getD_eq_getElem?_getD,su (by omega)]
   by_cases h1:c<m
   · rw[if_pos h1,if_pos (by omega)]
   · rw[if_neg h1,if_neg (by omega)]
theorem Tb.take{st:ag}{tb N w k j:Nat}{rs:List Nat}{A:List (List Int)}{q:Int}(T:Tb st tb rs (Mx.ae A) N)(hA:Mx.bZ N w A)(hj:j<k)(hk:k<N){st':ag}(h1:st'[tb]?=st[tb]?)(h2:∀(i c:Nat),i≠k→rs[i]?=some c→st'[c]?=st[c]?)(h3:∀c,rs[k]?=some c→st'[c]?=some (.lst (au (jy (Mx.ae A) k j q (j+1))))):Tb st' tb rs (Mx.ae (Mx.bj A k q j)) N:=by
 have lr:=T.lr
 refine⟨h1.trans T.et,lr,T.nd,T.nt,fun i c h=>?_⟩
 have hi:i<N:=by have:=(List.getElem?_eq_some_iff.mp h).1;omega
 by_cases hik:i=k
 · subst hik
   rw[h3 c h]
   congr 3
   unfold jy Mx.aO
   refine List.map_congr_left fun p hp=>?_
   rw[List.mem_range]at hp
   rw[Mx.jS hA hj hk hi (by omega),if_pos rfl]
   by_cases hpj:p<j+1
   · rw[if_pos hpj]
   · have z:Mx.lam (Mx.ae A) j p=0:=Mx.qX (by omega)
     rw[if_neg hpj,z,Int.mul_zero,Int.sub_zero]
 · rw[h2 i c hik h,T.row i c h]
   congr 3
   exact xl fun p hp=>by rw[Mx.jS hA hj hk hi hp,if_neg hik,Int.sub_zero]
theorem s_{A:List (List Int)}{N w i:Nat}(h:Mx.bZ N w A)(hi:i<N):A.getD i []∈A:=by
 have:=h.len
 rw[Mx.aX (by omega)];exact List.getElem_mem _
theorem qR:∀ds st K,ft ds st K→ds.length=3∧rP {nx:=fun _ st'=>K .aH st',rt:=K} (bx hZ ds) st:=by
 rintro ds st K ⟨n0,s,b,xb,xu,xc,tb,N,w,k,j,rs,A,U,C,rfl,h,hA,hU,hC,hj,hk,hN,hw,sm,kk⟩
 refine⟨rfl,?_⟩
 obtain⟨ck,ek1,ek2,ek3⟩:=h.line (i:=k) hk
 obtain⟨cj,ej1,ej2,ej3⟩:=h.line (i:=j) (by omega)
 obtain⟨hD0,hDb⟩:=sm.D (j+1) (by omega)
 refine cm h.es rfl (aZ (aF h.T.et) ek2 (aZ (aF ek3) (iM (by omega)) (cm h.es rfl (aZ (aF h.T.et) ej2 (aZ (aF ej3) (iM (Nat.le_refl j)) ?_)))))
 rw[Mx.dP]
 refine⟨_,_,rfl,hD0,Nat.le_trans hDb (Nat.pow_le_pow_right (by decide) (by decide)),?_⟩
 have hq:(nq A k j).natAbs≤2^40000:=by
  have:=(Mx.va (t:=Mx.lam (Mx.ae A) k j) hD0).2
  have h2:=sm.lam k j (by omega) hk
  exact Nat.le_trans (Int.ofNat_le.mp this) h2
 refine eq2 (fun h0=>hX ?_) fun h0=>?_
 · have e0:nq A k j=0:=h0
   rw[e0,Int.neg_zero,nz hA hk (by omega),nz hU hk (by omega),nz hC (by omega) hk]at kk
   exact kk st h fun m _=>rfl
 unfold nq at hq kk
 generalize hqe:(2*Mx.lam (Mx.ae A) k j+Mx.D (j+1) (Mx.ae A)).fdiv (2*Mx.D (j+1) (Mx.ae A))=q at*
 have hnq:(-q).natAbs≤2^40000:=by rw[Int.natAbs_neg];exact hq
 refine cm h.es rfl (fK h.B.eb rfl ?_)
 refine⟨b,xb,xu,xc,N,w,k,j,A,U,C,q,rfl,h.B,hA,hU,hC,hk,by omega,hN,hw,fun x hx=>dn hnq (sm.eA _ (s_ hA (by omega)) x hx) (by decide) (by decide),fun x hx=>dn hnq (sm.eU _ (s_ hU (by omega)) x hx) (by decide) (by decide),fun x hx=>dn hq (sm.eC _ (s_ hC hk) x hx) (by decide) (by decide),fun st1 B1 l1 f1=>?_⟩
 have lo:=h.lo
 have sx:s≠xb∧s≠xu∧s≠xc:=⟨iz h.es h.B.e1,iz h.es h.B.e2,iz h.es h.B.e3⟩
 have es1:st1[s]?=_:=(f1 s sx.1 sx.2.1 sx.2.2).trans h.es
 have et1:st1[tb]?=_:=(f1 tb h.d1.1 h.d1.2.1 h.d1.2.2).trans h.T.et
 have fr:∀(i c:Nat),rs[i]?=some c→st1[c]?=st[c]?:=fun i c hc=>f1 c (h.d2 i c hc).1 (h.d2 i c hc).2.1 (h.d2 i c hc).2.2
 have ckj:ck≠cj:=fun z=>by
  have:=h.T.nd k j ck ek1 (by rw[z];exact ej1)
  omega
 have ckt:ck≠tb:=h.T.nt k ck ek1
 have cks:∀(m:Nat) (C':Addr) (fs:List (Str×D)),st1[m]?=some (.ins C' fs)→m≠ck:=fun m C' fs hm z=>by
  rw[z,fr k ck ek1,ek3]at hm;cases hm
 refine cM ?_
 have e1:((j:Nat):Int)+1=((j+1:Nat):Int):=rfl
 rw[e1]
 refine eP ⟨by omega,by omega⟩ ?_
 rw[Int.toNat_natCast]
 refine ib (j+1) (fun m σ st'=>∃v4:Option D,σ=[some (.ref s),some (.int (k:Int)),some (.int (j:Int)),some (.int q),v4]∧(∀n,n≠ck→st'[n]?=st1[n]?)∧st'[ck]?=some (.lst (au (jy (Mx.ae A) k j q m)))) ?_ ?_ ⟨none,rfl,fun _ _=>rfl,?_⟩
 · rintro σ st2 ⟨v4,rfl,g,e⟩
   refine kk st2 ⟨?_,⟨?_,?_,?_,?_,h.B.n1,h.B.n2,h.B.n3⟩,?_,h.d1,h.d2,lo,h.lr⟩ fun m hm=>?_
   · rw[g s (cks s _ _ es1)];exact es1
   · rw[g b (cks b _ _ B1.eb)];exact B1.eb
   · rw[g xb (h.d2 k ck ek1).1.symm];exact B1.e1
   · rw[g xu (h.d2 k ck ek1).2.1.symm];exact B1.e2
   · rw[g xc (h.d2 k ck ek1).2.2.symm];exact B1.e3
   · refine h.T.take hA hj hk ?_ (fun i c hi hc=>?_) fun c hc=>?_
     · rw[g tb (Ne.symm ckt),et1,h.T.et]
     · have:c≠ck:=fun z=>hi (h.T.nd i k c hc (by rw[z];exact ek1))
       rw[g c this,fr i c hc]
     · rw[ek1]at hc
       cases hc
       exact e
   · have a1:=h.lr k ck ek1
     rw[g m (by omega),f1 m (by omega) (by omega) (by omega)]
 · rintro m σ st2 rest hm ⟨v4,rfl,g,e⟩ next
   refine⟨_,rfl,?_⟩
   have es2:st2[s]?=_:=(g s (cks s _ _ es1)).trans es1
   have et2:st2[tb]?=_:=(g tb (Ne.symm ckt)).trans et1
   have ej4:st2[cj]?=_:=((g cj (Ne.symm ckj)).trans (fr j cj ej1)).trans ej3
   refine cm es2 rfl (aZ (aF et2) ek2 ?_)
   refine Ey (u:=Mx.lam (Mx.ae A) k m) e (by omega) (by
    have:=hJ (r:=jy (Mx.ae A) k j q m) (k:=m) (by rw[lu];omega)
    rw[su (by omega),if_neg (Nat.lt_irrefl m)]at this
    exact this) ?_
   refine cm es2 rfl (aZ (aF et2) ej2 (aZ (aF ej4) (iM (by omega)) (bY (dn hq (sm.lam j m (by omega) (by omega)) (by decide) (by decide)) ?_)))
   refine EB (j:=m) e (by rw[List.length_map,lu];exact jw (by omega)) ?_
   have es3:(au (jy (Mx.ae A) k j q m)).set m (.int (Mx.lam (Mx.ae A) k m-q*Mx.lam (Mx.ae A) j m))=au (jy (Mx.ae A) k j q (m+1)):=by
    rw[←BD (by omega)];unfold au;rw[List.map_set]
   rw[es3]
   have hlt:=(List.getElem?_eq_some_iff.mp e).1
   exact next _ _ ⟨_,rfl,fun n hn=>by rw[List.getElem?_set_ne (Ne.symm hn)];exact g n hn,List.getElem?_set_self hlt⟩
 · rw[fr k ck ek1,ek3]
   have e9:jy (Mx.ae A) k j q 0=Mx.aO (Mx.ae A) k:=by
    unfold jy Mx.aO
    exact List.map_congr_left fun p _=>by rw[if_neg (by omega)]
   rw[e9]
noncomputable def fC:cW:=fun ds st K=>∃(n0 s b xb xu xc tb N t:Nat) (rs:List Nat) (A U C:List (List Int)),ds=[.ref s,.int ((t+1:Nat):Int)]∧Ss n0 st s b xb xu xc tb rs A U C N∧t+1<N∧ve A U C N∧K (.bl (decide (4*(Mx.D (t+2) (Mx.ae A)*Mx.D t (Mx.ae A)+Mx.lam (Mx.ae A) (t+1) t*Mx.lam (Mx.ae A) (t+1) t)<3*Mx.D (t+1) (Mx.ae A)*Mx.D (t+1) (Mx.ae A)))) st
noncomputable def gB:List Str:=["self","k","share","ahead"]
noncomputable def qc:DS:=(aD (bg 2 (ak bU (ak bU (dq av "table" (aa 0)) (aa 1)) (ak dD (aa 1) (dC (.int 1)))))
 (aD (bg 3 (fy av "last_of" cw (aa 0) (af (ak dD (aa 1) (dC (.int 1))) ao)))
 (bX (ak pe (ak bO (dC (.int 4)) (ak cC (ak bO (fy av "last_of" cw (aa 0) (af (aa 1) ao)) (fy av "last_of" cw (aa 0) (af (ak dD (aa 1) (dC (.int 2))) ao))) (ak bO (aa 2) (aa 2)))) (ak bO (ak bO (dC (.int 3)) (aa 3)) (aa 3))))))
theorem oh:∀ds st K,fC ds st K→ds.length=2∧qc {nx:=fun _ st'=>K .aH st',rt:=K} (bx gB ds) st:=by
 rintro ds st K ⟨n0,s,b,xb,xu,xc,tb,N,t,rs,A,U,C,rfl,h,ht,sm,kk⟩
 refine⟨rfl,?_⟩
 obtain⟨ck,ek1,ek2,ek3⟩:=h.line (i:=t+1) ht
 have em:((t+1:Nat):Int)-1=(t:Int):=by omega
 refine cm h.es rfl (aZ (aF h.T.et) ek2 (cS ?_))
 rw[em]
 refine aZ (aF ek3) (iM (by omega)) ?_
 have b0:=(sm.D t (by omega)).2
 have b1:=(sm.D (t+1) (by omega)).2
 have b2:=(sm.D (t+2) (by omega)).2
 have b3:=sm.lam (t+1) t (by omega) ht
 have t3:(3:Int).natAbs≤2^2:=by decide
 refine fK h.es rfl (cS ?_)
 refine⟨s,b,tb,N,t+1,rs,_,_,rfl,h.es,h.T,by omega,by omega,?_⟩
 refine fK h.es rfl ?_
 refine⟨s,b,tb,N,t+2,rs,_,_,rfl,h.es,h.T,by omega,by omega,?_⟩
 refine fK h.es rfl (cS ?_)
 refine⟨s,b,tb,N,t,rs,_,_,rfl,h.es,h.T,by omega,by omega,?_⟩
 exact bY (dn b2 b0 (by decide) (by decide)) (bY (dn b3 b3 (by decide) (by decide)) (cM (bY (fm (by decide) (by decide)) (bY (fm (by decide) (by decide)) (bY (dn (jM t3 b1) b1 (by decide) (by decide)) (yq kk))))))
structure oO(st:ag)(tb:Nat)(rs:List Nat)(L:Nat→List Int)(N:Nat):Prop where
 et:st[tb]?=some (Cell.lst (rs.map D.ref))
 lr:rs.length=N
 nd:∀(i j c:Nat),rs[i]?=some c→rs[j]?=some c→i=j
 nt:∀(i c:Nat),rs[i]?=some c→c≠tb
 row:∀(i c:Nat),rs[i]?=some c→st[c]?=some (Cell.lst (au (L i)))
theorem Tb.toF{st:ag}{tb N:Nat}{rs:List Nat}{G:Mx.Fn}(T:Tb st tb rs G N):oO st tb rs (Mx.aO G) N:=⟨T.et,T.lr,T.nd,T.nt,T.row⟩
theorem oO.toT{st:ag}{tb N:Nat}{rs:List Nat}{G:Mx.Fn}{L:Nat→List Int}(T:oO st tb rs L N)(h:∀i,i<N→L i=Mx.aO G i):Tb st tb rs G N:=⟨T.et,T.lr,T.nd,T.nt,fun i c hc=>by
 have:=(List.getElem?_eq_some_iff.mp hc).1
 rw[←h i (by have:=T.lr;omega)];exact T.row i c hc⟩
theorem oO.line{st:ag}{tb N:Nat}{rs:List Nat}{L:Nat→List Int}(h:oO st tb rs L N){i:Nat}(hi:i<N):∃c,rs[i]?=some c∧eW (rs.map D.ref) ((i:Nat):Int)=some (.ref c)∧st[c]?=some (Cell.lst (au (L i))):=by
 have lr:=h.lr
 have e:rs[i]?=some rs[i]:=List.getElem?_eq_getElem (by omega)
 exact⟨rs[i],e,gF (by rw[List.getElem?_map,e];rfl),h.row i _ e⟩
theorem oO.lt{st:ag}{tb N:Nat}{rs:List Nat}{L:Nat→List Int}(h:oO st tb rs L N):tb<st.length∧∀(i c:Nat),rs[i]?=some c→c<st.length:=⟨(List.getElem?_eq_some_iff.mp h.et).1,fun i c hc=>(List.getElem?_eq_some_iff.mp (h.row i c hc)).1⟩
theorem kB{rs:List Nat}{i m c d:Nat}(hi:i<rs.length)(h:(rs.set i d)[m]?=some c):(m=i∧c=d)∨(m≠i∧rs[m]?=some c):=by
 rw[List.getElem?_set]at h
 by_cases z:i=m
 · rw[if_pos z,if_pos (by omega)]at h
   cases h
   exact .inl ⟨z.symm,rfl⟩
 · rw[if_neg z]at h
   exact .inr ⟨Ne.symm z,h⟩
theorem oO.put{st:ag}{tb N i:Nat}{rs:List Nat}{L:Nat→List Int}(T:oO st tb rs L N)(hi:i<N)(r:List Int):oO ((st++[Cell.lst (au r)]).set tb (.lst ((rs.set i st.length).map D.ref))) tb (rs.set i st.length) (fun m=>if m=i then r else L m) N:=by
 have lr:=T.lr
 obtain⟨h1,h2⟩:=T.lt
 refine⟨List.getElem?_set_self (by simp;omega),by rw[List.length_set];exact lr,fun a b c ha hb=>?_,fun a c ha=>?_,fun a c ha=>?_⟩
 · rcases kB (by omega) ha with⟨a1,a2⟩|⟨a1,a2⟩<;>rcases kB (by omega) hb with⟨b1,b2⟩|⟨b1,b2⟩
   · omega
   · have:=h2 b c b2;omega
   · have:=h2 a c a2;omega
   · exact T.nd a b c a2 b2
 · rcases kB (by omega) ha with⟨a1,a2⟩|⟨a1,a2⟩
   · omega
   · exact T.nt a c a2
 · rcases kB (by omega) ha with⟨a1,a2⟩|⟨a1,a2⟩
   · rw[if_pos a1,a2,List.getElem?_set_ne (by omega)];simp
   · have h3:=h2 a c a2
     have h4:=T.nt a c a2
     rw[if_neg a1,List.getElem?_set_ne (Ne.symm h4),List.getElem?_append_left h3]
     exact T.row a c a2
noncomputable def g4:cW:=fun ds st K=>∃(n0 s b xb xu xc tb N w t:Nat) (rs:List Nat) (A U C:List (List Int)),ds=[.ref s,.int ((t+1:Nat):Int)]∧Ss n0 st s b xb xu xc tb rs A U C N∧Mx.bZ N w A∧Mx.bZ N N U∧Mx.bZ N N C∧t+1<N∧N≤8∧ve A U C N∧
 ∀st' xb' xu' xc' rs',Ss n0 st' s b xb' xu' xc' tb rs' (Mx.cf A (t+1) t) (Mx.cf U (t+1) t) (Mx.cf C (t+1) t) N→(∀m,m<n0→st'[m]?=st[m]?)→K .aH st'
noncomputable def i6:List Str:=["self","k","share","own","ahead","made","kept","i","line","upper","lower"]
noncomputable def uj:DS:=(aD (gj (fy az "exchange" fW (dq av "bench" (aa 0)) (af (aa 1) (af (ak dD (aa 1) (dC (.int 1))) ao))))
 (aD (bg 2 (ak bU (ak bU (dq av "table" (aa 0)) (aa 1)) (ak dD (aa 1) (dC (.int 1)))))
 (aD (bg 3 (fy av "last_of" cw (aa 0) (af (aa 1) ao)))
 (aD (bg 4 (fy av "last_of" cw (aa 0) (af (ak dD (aa 1) (dC (.int 1))) ao)))
 (aD (bg 5 (ak iF (ak cC (ak bO (fy av "last_of" cw (aa 0) (af (ak dD (aa 1) (dC (.int 2))) ao)) (aa 3)) (ak bO (aa 2) (aa 2))) (aa 4)))
 (aD (bg 6 (lN (ak bU (dq av "table" (aa 0)) (aa 1)) lp (mD (ak dD (aa 1) (dC (.int 1))))))
 (aD (g9 (dq av "table" (aa 0)) (aa 1) (ak nH (lN (ak bU (dq av "table" (aa 0)) (ak dD (aa 1) (dC (.int 1)))) lp (mD (ak dD (aa 1) (dC (.int 1))))) (kC (af (aa 2) (af (aa 3) ao)))))
 (aD (g9 (dq av "table" (aa 0)) (ak dD (aa 1) (dC (.int 1))) (ak nH (aa 6) (kC (af (aa 5) ao))))
 (gc (nj (af (ak cC (aa 1) (dC (.int 1))) (af (cJ gI (af (dq av "table" (aa 0)) ao)) ao))) (bB 7) (aD (bg 8 (ak bU (dq av "table" (aa 0)) (aa 7)))
 (aD (bg 9 (ak iF (ak dD (ak bO (aa 3) (ak bU (aa 8) (ak dD (aa 1) (dC (.int 1))))) (ak bO (aa 2) (ak bU (aa 8) (aa 1)))) (aa 4)))
 (aD (bg 10 (ak iF (ak cC (ak bO (aa 5) (ak bU (aa 8) (aa 1))) (ak bO (aa 2) (aa 9))) (aa 3)))
 (g9 (dq av "table" (aa 0)) (aa 7) (ak nH (ak cC (lN (aa 8) lp (mD (ak dD (aa 1) (dC (.int 1))))) (kC (af (aa 10) (af (aa 9) ao)))) (lN (aa 8) (mD (ak cC (aa 1) (dC (.int 1)))) lp)))))))))))))))
theorem qu{G:Mx.Fn}{i t:Nat}(h:t≤i):L3.cutD (au (Mx.aO G i)) none (some ((t:Nat):Int))=au ((List.range t).map fun p=>Mx.lam G i p):=by
 have hl:t≤(Mx.aO G i).length:=by rw[Mx.d6];omega
 have e:L3.cutD (au (Mx.aO G i)) none (some ((t:Nat):Int))=au ((Mx.aO G i).take t):=by
  unfold L3.cutD
  rw[HT.uX,HT.xR,List.length_map,Nat.min_eq_left hl,List.drop_zero,Nat.sub_zero]
  unfold au
  rw[List.map_take]
 rw[e]
 unfold Mx.aO
 rw[←List.map_take,List.take_range,Nat.min_eq_left (by omega)]
theorem Cd{G:Mx.Fn}{i t:Nat}(h:t≤i+1):L3.cutD (au (Mx.aO G i)) (some ((t:Nat):Int)) none=au ((List.range (i+1-t)).map fun p=>Mx.lam G i (t+p)):=by
 have hl:t≤(Mx.aO G i).length:=by rw[Mx.d6];omega
 unfold L3.cutD
 rw[HT.uX,HT.xR,List.length_map,Nat.min_eq_left hl]
 refine List.ext_getElem? fun m=>?_
 rw[List.getElem?_take]
 by_cases hm:m<i+1-t
 · rw[if_pos (by rw[Mx.d6];omega),List.getElem?_drop]
   unfold Mx.aO
   rw[List.getElem?_map,List.getElem?_map,List.getElem?_map,List.getElem?_map,List.getElem?_range (by omega),List.getElem?_range hm]
   rfl
 · rw[if_neg (by rw[Mx.d6];omega),List.getElem?_eq_none (by simpa using hm)]
theorem oW{a b c:Int}(hb:b≠0)(h:b*c=a):a.fdiv b=c:=by rw[←h,Int.mul_fdiv_cancel_left _ hb]
theorem vF(f:Nat→Int)(t:Nat)(x y:Int):au ((List.range t).map f)++[.int x,.int y]=au ((List.range t).map f++[x,y]):=by simp[au]
theorem Ea{G:Mx.Fn}(sym:∀i j,G i j=G j i)(t:Nat):(List.range t).map (fun p=>Mx.lam G t p)++[Mx.lam G (t+1) t,Mx.D (t+2) G]=Mx.aO (Mx.bK G t) (t+1):=by
 unfold Mx.aO
 rw[List.range_succ,List.range_succ,List.map_append,List.map_append,List.append_assoc]
 congr 1
 · refine List.map_congr_left fun p hp=>?_
   rw[List.mem_range]at hp
   rw[Mx.jW hp,Mx.yA]
 · show [_,_]=[Mx.lam (Mx.bK G t) (t+1) t,Mx.lam (Mx.bK G t) (t+1) (t+1)]
   rw[Mx.vv sym,Mx.Gz sym,Mx.dP]
theorem Al{G:Mx.Fn}(t:Nat):(List.range t).map (fun p=>Mx.lam G (t+1) p)++[Mx.lam (Mx.bK G t) t t]=Mx.aO (Mx.bK G t) t:=by
 unfold Mx.aO
 rw[List.range_succ,List.map_append]
 congr 1
 refine List.map_congr_left fun p hp=>?_
 rw[List.mem_range]at hp
 rw[Mx.jW hp,Mx.uZ]
theorem B7{G:Mx.Fn}{t i:Nat}(hi:t+1<i):(List.range t).map (fun p=>Mx.lam G i p)++[Mx.lam (Mx.bK G t) i t,Mx.lam (Mx.bK G t) i (t+1)]++(List.range (i+1-(t+2))).map (fun p=>Mx.lam G i (t+2+p))=Mx.aO (Mx.bK G t) i:=by
 unfold Mx.aO
 have e:List.range (i+1)=List.range t++[t,t+1]++(List.range (i+1-(t+2))).map (fun p=>t+2+p):=by
  have h1:i+1=t+2+(i+1-(t+2)):=by omega
  conv=>lhs;rw[h1]
  rw[List.range_add,List.range_succ,List.range_succ,List.append_assoc (List.range t)]
  rfl
 rw[e,List.map_append,List.map_append,List.map_map]
 congr 1
 · congr 1
   refine List.map_congr_left fun p hp=>?_
   rw[List.mem_range]at hp
   rw[Mx.jW hp,Mx.iA (by omega) (by omega)]
 · refine List.map_congr_left fun p hp=>?_
   rw[List.mem_range]at hp
   show _=Mx.lam (Mx.bK G t) i (t+2+p)
   rw[Mx.Cp (by omega) (by omega)]
theorem abs_dvd{d x y:Int}(hd:0<d)(h:d*x=y):x.natAbs≤y.natAbs:=by
 rw[←h,Int.natAbs_mul]
 have:1*x.natAbs≤d.natAbs*x.natAbs:=Nat.mul_le_mul_right _ (by omega)
 omega
theorem pv{a:Int}{m n:Nat}(h:a.natAbs≤2^m)(hm:m≤n):a.natAbs≤2^n:=Nat.le_trans h (Nat.pow_le_pow_right (by decide) hm)
theorem AE{a b:Int}{m:Nat}(ha:a.natAbs≤2^m)(hb:b.natAbs≤2^m):(a+b).natAbs≤2^(m+1):=by
 have:=Int.natAbs_add_le a b
 rw[Nat.pow_succ];omega
theorem Fz{a b:Int}{m:Nat}(ha:a.natAbs≤2^m)(hb:b.natAbs≤2^m):(a-b).natAbs≤2^(m+1):=by
 have:=AE ha (b:= -b) (by rw[Int.natAbs_neg];exact hb)
 rw[←Int.sub_eq_add_neg]at this
 exact this
theorem sA:∀ds st K,g4 ds st K→ds.length=2∧uj {nx:=fun _ st'=>K .aH st',rt:=K} (bx i6 ds) st:=by
 rintro ds st K ⟨n0,s,b,xb,xu,xc,tb,N,w,t,rs,A,U,C,rfl,h,hA,hU,hC,ht,hN,sm,kk⟩
 refine⟨rfl,?_⟩
 have em:((t+1:Nat):Int)-1=(t:Int):=by omega
 have lo:=h.lo
 have hs0:s<st.length:=(List.getElem?_eq_some_iff.mp h.es).1
 have htb:=h.T.toF.lt
 have lA:=hA.len
 have sym:=Mx.jf A
 have hgs:Mx.ae (Mx.cf A (t+1) t)=Mx.bK (Mx.ae A) t:=Mx.kh (by omega)
 obtain⟨p0,b0⟩:=sm.D t (by omega)
 obtain⟨p1,b1⟩:=sm.D (t+1) (by omega)
 obtain⟨p2,b2⟩:=sm.D (t+2) (by omega)
 have b3:=sm.lam (t+1) t (by omega) ht
 refine cm h.es rfl (fK h.B.eb rfl (cS ?_))
 rw[em]
 refine⟨b,xb,xu,xc,N,w,t+1,t,A,U,C,rfl,h.B,hA,hU,hC,ht,by omega,fun st1 B1 l1 f1=>?_⟩
 have sb:s≠b:=fun z=>by
  have h1:=h.es
  rw[z,h.B.eb]at h1
  have h2:=Cell.ins.inj (Option.some.inj h1)
  exact absurd h2.1 (by decide)
 have lb:∀m xs,st[m]?=some (Cell.lst xs)→m≠b:=fun m xs hm z=>by rw[z,h.B.eb]at hm;cases hm
 have es1:st1[s]?=_:=(f1 s hs0 sb).trans h.es
 have T1:Tb st1 tb rs (Mx.ae A) N:=h.T.ext (f1 tb htb.1 (lb _ _ h.T.et)) fun i c hc=>f1 c (htb.2 i c hc) (lb _ _ (h.T.row i c hc))
 obtain⟨ck,ek1,ek2,ek3⟩:=T1.line (i:=t+1) ht
 refine cm es1 rfl (aZ (aF T1.et) ek2 (cS ?_))
 rw[em]
 refine aZ (aF ek3) (iM (by omega)) ?_
 refine fK es1 rfl ?_
 refine⟨s,b,tb,N,t+2,rs,_,_,rfl,es1,T1,by omega,by omega,?_⟩
 refine fK es1 rfl (cS ?_)
 refine⟨s,b,tb,N,t+1,rs,_,_,rfl,es1,T1,by omega,by omega,?_⟩
 refine fK es1 rfl (cS ?_)
 refine⟨s,b,tb,N,t,rs,_,_,rfl,es1,T1,by omega,by omega,?_⟩
 refine bY (dn b0 b2 (by decide) (by decide)) (bY (dn b3 b3 (by decide) (by decide)) (cM (j4 (by omega) (rK b1 (by omega) (by decide)) ?_)))
 rw[oW (by omega) (Mx.mY sym (by omega))]
 refine cm es1 rfl (aZ (aF T1.et) ek2 (cS ?_))
 rw[em]
 refine mf ek3 ?_
 rw[qu (by omega)]
 obtain⟨cj,ej1,ej2,ej3⟩:=T1.line (i:=t) (by omega)
 refine cm es1 rfl (cS ?_)
 rw[em]
 refine aZ (aF T1.et) ej2 (cS ?_)
 rw[em]
 refine mf ej3 ?_
 rw[qu (by omega)]
 refine⟨Nat.le_of_ble_eq_true rfl,sH (by rw[sizeLine_eq];simp;omega) ?_⟩
 rw[vF,Ea sym]
 have F1:=T1.toF
 have l1t:=F1.lt
 have es1':(st1++[Cell.lst (au (Mx.aO (Mx.bK (Mx.ae A) t) (t+1)))])[s]?=_:=(List.getElem?_append_left (by omega)).trans es1
 have et1':(st1++[Cell.lst (au (Mx.aO (Mx.bK (Mx.ae A) t) (t+1)))])[tb]?=_:=(List.getElem?_append_left l1t.1).trans F1.et
 refine cm es1' rfl (jK et1' (by rw[List.length_map,F1.lr];exact jw ht) ?_)
 have em1:(rs.map D.ref).set (t+1) (.ref st1.length)=(rs.set (t+1) st1.length).map D.ref:=by rw[List.map_set]
 rw[em1]
 have F2:=F1.put ht (Mx.aO (Mx.bK (Mx.ae A) t) (t+1))
 have g2:∀m,m<st1.length→m≠tb→((st1++[Cell.lst (au (Mx.aO (Mx.bK (Mx.ae A) t) (t+1)))]).set tb (.lst ((rs.set (t+1) st1.length).map D.ref)))[m]?=st1[m]?:=fun m hm hmt=>by rw[List.getElem?_set_ne (Ne.symm hmt),List.getElem?_append_left hm]
 have l2:((st1++[Cell.lst (au (Mx.aO (Mx.bK (Mx.ae A) t) (t+1)))]).set tb (.lst ((rs.set (t+1) st1.length).map D.ref))).length=st1.length+1:=by simp
 have stb:s≠tb:=iz h.es h.T.et
 generalize((st1++[Cell.lst (au (Mx.aO (Mx.bK (Mx.ae A) t) (t+1)))]).set tb (.lst ((rs.set (t+1) st1.length).map D.ref)))=st2 at F2 g2 l2⊢
 have es2:st2[s]?=_:=(g2 s (by omega) stb).trans es1
 refine⟨Nat.le_of_ble_eq_true rfl,sH (by rw[sizeLine_eq];simp;omega) ?_⟩
 rw[ints_app,Al]
 have l2t:=F2.lt
 have es2':(st2++[Cell.lst (au (Mx.aO (Mx.bK (Mx.ae A) t) t))])[s]?=_:=(List.getElem?_append_left (by omega)).trans es2
 have et2':(st2++[Cell.lst (au (Mx.aO (Mx.bK (Mx.ae A) t) t))])[tb]?=_:=(List.getElem?_append_left l2t.1).trans F2.et
 refine cm es2' rfl (cS ?_)
 rw[em]
 refine jK et2' (by rw[List.length_map,F2.lr];exact jw (by omega)) ?_
 have em2:((rs.set (t+1) st1.length).map D.ref).set t (.ref st2.length)=((rs.set (t+1) st1.length).set t st2.length).map D.ref:=by simp only[List.map_set]
 rw[em2]
 have F3:=F2.put (i:=t) (by omega) (Mx.aO (Mx.bK (Mx.ae A) t) t)
 have g3:∀m,m<st2.length→m≠tb→((st2++[Cell.lst (au (Mx.aO (Mx.bK (Mx.ae A) t) t))]).set tb (.lst (((rs.set (t+1) st1.length).set t st2.length).map D.ref)))[m]?=st2[m]?:=fun m hm hmt=>by rw[List.getElem?_set_ne (Ne.symm hmt),List.getElem?_append_left hm]
 have l3:((st2++[Cell.lst (au (Mx.aO (Mx.bK (Mx.ae A) t) t))]).set tb (.lst (((rs.set (t+1) st1.length).set t st2.length).map D.ref))).length=st2.length+1:=by simp
 have r3:∀(i c:Nat),((rs.set (t+1) st1.length).set t st2.length)[i]?=some c→(n0≤c∧(c<st.length→∃i',rs[i']?=some c))∧(st.length≤c→st1.length≤c):=fun i c hc=>by
  have lr:=T1.lr
  rcases kB (by rw[List.length_set];omega) hc with⟨_,rfl⟩|⟨_,hc2⟩
  · exact⟨⟨by omega,fun z=>by omega⟩,fun _=>by omega⟩
  · rcases kB (by omega) hc2 with⟨_,rfl⟩|⟨_,hc3⟩
    · exact⟨⟨by omega,fun z=>by omega⟩,fun _=>by omega⟩
    · have:=htb.2 i c hc3
      exact⟨⟨h.lr i c hc3,fun _=>⟨i,hc3⟩⟩,fun z=>by omega⟩
 generalize((st2++[Cell.lst (au (Mx.aO (Mx.bK (Mx.ae A) t) t))]).set tb (.lst (((rs.set (t+1) st1.length).set t st2.length).map D.ref)))=st3 at F3 g3 l3⊢
 generalize((rs.set (t+1) st1.length).set t st2.length)=rs3 at F3 r3⊢
 have es3:st3[s]?=_:=(g3 s (by omega) stb).trans es2
 have hb1:b<st.length:=(List.getElem?_eq_some_iff.mp h.B.eb).1
 have btb:b≠tb:=iz h.B.eb h.T.et
 have fr3:∀m,m<st1.length→m≠tb→st3[m]?=st1[m]?:=fun m hm hmt=>(g3 m (by omega) hmt).trans (g2 m hm hmt)
 refine cM ?_
 refine cm es3 rfl (fX (aF F3.et) ?_)
 rw[List.length_map,F3.lr]
 have e5:((t+1:Nat):Int)+1=((t+2:Nat):Int):=rfl
 rw[e5]
 refine x8 ⟨by omega,by omega,by omega,by omega⟩ ?_
 have er:dN ((t+2:Nat):Int) (((N:Nat):Int)-((t+2:Nat):Int)).toNat=(List.range (N-(t+2))).map fun m=>D.int ((t+2+m:Nat):Int):=by
  unfold dN
  have:(((N:Nat):Int)-((t+2:Nat):Int)).toNat=N-(t+2):=by omega
  rw[this]
  refine List.map_congr_left fun m _=>?_
  congr 1
 rw[er]
 have hb3:∀m,m<n0→st3[m]?=st[m]?:=fun m hm=>by rw[fr3 m (by omega) (by omega),f1 m (by omega) (by omega)]
 refine gi (fun rest σ st'=>∃(q:Nat) (rs':List Nat) (v7 v8 v9 v10:Option D),q≤N-(t+2)∧rest=((List.range (N-(t+2))).map fun m=>D.int ((t+2+m:Nat):Int)).drop q∧σ=[some (.ref s),some (.int ((t+1:Nat):Int)),some (.int (Mx.lam (Mx.ae A) (t+1) t)),some (.int (Mx.D (t+2) (Mx.ae A))),some (.int (Mx.D (t+1) (Mx.ae A))),some (.int (Mx.lam (Mx.bK (Mx.ae A) t) t t)),some (.lst (au ((List.range t).map fun p=>Mx.lam (Mx.ae A) (t+1) p))),v7,v8,v9,v10]∧st1.length≤st'.length∧(∀m,m<st1.length→m≠tb→st'[m]?=st1[m]?)∧oO st' tb rs' (fun i=>if i<t+2+q then Mx.aO (Mx.bK (Mx.ae A) t) i else Mx.aO (Mx.ae A) i) N∧∀(i c:Nat),rs'[i]?=some c→(n0≤c∧(c<st.length→∃i',rs[i']?=some c))∧(st.length≤c→st1.length≤c)) ?_ ?_ _ _ _ ⟨0,rs3,none,none,none,none,Nat.zero_le _,rfl,rfl,by omega,fr3,?_,r3⟩
 · rintro σ st4 ⟨q,rs',v7,v8,v9,v10,hq,hrest,rfl,l4,f4,F4,r4⟩
   refine⟨trivial,?_⟩
   have hqN:q=N-(t+2):=by
    have:=congrArg List.length hrest
    simp at this
    omega
   have T4:Tb st4 tb rs' (Mx.ae (Mx.cf A (t+1) t)) N:=F4.toT fun i hi=>by rw[if_pos (by omega),hgs]
   have nb:=B1.n1
   refine kk st4 st.length (st.length+1) (st.length+2) rs' ⟨?_,⟨?_,?_,?_,?_,B1.n1,B1.n2,B1.n3⟩,T4,⟨by omega,by omega,by omega⟩,fun i c hc=>?_,⟨by omega,by omega,by omega,by omega,by omega,by omega⟩,fun i c hc=>(r4 i c hc).1.1⟩ fun m hm=>?_
   · rw[f4 s (by omega) stb];exact es1
   · rw[f4 b (by omega) btb];exact B1.eb
   · rw[f4 _ (by omega) (by omega)];exact B1.e1
   · rw[f4 _ (by omega) (by omega)];exact B1.e2
   · rw[f4 _ (by omega) (by omega)];exact B1.e3
   · obtain⟨⟨_,h2⟩,h3⟩:=r4 i c hc
     by_cases hcs:c<st.length
     · exact⟨by omega,by omega,by omega⟩
     · have:=h3 (by omega)
       exact⟨by omega,by omega,by omega⟩
   · rw[f4 m (by omega) (by omega),f1 m (by omega) (by omega)]
 · rintro x rest σ st4 ⟨q,rs',v7,v8,v9,v10,hq,hrest,rfl,l4,f4,F4,r4⟩ next
   have hqN:q<N-(t+2):=by
    have:=congrArg List.length hrest
    simp at this
    omega
   rw[List.drop_eq_getElem_cons (by simpa using hqN),List.cons.injEq,List.getElem_map,List.getElem_range]at hrest
   obtain⟨rfl,rfl⟩:=hrest
   refine⟨trivial,_,rfl,?_⟩
   have hi:t+2+q<N:=by omega
   obtain⟨ci,ei1,ei2,ei3⟩:=F4.line hi
   rw[if_neg (Nat.lt_irrefl _)]at ei3
   have es4:st4[s]?=_:=(f4 s (by omega) stb).trans es1
   have c1:=sm.lam (t+2+q) t (by omega) hi
   have c2:=sm.lam (t+2+q) (t+1) (by omega) hi
   have up:=Mx.Ds sym (t:=t) (by omega) (by omega) (i:=t+2+q) (by omega)
   have lw:=Mx.Ee sym (t:=t) (by omega) (by omega) (i:=t+2+q) (by omega)
   have md:=Mx.mY sym (t:=t) (by omega)
   have bm:(Mx.lam (Mx.bK (Mx.ae A) t) t t).natAbs≤2^90000:=pv (m:=80000+1) (Nat.le_trans (abs_dvd p1 md) (AE (m:=80000) (pv (n:=80000) (jM b0 b2) (by decide)) (pv (n:=80000) (jM b3 b3) (by decide)))) (by decide)
   have bu:(Mx.lam (Mx.bK (Mx.ae A) t) (t+2+q) (t+1)).natAbs≤2^90000:=pv (m:=80000+1) (Nat.le_trans (abs_dvd p1 up) (Fz (m:=80000) (pv (n:=80000) (jM b2 c1) (by decide)) (pv (n:=80000) (jM b3 c2) (by decide)))) (by decide)
   refine cm es4 rfl (aZ (aF F4.et) ei2 ?_)
   refine cS ?_
   rw[em]
   refine aZ (aF ei3) (iM (by omega)) (bY (dn b2 c1 (by decide) (by decide)) (aZ (aF ei3) (iM (by omega)) (bY (dn b3 c2 (by decide) (by decide)) (cS (j4 (by omega) (rK b1 (by omega) (by decide)) ?_)))))
   rw[oW (by omega) up]
   refine aZ (aF ei3) (iM (by omega)) (bY (dn bm c2 (by decide) (by decide)) (bY (dn b3 bu (by decide) (by decide)) (cM (j4 (by omega) (rK b2 (by omega) (by decide)) ?_))))
   rw[oW (by omega) lw]
   refine cS ?_
   rw[em]
   refine mf ei3 ?_
   rw[qu (by omega)]
   refine⟨Nat.le_of_ble_eq_true rfl,xp (by rw[sizeLine_eq];simp;omega) ?_⟩
   rw[vF]
   refine cM ?_
   rw[e5]
   refine mf ei3 ?_
   rw[Cd (by omega)]
   refine sH (by rw[sizeLine_eq];simp;omega) ?_
   have ea:au ((List.range t).map (fun p=>Mx.lam (Mx.ae A) (t+2+q) p)++[Mx.lam (Mx.bK (Mx.ae A) t) (t+2+q) t,Mx.lam (Mx.bK (Mx.ae A) t) (t+2+q) (t+1)])++au ((List.range (t+2+q+1-(t+2))).map fun p=>Mx.lam (Mx.ae A) (t+2+q) (t+2+p))=au (Mx.aO (Mx.bK (Mx.ae A) t) (t+2+q)):=by
    rw[←B7 (by omega)]
    simp[au]
   rw[ea]
   have l4t:=F4.lt
   have es4':(st4++[Cell.lst (au (Mx.aO (Mx.bK (Mx.ae A) t) (t+2+q)))])[s]?=_:=(List.getElem?_append_left (by omega)).trans es4
   have et4':(st4++[Cell.lst (au (Mx.aO (Mx.bK (Mx.ae A) t) (t+2+q)))])[tb]?=_:=(List.getElem?_append_left l4t.1).trans F4.et
   refine cm es4' rfl (jK et4' (by rw[List.length_map,F4.lr];exact jw hi) ?_)
   have em4:(rs'.map D.ref).set (t+2+q) (.ref st4.length)=(rs'.set (t+2+q) st4.length).map D.ref:=by rw[List.map_set]
   rw[em4]
   have F5:=F4.put hi (Mx.aO (Mx.bK (Mx.ae A) t) (t+2+q))
   refine next _ _ ⟨q+1,rs'.set (t+2+q) st4.length,_,_,_,_,hqN,rfl,rfl,by simp;omega,fun m hm hmt=>?_,⟨F5.et,F5.lr,F5.nd,F5.nt,fun i c hc=>?_⟩,fun i c hc=>?_⟩
   · rw[List.getElem?_set_ne (Ne.symm hmt),List.getElem?_append_left (by omega)];exact f4 m hm hmt
   · rw[F5.row i c hc]
     congr 3
     by_cases h1:i=t+2+q
     · rw[if_pos h1,if_pos (by omega),h1]
     · rw[if_neg h1]
       by_cases h2:i<t+2+q
       · rw[if_pos h2,if_pos (by omega)]
       · rw[if_neg h2,if_neg (by omega)]
   · have lr:=F4.lr
     rcases kB (by omega) hc with⟨_,rfl⟩|⟨_,hc2⟩
     · exact⟨⟨by omega,fun z=>by omega⟩,fun _=>by omega⟩
     · exact r4 i c hc2
 · refine⟨F3.et,F3.lr,F3.nd,F3.nt,fun i c hc=>?_⟩
   have hi:i<N:=by have:=(List.getElem?_eq_some_iff.mp hc).1;have:=F3.lr;omega
   rw[F3.row i c hc]
   congr 3
   by_cases h1:i=t
   · rw[if_pos h1,if_pos (by omega),h1]
   · rw[if_neg h1]
     by_cases h2:i=t+1
     · rw[if_pos h2,if_pos (by omega),h2]
     · rw[if_neg h2]
       by_cases h3:i<t
       · rw[if_pos (by omega)]
         exact xl fun p hp=>by rw[Mx.jW (by omega),Mx.iA (by omega) (by omega)]
       · rw[if_neg (by omega)]
theorem uG{A0 A U C:List (List Int)}{N w:Nat}{m:Nat→Nat}(L:Mx.Lg A0 A U C N w m)(h0:Mx.bZ N w A0)(hN:N≤8)(hD0:Mx.D N (Mx.ae A0)≠0)(g0:∀i,i<N→Mx.ae A0 i i≤2^37000)(hm:∀i,i<N→m i≤37000):ve A U C N where
 lam:=fun i p hp hi=>L.HK hi (by omega) (hm i hi)
 D:=fun p hp=>⟨(L.D p hp).1,by
  have h:=L.D p hp
  have h2:(((2:Nat)^744:Nat):Int)=(2:Int)^744:=Int.natCast_pow 2 744
  have h3:(((Mx.D p (Mx.ae A)).natAbs:Nat):Int)=Mx.D p (Mx.ae A):=Int.natAbs_of_nonneg (by omega)
  exact Int.ofNat_le.mp (by rw[h3,h2];exact h.2)⟩
 eA:=L.ent hm
 eU:=(L.turn h0 hN hD0 g0 hm).1
 eC:=(L.turn h0 hN hD0 g0 hm).2
noncomputable def fR:cW:=fun ds st K=>∃(n0 s b xb xu xc tb N w:Nat) (rs:List Nat) (A0 A U C:List (List Int)),ds=[.ref s]∧Ss n0 st s b xb xu xc tb rs A U C N∧Mx.bZ N w A0∧N≤8∧w≤9∧Mx.D N (Mx.ae A0)≠0∧(∀i,i<N→Mx.ae A0 i i≤2^37000)∧Mx.Lk A0 A U C N w 1∧
 ∀st' xb' xu' xc' rs' A' U' C',Ss n0 st' s b xb' xu' xc' tb rs' A' U' C' N→Mx.Tn A0 A' U' C' N w→ve A' U' C' N→Mx.Sh (Mx.ae A') N→(∀m,m<n0→st'[m]?=st[m]?)→K .aH st'
noncomputable def gO:List Str:=["self","k","j"]
noncomputable def qE:DS:=(aD (bg 1 (dC (.int 1)))
 (vO (bL (ak pe (aa 1) (cJ gI (af (dq av "table" (aa 0)) ao)))) (aD (gj (fy av "lessen" ft (aa 0) (af (aa 1) (af (ak dD (aa 1) (dC (.int 1))) ao))))
 (fw (bL (fy av "is_steep" fC (aa 0) (af (aa 1) ao))) (aD (gj (fy av "swap" g4 (aa 0) (af (aa 1) ao)))
 (bg 1 (cJ tf (af (dC (.int 1)) (af (ak dD (aa 1) (dC (.int 1))) ao))))) (aD (gc (sR (af (ak dD (aa 1) (dC (.int 2))) (af (nS jB (dC (.int 1))) (af (nS jB (dC (.int 1))) ao)))) (bB 2) (gj (fy av "lessen" ft (aa 0) (af (aa 1) (af (aa 2) ao)))))
 (zw 1 (vA (fun i j=>i+j)) (dC (.int 1))))))))
theorem mk_le{N k i:Nat}(hN:N≤8):Mx.mk N k i≤37000:=by unfold Mx.mk;split<;>omega
theorem qY(A:List (List Int)){k j:Nat}(h:0<Mx.D (j+1) (Mx.ae A)):2*(((Mx.lam (Mx.ae A) k j-nq A k j*Mx.D (j+1) (Mx.ae A)).natAbs:Nat):Int)≤Mx.D (j+1) (Mx.ae A):=(Mx.va h).1
theorem ID{A0 A U C:List (List Int)}{N w k:Nat}(h:Mx.Lk A0 A U C N w k)(hk:N≤k):Mx.Sh (Mx.ae A) N where
 half:=fun i j hj hi=>h.red i (by omega) hi j hj
 HZ:=fun i h0 hi z=>by
  obtain⟨t,rfl⟩:∃t,i=t+1:=⟨i-1,by omega⟩
  refine h.flat t (by omega) hi ?_
  unfold Mx.iK
  rw[Nat.add_sub_cancel]at z
  have e:4*Mx.D (t+1+1) (Mx.ae A)*Mx.D t (Mx.ae A)=4*(Mx.D (t+2) (Mx.ae A)*Mx.D t (Mx.ae A)):=by grind
  have e2:4*Mx.lam (Mx.ae A) (t+1) t*Mx.lam (Mx.ae A) (t+1) t=4*(Mx.lam (Mx.ae A) (t+1) t*Mx.lam (Mx.ae A) (t+1) t):=by grind
  rw[e,e2]at z
  omega
theorem HS{a b:Prop}(h:b):if false=true then a else b:=h
theorem EO{A0 A U C:List (List Int)}{N w t:Nat}{m:Nat→Nat}(L:Mx.Lg A0 A U C N w m)(hm:∀i,i<N→m i≤if i=t+1 then 748+2240*(N-t)else 748)(ht:t+1<N)(hst:Mx.iK A t)(red:∀i,i<t+1→∀j,j<i→2*(((Mx.lam (Mx.ae A) i j).natAbs:Nat):Int)≤Mx.D (j+1) (Mx.ae A))(flat:∀u,u+1<t+1→¬Mx.iK A u):Mx.Lk A0 (Mx.cf A (t+1) t) (Mx.cf U (t+1) t) (Mx.cf C (t+1) t) N w (max 1 t):=by
 have sm:=Mx.r8 L ht hst
 have L3:=L.swap ht ⟨sm.1,Int.le_trans (Int.le_of_lt sm.2) (L.D (t+1) (by omega)).2⟩
 have hgs:Mx.ae (Mx.cf A (t+1) t)=Mx.bK (Mx.ae A) t:=Mx.kh (by have:=L.T.isA.len;omega)
 refine⟨⟨L3.T,L3.D,fun i hi=>?_⟩,fun i hik hi j hj=>?_,fun u hu hu2=>?_⟩
 · by_cases h0:t=0∧i=0
   · have h1:=(L3.D 1 (by omega)).2
     have e:Mx.D 1 (Mx.ae (Mx.cf A (t+1) t))=Mx.ae (Mx.cf A (t+1) t) 0 0:=by
      have h2:=Mx.dP (Mx.ae (Mx.cf A (t+1) t)) 0
      unfold Mx.lam at h2
      rw[Mx.k_]at h2
      exact h2.symm
     rw[h0.2,←e]
     exact Int.le_trans h1 (Mx.p2 (by unfold Mx.mk;split<;>omega))
   · refine Int.le_trans (L3.len i hi) (Mx.p2 ?_)
     have h1:=hm (Mx.sw t (t+1) i) (Mx.oJ ht hi)
     by_cases e1:i=t
     · rw[e1,Mx.uZ,if_pos rfl]at h1
       rw[e1,Mx.uZ]
       unfold Mx.mk
       rw[if_pos (by omega),show max 1 t=t by omega]
       exact h1
     · have h2:Mx.sw t (t+1) i≠t+1:=by
        intro z
        by_cases e2:i=t+1
        · rw[e2,Mx.yA]at z;omega
        · rw[Mx.iA e1 e2]at z;exact e2 z
       rw[if_neg h2]at h1
       unfold Mx.mk
       split<;>omega
 · rw[hgs,Mx.kU (by omega),Mx.jW (by omega),Mx.iA (by omega) (by omega)]
   exact red i (by omega) j hj
 · intro z
   refine flat u (by omega) ?_
   unfold Mx.iK at z⊢
   rw[hgs,Mx.kU (by omega),Mx.kU (by omega),Mx.kU (by omega),Mx.jW (by omega),Mx.iA (by omega) (by omega)]at z
   exact z
theorem pV:∀ds st K,fR ds st K→ds.length=1∧qE {nx:=fun _ st'=>K .aH st',rt:=K} (bx gO ds) st:=by
 rintro ds st K ⟨n0,s,b,xb,xu,xc,tb,N,w,rs,A0,A,U,C,rfl,h,h0,hN,hw,hD0,g0,hL,kk⟩
 refine⟨rfl,?_⟩
 refine⟨fun m σ st'=>∃(k xb xu xc:Nat) (rs:List Nat) (A U C:List (List Int)) (v2:Option D),σ=[some (.ref s),some (.int ((k:Nat):Int)),v2]∧1≤k∧Ss n0 st' s b xb xu xc tb rs A U C N∧Mx.Lk A0 A U C N w k∧(∀m,m<n0→st'[m]?=st[m]?)∧m=(Mx.nV A N).toNat*(N+2)+(N+1-k),⟨_,1,xb,xu,xc,rs,A,U,C,none,rfl,Nat.le_refl _,h,hL,fun _ _=>rfl,rfl⟩,?_⟩
 rintro m σ st1 ⟨k,xb,xu,xc,rs,A,U,C,v2,rfl,hk1,h,hL,fr,rfl⟩
 refine cm h.es rfl (fX (aF h.T.et) ?_)
 rw[List.length_map,h.T.lr]
 refine GS (fun hlt=>hX ?_) fun hge=>?_
 rotate_left
 · exact kk st1 xb xu xc rs A U C h hL.L.T (uG hL.L h0 hN hD0 g0 fun i _=>mk_le hN) (ID hL (by omega)) fr
 obtain⟨t,rfl⟩:∃t,k=t+1:=⟨k-1,by omega⟩
 have ht:t+1<N:=by omega
 have em:((t+1:Nat):Int)-1=(t:Int):=by omega
 have sm:=uG hL.L h0 hN hD0 g0 fun i _=>mk_le hN
 have T:=hL.L.T
 refine fK h.es rfl (cS ?_)
 rw[em]
 refine⟨n0,s,b,xb,xu,xc,tb,N,w,t+1,t,rs,A,U,C,rfl,h,T.isA,T.iu,T.iV,by omega,ht,hN,hw,sm,fun st2 h2 f2=>?_⟩
 have L2:=hL.L.take (k:=t+1) (j:=t) (q:=nq A (t+1) t) (by omega) ht (Mx.FD hL.L ht (by omega)) (by unfold Mx.mk;rw[if_neg (by omega)];omega)
 have r2:2*(((Mx.lam (Mx.ae (Mx.bj A (t+1) (nq A (t+1) t) t)) (t+1) t).natAbs:Nat):Int)≤Mx.D (t+1) (Mx.ae A):=by
  rw[Mx.vX T.isA (by omega) ht];exact qY A (hL.L.D (t+1) (by omega)).1
 have low2:∀i p,i<t+1→p≤i→Mx.lam (Mx.ae (Mx.bj A (t+1) (nq A (t+1) t) t)) i p=Mx.lam (Mx.ae A) i p:=fun i p hi hp=>Mx.vN T.isA (by omega) ht (by omega) (by omega) hp
 have D2:∀p,p≤N→Mx.D p (Mx.ae (Mx.bj A (t+1) (nq A (t+1) t) t))=Mx.D p (Mx.ae A):=fun p hp=>Mx.rO T.isA (by omega) ht hp
 have ph2:Mx.nV (Mx.bj A (t+1) (nq A (t+1) t) t) N=Mx.nV A N:=Mx.vg T.isA (by omega) ht
 generalize hA2:Mx.bj A (t+1) (nq A (t+1) t) t=A2 at*
 generalize Mx.bj U (t+1) (nq A (t+1) t) t=U2 at*
 generalize Mx.bj C t (-nq A (t+1) t) (t+1)=C2 at*
 have hm2:∀i,i<N→(if i=t+1 then Mx.mk N (t+1) (t+1)+2240 else Mx.mk N (t+1) i)≤37000:=fun i hi=>by
  by_cases hi2:i=t+1
  · rw[if_pos hi2];unfold Mx.mk;rw[if_pos rfl];omega
  · rw[if_neg hi2];exact mk_le hN
 have sm2:=uG L2 h0 hN hD0 g0 hm2
 refine fK h2.es rfl ?_
 refine⟨n0,s,b,xb,xu,xc,tb,N,t,rs,A2,U2,C2,rfl,h2,ht,sm2,?_⟩
 have fr2:∀m,m<n0→st2[m]?=st[m]?:=fun m hm=>(f2 m hm).trans (fr m hm)
 by_cases hst:Mx.iK A2 t
 · have hst':=hst
   unfold Mx.iK at hst'
   rw[decide_eq_true hst']
   refine hX ?_
   refine fK h2.es rfl ?_
   refine⟨n0,s,b,xb,xu,xc,tb,N,w,t,rs,A2,U2,C2,rfl,h2,L2.T.isA,L2.T.iu,L2.T.iV,ht,hN,sm2,fun st3 xb3 xu3 xc3 rs3 h3 f3=>?_⟩
   refine cS ?_
   rw[em]
   refine zJ ?_
   have ek:(if((t:Nat):Int)>1 then((t:Nat):Int)else 1)=((max 1 t:Nat):Int):=by split<;>omega
   rw[ek]
   have L3:=EO L2 (fun i hi=>by
    by_cases hi2:i=t+1
    · rw[if_pos hi2,if_pos hi2];unfold Mx.mk;rw[if_pos rfl];omega
    · rw[if_neg hi2,if_neg hi2];unfold Mx.mk;rw[if_neg hi2];omega) ht hst (fun i hi j hj=>by rw[low2 i j hi (by omega),D2 (j+1) (by omega)];exact hL.red i hi (by omega) j hj) (fun u hu z=>hL.flat u hu (by omega) (by
    unfold Mx.iK at z⊢
    rw[low2 (u+1) u hu (by omega),D2 _ (by omega),D2 _ (by omega),D2 _ (by omega)]at z
    exact z))
   have hph:=Mx.Bp L2 ht hst
   have hp3:=Mx.D_ L3.L
   rw[ph2]at hph
   refine⟨_,?_,max 1 t,xb3,xu3,xc3,rs3,_,_,_,_,rfl,by omega,h3,L3,fun m hm=>(f3 m hm).trans (fr2 m hm),rfl⟩
   have h9:((Mx.nV (Mx.cf A2 (t+1) t) N).toNat+1)*(N+2)≤(Mx.nV A N).toNat*(N+2):=Nat.mul_le_mul_right _ (by omega)
   rw[Nat.add_mul,Nat.one_mul]at h9
   omega
 · have hst':=hst
   unfold Mx.iK at hst'
   rw[decide_eq_false hst']
   refine HS ?_
   refine cS (jv (jv ?_))
   have e2:((t+1:Nat):Int)-2=(t:Int)-1:=by omega
   rw[e2]
   refine Fh ⟨by omega,by omega,by omega,by omega⟩ ?_
   have e3:((t:Int)-1- -1).toNat=t:=by omega
   rw[e3]
   refine gi (fun rest σ st'=>∃(q:Nat) (A' U' C':List (List Int)) (v2:Option D),q≤t∧rest=(i8 ((t:Int)-1) t).drop q∧σ=[some (.ref s),some (.int ((t+1:Nat):Int)),v2]∧Ss n0 st' s b xb xu xc tb rs A' U' C' N∧Mx.Lg A0 A' U' C' N w (fun i=>if i=t+1 then 748+2240*(N-(t+1))+2240*(q+1)else 748)∧(∀i p,i<t+1→p≤i→Mx.lam (Mx.ae A') i p=Mx.lam (Mx.ae A2) i p)∧(∀p,p≤N→Mx.D p (Mx.ae A')=Mx.D p (Mx.ae A2))∧(∀p,t≤p+q→p≤t→2*(((Mx.lam (Mx.ae A') (t+1) p).natAbs:Nat):Int)≤Mx.D (p+1) (Mx.ae A2))∧Mx.lam (Mx.ae A') (t+1) t=Mx.lam (Mx.ae A2) (t+1) t∧Mx.nV A' N=Mx.nV A2 N∧∀m,m<n0→st'[m]?=st[m]?) ?_ ?_ _ _ _ ⟨0,A2,U2,C2,v2,Nat.zero_le _,rfl,rfl,h2,L2.mono fun i hi=>?_,fun _ _ _ _=>rfl,fun _ _=>rfl,fun p hp hp2=>?_,rfl,rfl,fr2⟩
   · rintro σ st3 ⟨q,A',U',C',v3,hq,hrest,rfl,h3,L3,low3,D3,red3,same3,ph3,fr3⟩
     refine⟨trivial,?_⟩
     have hqt:q=t:=by
      have:=congrArg List.length hrest
      simp[mr]at this
      omega
     subst hqt
     have redk:∀j,j<q+1→2*(((Mx.lam (Mx.ae A') (q+1) j).natAbs:Nat):Int)≤Mx.D (j+1) (Mx.ae A'):=fun j hj=>by rw[D3 (j+1) (by omega)];exact red3 j (by omega) (by omega)
     have L4:Mx.Lk A0 A' U' C' N w (q+2):=by
      refine⟨⟨L3.T,L3.D,fun i hi=>?_⟩,fun i hi hiN j hj=>?_,fun u hu huN=>?_⟩
      · by_cases hi2:i=q+1
        · subst hi2
          have h5:=Mx.xO L3.T.isA L3.ne (fun k hk=>(L3.D k hk).2) hi redk
          have h16:(2:Int)^4=16:=by decide
          have h6:((q+1+1:Nat):Int)*2^744≤2^4*2^744:=Int.mul_le_mul_of_nonneg_right (by omega) (Int.le_of_lt (Mx.kN _))
          rw[←Int.pow_add]at h6
          exact Int.le_trans h5 (Int.le_trans h6 (Mx.p2 (by unfold Mx.mk;split<;>omega)))
        · have h5:=L3.len i hi
          rw[if_neg hi2]at h5
          exact Int.le_trans h5 (Mx.p2 (by unfold Mx.mk;split<;>omega))
      · by_cases hi2:i=q+1
        · subst hi2;exact redk j hj
        · rw[low3 i j (by omega) (by omega),D3 (j+1) (by omega),low2 i j (by omega) (by omega),D2 (j+1) (by omega)]
          exact hL.red i (by omega) hiN j hj
      · intro z
        unfold Mx.iK at z
        by_cases hu2:u=q
        · subst hu2
          rw[same3,D3 _ (by omega),D3 _ (by omega),D3 _ (by omega)]at z
          exact hst z
        · rw[low3 (u+1) u (by omega) (by omega),D3 _ (by omega),D3 _ (by omega),D3 _ (by omega),low2 (u+1) u (by omega) (by omega),D2 _ (by omega),D2 _ (by omega),D2 _ (by omega)]at z
          exact hL.flat u (by omega) (by omega) z
     refine⟨_,?_,q+2,xb,xu,xc,rs,A',U',C',_,rfl,by omega,h3,L4,fr3,rfl⟩
     rw[ph3,ph2]
     omega
   · rintro x rest σ st3 ⟨q,A',U',C',v3,hq,hrest,rfl,h3,L3,low3,D3,red3,same3,ph3,fr3⟩ next
     have hqt:q<t:=by
      have:=congrArg List.length hrest
      simp[mr]at this
      omega
     have ex:(t:Int)-1+((q:Nat):Int)* -1=((t-1-q:Nat):Int):=by omega
     have hx:(i8 ((t:Int)-1) t).drop q=D.int ((t-1-q:Nat):Int)::(i8 ((t:Int)-1) t).drop (q+1):=by
      have hl:q<(i8 ((t:Int)-1) t).length:=by rw[mr];exact hqt
      have eg:(i8 ((t:Int)-1) t)[q]=D.int ((t-1-q:Nat):Int):=by
       have e:=List.getElem?_eq_getElem hl
       rw[o7,if_pos hqt,ex]at e
       exact(Option.some.inj e).symm
      rw[List.drop_eq_getElem_cons hl,eg]
     rw[hx,List.cons.injEq]at hrest
     obtain⟨rfl,rfl⟩:=hrest
     refine⟨trivial,_,rfl,?_⟩
     have hm3:∀i,i<N→(if i=t+1 then 748+2240*(N-(t+1))+2240*(q+1)else 748)≤37000:=fun i hi=>by split<;>omega
     have sm3:=uG L3 h0 hN hD0 g0 hm3
     have T3:=L3.T
     obtain⟨j,hj⟩:∃j,j=t-1-q:=⟨_,rfl⟩
     rw[←hj]
     refine fK h3.es rfl ?_
     refine⟨n0,s,b,xb,xu,xc,tb,N,w,t+1,j,rs,A',U',C',rfl,h3,T3.isA,T3.iu,T3.iV,by omega,ht,hN,hw,sm3,fun st4 h4 f4=>?_⟩
     have L4:=L3.take (k:=t+1) (j:=j) (q:=nq A' (t+1) j) (by omega) ht (Mx.FD L3 ht (by omega)) (by rw[if_neg (by omega)];omega)
     refine next _ _ ⟨q+1,_,_,_,_,hqt,rfl,rfl,h4,L4.mono fun i hi=>?_,fun i p hi hp=>?_,fun p hp=>?_,fun p hp hp2=>?_,?_,?_,fun m hm=>(f4 m hm).trans (fr3 m hm)⟩
     · by_cases hi2:i=t+1
       · rw[if_pos hi2,if_pos hi2,if_pos rfl];omega
       · rw[if_neg hi2,if_neg hi2,if_neg hi2];omega
     · rw[Mx.vN T3.isA (by omega) ht (by omega) (by omega) hp];exact low3 i p hi hp
     · rw[Mx.rO T3.isA (by omega) ht hp];exact D3 p hp
     · by_cases hpj:p=j
       · subst hpj
         rw[Mx.vX T3.isA (by omega) ht,←D3 (p+1) (by omega)]
         exact qY A' (L3.D (p+1) (by omega)).1
       · rw[Mx.w_ T3.isA (by omega) ht (by omega) (by omega)]
         exact red3 p (by omega) hp2
     · rw[Mx.w_ T3.isA (by omega) ht (by omega) (by omega)];exact same3
     · rw[Mx.vg T3.isA (by omega) ht];exact ph3
   · by_cases hi2:i=t+1
     · rw[if_pos hi2,if_pos hi2];unfold Mx.mk;rw[if_pos rfl];omega
     · rw[if_neg hi2,if_neg hi2];unfold Mx.mk;rw[if_neg hi2];omega
   · have:p=t:=by omega
     subst this
     rw[D2 (p+1) (by omega)];exact r2
noncomputable def lh:cW:=fun ds st K=>∃(dA:D) (A:List (List Int)) (N w:Nat),ds=[dA]∧gX st dA A∧St A N w∧w≤9∧(∀k,k≤N→Mx.D k (Mx.ae A)≠0)∧∀st' A' U' C',Ext st st'→Mx.Tn A A' U' C' N w→ve A' U' C' N→Mx.Sh (Mx.ae A') N→K (.tup [cH A',cH U',cH (Mx.lV C' N)]) st'
noncomputable def pE:List Str:=["steps","stairs","bench"]
noncomputable def EC:DS:=(aD (bg 1 (uy av fz (af (aa 0) ao)))
 (aD (gj (fy av "shorten" fR (aa 1) ao))
 (aD (bg 2 (dq av "bench" (aa 1)))
 (bX (yw (af (a_ jq (af (dq az "body" (aa 2)) ao)) (af (a_ jq (af (dq az "turn" (aa 2)) ao)) (af (a_ g7 (af (dq az "back_columns" (aa 2)) (af (cJ gI (af (aa 0) ao)) ao))) ao))))))))
theorem Br:∀ds st K,lh ds st K→ds.length=1∧EC {nx:=fun _ st'=>K .aH st',rt:=K} (bx pE ds) st:=by
 rintro ds st K ⟨dA,A,N,w,rfl,hA,hS,hw,hD,kk⟩
 refine⟨rfl,?_⟩
 have gm:=hS.gm
 have hN:=gm.le
 have hl:=hS.is.len
 have X0:Ext st (st++[.ins av []]):=Ext.push
 refine⟨st.length,N,w,dA,A,rfl,by simp,X0.ur hA,hS,hD,fun st1 b xb xu xc tb rs h1 f1=>⟨rfl,?_⟩⟩
 have hgb:∀i,i<N→Mx.ae A i i≤2^748:=fun i hi=>by
  have h2:=gm.bd i i hi hi
  have h3:((w9:Nat):Int)≤2^748:=Int.le_trans (show((w9:Nat):Int)≤2^90 by decide) (Mx.p2 (by decide))
  omega
 have hDb:∀k,k≤N→Mx.D k (Mx.ae A)≤2^744:=fun k hk=>by
  have h2:=gm.D (p:=k) hk
  have h3:(((2:Nat)^744:Nat):Int)=(2:Int)^744:=Int.natCast_pow 2 744
  have h4:Mx.D k (Mx.ae A)≤(((Mx.D k (Mx.ae A)).natAbs:Nat):Int):=by omega
  exact Int.le_trans h4 (by rw[←h3];exact Int.ofNat_le.mpr h2)
 have hL:=Mx.Lk.start hS.is hD hDb hgb
 refine fK h1.es rfl ?_
 refine⟨st.length,st.length,b,xb,xu,xc,tb,N,w,rs,A,A,_,_,rfl,h1,hS.is,hN,hw,hD N (Nat.le_refl _),fun i hi=>Int.le_trans (hgb i hi) (Mx.p2 (by decide)),hL,fun st2 xb2 xu2 xc2 rs2 A2 U2 C2 h2 T2 hD2 hsh f2=>?_⟩
 have hs2:=(List.getElem?_eq_some_iff.mp h2.es).1
 have X2:Ext st st2:=⟨by omega,fun m hm=>by rw[f2 m hm,f1 m hm,X0.same m hm]⟩
 refine cm h2.es rfl ?_
 have lA:=T2.isA.len
 have lU:=T2.iu.len
 have lC:=T2.iV.len
 refine cm h2.B.eb rfl ?_
 refine⟨.ref xb2,A2,rfl,⟨_,aF h2.B.e1,bS.lst⟩,by omega,?_⟩
 refine cm h2.B.eb rfl ?_
 refine⟨.ref xu2,U2,rfl,⟨_,aF h2.B.e2,bS.lst⟩,by omega,?_⟩
 refine cm h2.B.eb rfl ?_
 obtain⟨da,hda,ra⟩:=(X2.ur hA).ex
 refine fX hda ?_
 rw[ra.len,hl]
 refine⟨.ref xc2,C2,N,rfl,⟨_,aF h2.B.e3,bS.lst⟩,T2.iV.ij,by omega,by omega,?_⟩
 exact⟨Nat.le_of_ble_eq_true rfl,kk st2 A2 U2 C2 X2 T2 hD2 hsh⟩
structure Upd(st:ag)(n:Nat)(st':ag):Prop where
 len:st'.length=st.length
 same:∀m,m≠n→st'[m]?=st[m]?
theorem Upd.refl{st:ag}{n:Nat}:Upd st n st:=⟨rfl,fun _ _=>rfl⟩
theorem Upd.trans{st st1 st2:ag}{n:Nat}(a:Upd st n st1)(b:Upd st1 n st2):Upd st n st2:=⟨b.len.trans a.len,fun m h=>(b.same m h).trans (a.same m h)⟩
theorem Upd.set{st:ag}{n:Nat}{c:Cell}:Upd st n (st.set n c):=⟨List.length_set,fun m h=>List.getElem?_set_ne (Ne.symm h)⟩
structure Lf(st:ag)(n:Nat):Prop where
 ex:∃x,st[n]?=some (.lst [.int x])∧0≤x
noncomputable def lK:cW:=fun ds st K=>∃(ns:List Int) (k:Int),ds=[.lst (ns.map .int),.int k]∧0≤k∧∀c,K (.int c) st
noncomputable def nB:List Str:=["_law_script","_law_k"]
noncomputable def Cv:DS:=(aD (fw (bL (ak pe (aa 1) (cJ gI (af (aa 0) ao)))) (bX (ak bU (aa 0) (aa 1))) d9)
 (bX (dC (.int 0))))
theorem EL{ns:List Int}{k:Int}(h0:0≤k)(h:k<ns.length):∃c,eW (ns.map D.int) k=some (.int c):=by
 have hk:k.toNat<ns.length:=by omega
 refine⟨ns[k.toNat],?_⟩
 have e:(ns.map D.int)[k.toNat]?=some (.int ns[k.toNat]):=by simp[hk]
 have:=gF e
 rw[Int.toNat_of_nonneg h0]at this
 exact this
theorem z_:∀ds st K,lK ds st K→ds.length=2∧Cv {nx:=fun _ st'=>K .aH st',rt:=K} (bx nB ds) st:=by
 rintro ds st K ⟨ns,k,rfl,hk0,q⟩
 refine⟨rfl,?_⟩
 refine fX rfl ?_
 rw[List.length_map]
 refine GS (fun h=>?_) fun h=>q 0
 obtain⟨c,e⟩:=EL hk0 h
 exact hX (aZ rfl e (q c))
noncomputable def jH:cW:=fun ds st K=>∃(ns:List Int) (k:Int),ds=[.lst (ns.map .int),.int k]∧0≤k∧k≤1000∧∀x:Int,0≤x→K (.ref st.length) (st++[.lst [.int x]])
noncomputable def kH:List Str:=["_law_script","_law_k","_law_cell","_law_number_here","_law_wide","_law_j"]
noncomputable def zg:DS:=(aD (bg 2 (a_ lK (af (aa 0) (af (aa 1) ao))))
 (aD (fw (bL (ak rR (cJ qS (af (aa 2) ao)) (ak qr (dC (.int 10)) (dC (.int 18))))) (bX (lT (af (cJ qS (af (aa 2) ao)) ao))) d9)
 (aD (bg 3 (ak iQ (ak bO (ak cC (ak cC (ak iQ (aa 2) (dC (.int 2147483647))) (ak bO (dC (.int 7919)) (aa 1))) (dC (.int 11))) (dC (.int 48271))) (dC (.int 2147483629))))
 (aD (bg 4 (dC (.int 0)))
 (aD (gc (cP (af (dC (.int 9)) ao)) (bB 5) (aD (bg 3 (ak iQ (ak cC (ak cC (ak bO (aa 3) (aa 3)) (ak bO (dC (.int 69621)) (aa 5))) (dC (.int 7))) (dC (.int 1999999973))))
 (bg 4 (ak cC (ak bO (aa 4) (dC (.int 1999999973))) (aa 3)))))
 (bX (lT (af (aa 4) ao))))))))
noncomputable def Cw:DS:=(aD (bg 4 (dC (.int 0)))
 (aD (gc (cP (af (dC (.int 9)) ao)) (bB 5) (aD (bg 3 (ak iQ (ak cC (ak cC (ak bO (aa 3) (aa 3)) (ak bO (dC (.int 69621)) (aa 5))) (dC (.int 7))) (dC (.int 1999999973))))
 (bg 4 (ak cC (ak bO (aa 4) (dC (.int 1999999973))) (aa 3)))))
 (bX (lT (af (aa 4) ao)))))
theorem AJ{d0 d1 d2:D}{u:Int}{st:ag}{E:jb}(h0:0≤u)(h1:u<2^62)(k:∀x:Int,0≤x→E.rt (.ref st.length) (st++[.lst [.int x]])):Cw E [some d0,some d1,some d2,some (.int u),none,none] st:=by
 refine eP ⟨by decide,by decide⟩ ?_
 refine ib 9 (fun _ σ st'=>st'=st∧∃(u w:Int) (v:Option D),0≤u∧u<2^62∧0≤w∧σ=[some d0,some d1,some d2,some (.int u),some (.int w),v]) ?_ ?_ ⟨rfl,u,0,none,h0,h1,Int.le_refl _,rfl⟩
 · rintro σ st' ⟨rfl,u,w,v,a1,a2,a3,rfl⟩
   exact⟨Nat.le_of_ble_eq_true rfl,k w a3⟩
 · rintro j σ st' rest hj ⟨rfl,u,w,v,a1,a2,a3,rfl⟩ next
   refine⟨_,rfl,?_⟩
   refine bY (fm (by omega) (by omega)) (bY (fm (by decide) (by decide)) (cM (cM (km (by decide) ?_))))
   have u1:=Int.fmod_nonneg_of_pos (u*u+69621*(j:Int)+7) (show(0:Int)<1999999973 by decide)
   have u2:=Int.fmod_lt_of_pos (u*u+69621*(j:Int)+7) (show(0:Int)<1999999973 by decide)
   generalize(u*u+69621*(j:Int)+7).fmod 1999999973=t at u1 u2
   refine bY (xJ (by decide) (by decide)) (cM ?_)
   have hw:0≤w*1999999973+t:=Int.add_nonneg (Int.mul_nonneg a3 (by decide)) u1
   generalize w*1999999973+t=w2 at hw
   exact next _ _ ⟨rfl,t,w2,_,u1,by omega,hw,rfl⟩
noncomputable def Ev(A:DE)(σ:bR)(st:ag)(d:D):Prop:=∀K:DK,K d st→A σ st K
theorem pP{x:D→D→ag→DK→Prop}{A B:DE}{σ:bR}{st:ag}{a b d:D}(hA:Ev A σ st a)(hB:Ev B σ st b)(hx:∀K:DK,K d st→x a b st K):Ev (ak x A B) σ st d:=fun K k=>hA _ (hB _ (hx K k))
theorem vB{σ:bR}{st:ag}{d:D}:Ev (dC d) σ st d:=fun K k=>k
theorem AB{i:Nat}{σ:bR}{st:ag}{d:D}(h:σ[i]?=some (some d)):Ev (aa i) σ st d:=fun K k=>rf h k
theorem Ag{σ:bR}{st:ag}{c k:Int}(h2:σ[2]?=some (some (.int c)))(h1:σ[1]?=some (some (.int k))):Ev (ak iQ (ak bO (ak cC (ak cC (ak iQ (aa 2) (dC (.int 2147483647))) (ak bO (dC (.int 7919)) (aa 1))) (dC (.int 11))) (dC (.int 48271))) (dC (.int 2147483629))) σ st (.int (((c.fmod 2147483647+7919*k+11)*48271).fmod 2147483629)):=by
 have a1:Ev (ak iQ (aa 2) (dC (.int 2147483647))) σ st (.int (c.fmod 2147483647)):=pP (AB h2) vB fun K k=>km (by decide) k
 have a2:Ev (ak bO (dC (.int 7919)) (aa 1)) σ st (.int (7919*k)):=pP vB (AB h1) fun K k=>bY (fm (by decide) (by decide)) k
 have a3:=pP (d:= .int (c.fmod 2147483647+7919*k)) a1 a2 fun K k=>cM k
 have a4:=pP (d:= .int (c.fmod 2147483647+7919*k+11)) a3 (vB (d:= .int 11)) fun K k=>cM k
 have a5:=pP (d:= .int ((c.fmod 2147483647+7919*k+11)*48271)) a4 (vB (d:= .int 48271)) fun K k=>bY (xJ (by decide) (by decide)) k
 exact pP a5 (vB (d:= .int 2147483629)) fun K k=>km (by decide) k
theorem HB{i:Nat}{A:DE}{B:DS}{E:jb}{σ:bR}{st:ag}{d:D}(h:Ev A σ st d)(k:B E (σ.set i (some d)) st):aD (bg i A) B E σ st:=h _ k
theorem wY:∀ds st K,jH ds st K→ds.length=2∧zg {nx:=fun _ st'=>K .aH st',rt:=K} (bx kH ds) st:=by
 rintro ds st K ⟨ns,k,rfl,hk0,hk1,q⟩
 refine⟨rfl,?_⟩
 refine⟨ns,k,rfl,hk0,fun c=>?_⟩
 refine vc (uS ⟨by decide,by decide,by decide⟩ ?_)
 generalize(10:Int)^(18:Int).toNat=big
 refine Lx (fun h=>hX (vc ⟨Nat.le_of_ble_eq_true rfl,q _ (by omega)⟩)) fun h=>?_
 refine HB (σ:=[some (.lst (ns.map .int)),some (.int k),some (.int c),none,none,none]) (Ag (c:=c) (k:=k) rfl rfl) ?_
 have u1:=Int.fmod_nonneg_of_pos ((c.fmod 2147483647+7919*k+11)*48271) (show(0:Int)<2147483629 by decide)
 have u2:=Int.fmod_lt_of_pos ((c.fmod 2147483647+7919*k+11)*48271) (show(0:Int)<2147483629 by decide)
 generalize((c.fmod 2147483647+7919*k+11)*48271).fmod 2147483629=u at u1 u2
 exact AJ (E:={nx:=fun _ st'=>K .aH st',rt:=K}) u1 (by omega) q
noncomputable def b_:cW:=fun ds st K=>∃(n:Nat) (m:Int),ds=[.ref n,.int m]∧Lf st n∧0<m∧m<2^62∧∀r st',0≤r→r<m→Lf st' n→Upd st n st'→K (.int r) st'
noncomputable def j7:List Str:=["_law_left_here","_law_many","_law_digit_here"]
noncomputable def wJ:DS:=(aD (bg 2 (ak iQ (ak bU (aa 0) (dC (.int 0))) (aa 1)))
 (aD (g9 (aa 0) (dC (.int 0)) (ak iF (ak bU (aa 0) (dC (.int 0))) (aa 1)))
 (bX (aa 2))))
theorem Bg{m:Int}(h0:0<m)(h:m<2^62):m.natAbs.log2<9000:=by
 have:m.natAbs.log2<62:=(Nat.log2_lt (by omega)).mpr (by omega)
 omega
theorem v_:∀ds st K,b_ ds st K→ds.length=2∧wJ {nx:=fun _ st'=>K .aH st',rt:=K} (bx j7 ds) st:=by
 rintro ds st K ⟨n,m,rfl,⟨x,e,hx⟩,hm0,hm1,k⟩
 refine⟨rfl,?_⟩
 have hn:n<st.length:=(List.getElem?_eq_some_iff.mp e).1
 have it:items? st (.ref n)=some [.int x]:=aF e
 refine aZ it vx (km (by omega) (aZ it vx (j4 (by omega) (Bg hm0 hm1) (jK e (by rfl) ?_))))
 refine k _ _ (Int.fmod_nonneg_of_pos _ hm0) (Int.fmod_lt_of_pos _ hm0) ⟨_,List.getElem?_set_self hn,?_⟩ Upd.set
 rw[Int.fdiv_eq_ediv_of_nonneg _ (by omega)];exact Int.ediv_nonneg hx (by omega)
noncomputable def Sm(x:Int):Prop:= -1000000000000<x∧x<1000000000000
noncomputable def fi:cW:=fun ds st K=>∃(n:Nat) (kd:Int),ds=[.ref n,.int kd]∧Lf st n∧0≤kd∧kd<5∧∀r st',Sm r→Lf st' n→Upd st n st'→K (.int r) st'
noncomputable def jO:List Str:=["_law_left_here","_law_kind","_law_size"]
noncomputable def uU:DS:=(aD (fw (bL (ak jr (aa 1) (dC (.int 3)))) (bX (ak cC (ak dD (a_ b_ (af (aa 0) (af (ak dD (ak bO (dC (.int 2)) (ak qr (dC (.int 10)) (dC (.int 12)))) (dC (.int 1))) ao))) (ak qr (dC (.int 10)) (dC (.int 12)))) (dC (.int 1)))) d9)
 (aD (fw (uA (bL (ak jr (aa 1) (dC (.int 2)))) (bL (ak jr (a_ b_ (af (aa 0) (af (dC (.int 2)) ao))) (dC (.int 0))))) (bX (ak dD (a_ b_ (af (aa 0) (af (dC (.int 1999)) ao))) (dC (.int 999)))) d9)
 (aD (bg 2 (ak bU (kC (af (dC (.int 3)) (af (dC (.int 9)) (af (dC (.int 1)) (af (dC (.int 0)) (af (dC (.int 4)) ao)))))) (aa 1)))
 (bX (ak dD (a_ b_ (af (aa 0) (af (ak cC (ak bO (dC (.int 2)) (aa 2)) (dC (.int 1))) ao))) (aa 2))))))
theorem yd{st st1:ag}{n:Nat}{kd:Int}{K:DK}(L:Lf st1 n)(U:Upd st n st1)(h0:0≤kd)(h1:kd<5)(k:∀r st',Sm r→Lf st' n→Upd st n st'→K (.int r) st'):(aD (bg 2 (ak bU (kC (af (dC (.int 3)) (af (dC (.int 9)) (af (dC (.int 1)) (af (dC (.int 0)) (af (dC (.int 4)) ao)))))) (aa 1)))
 (bX (ak dD (a_ b_ (af (aa 0) (af (ak cC (ak bO (dC (.int 2)) (aa 2)) (dC (.int 1))) ao))) (aa 2)))) {nx:=fun _ st'=>K .aH st',rt:=K} [some (.ref n),some (.int kd),none] st1:=by
 have e:kd=0∨kd=1∨kd=2∨kd=3∨kd=4:=by omega
 have fin:∀s:Int,0≤s→s≤9→(bX (ak dD (a_ b_ (af (aa 0) (af (ak cC (ak bO (dC (.int 2)) (aa 2)) (dC (.int 1))) ao))) (aa 2))) {nx:=fun _ st'=>K .aH st',rt:=K} [some (.ref n),some (.int kd),some (.int s)] st1:=fun s s0 s1=>by
  refine bY (fm (by decide) (by decide)) (cM ?_)
  exact⟨n,_,rfl,L,by omega,by omega,fun r st2 a1 a2 L2 U2=>cS (k _ _ ⟨by omega,by omega⟩ L2 (U.trans U2))⟩
 refine⟨Nat.le_of_ble_eq_true rfl,?_⟩
 rcases e with rfl|rfl|rfl|rfl|rfl
 · exact aZ rfl rfl (fin 3 (by decide) (by decide))
 · exact aZ rfl rfl (fin 9 (by decide) (by decide))
 · exact aZ rfl rfl (fin 1 (by decide) (by decide))
 · exact aZ rfl rfl (fin 0 (by decide) (by decide))
 · exact aZ rfl rfl (fin 4 (by decide) (by decide))
theorem uk:∀ds st K,fi ds st K→ds.length=2∧uU {nx:=fun _ st'=>K .aH st',rt:=K} (bx jO ds) st:=by
 rintro ds st K ⟨n,kd,rfl,L,k0,k1,k⟩
 refine⟨rfl,?_⟩
 refine eq2 (fun h=>hX ?_) fun h=>?_
 · refine uS ⟨by decide,by decide,by decide⟩ (bY (fm (by decide) (by decide)) (cS ?_))
   refine⟨n,_,rfl,L,by decide,by decide,fun r st2 c1 c2 L2 U2=>uS ⟨by decide,by decide,by decide⟩ (cS (cM ?_))⟩
   have e:(10:Int)^(12:Int).toNat=1000000000000:=by decide
   rw[e]at c2⊢
   exact k _ _ ⟨by omega,by omega⟩ L2 U2
 · refine eq2 (fun h2=>hX ?_) fun h2=>yd L Upd.refl k0 k1 k
   refine⟨n,2,rfl,L,by decide,by decide,fun r st2 c1 c2 L2 U2=>?_⟩
   refine eq2 (fun h3=>hX ?_) fun h3=>yd L2 U2 k0 k1 k
   exact⟨n,1999,rfl,L2,by decide,by decide,fun r st3 d1 d2 L3 U3=>cS (k _ _ ⟨by omega,by omega⟩ L3 (U2.trans U3))⟩
noncomputable def GI(A:List (List Int)):Prop:=∀r∈A,∀x∈r,Sm x
structure Dr(A:List (List Int))(N w:Nat):Prop where
 is:Mx.bZ N w A
 le:N≤8
 wd:w≤9
 bd:GI A
 n1:1≤N
noncomputable def gT:cW:=fun ds st K=>∃(n m w:Nat) (kd:Int),ds=[.ref n,.int m,.int w,.int kd]∧Lf st n∧m≤8∧w≤8∧0≤kd∧kd<5∧∀A st',Mx.bZ m w A→GI A→Lf st' n→Upd st n st'→K (cH A) st'
noncomputable def kK:List Str:=["_law_left_here","_law_many","_law_wide","_law_kind"]
noncomputable def yB:DS:=(bX (cJ eV (af (eM (cP (af (aa 1) ao)) [none,some 2,some 0,some 3] (bB 0) cQ (cJ eV (af (eM (cP (af (aa 1) ao)) [none,some 2,some 3] (bB 0) cQ (a_ fi (af (aa 1) (af (aa 2) ao)))) ao))) ao)))
theorem vq{n w:Nat}{kd:Int}{σc:bR}{st:ag}{te:DE}{K:List D→ag→Prop}(ei:∀(x:D) (st':ag) (K':DK),fi [.ref n,.int kd] st' K'→te (σc.set 0 (some x)) st' K')(L:Lf st n)(k0:0≤kd)(k1:kd<5)(hs:(fun(x:D)=>bB 0 x σc)=fun x=>some (σc.set 0 (some x)))
 (k:∀r st',r.length=w→(∀x∈r,Sm x)→Lf st' n→Upd st n st'→K (au r) st'):
 dZ (bB 0) cQ te (fun _=>True) σc (dN 0 w) [] st K:=by
 refine jU (fun rest acc st'=>∃r:List Int,acc=au r∧r.length+rest.length=w∧(∀x∈r,Sm x)∧Lf st' n∧Upd st n st') ?_ ?_ _ _ _ ⟨[],rfl,by rw[dE];simp,by simp,L,Upd.refl⟩
 · rintro acc st' ⟨r,rfl,hl,hr,B',U⟩
   have hl:r.length=w:=by simpa using hl
   exact⟨trivial,k r st' hl hr B' U⟩
 · rintro x rest acc st' ⟨r,rfl,hl,hr,B',U⟩ next
   have hl2:r.length<w:=by simp at hl;omega
   refine⟨trivial,_,congrFun hs x,?_⟩
   refine ei x st' _ ⟨n,kd,rfl,B',k0,k1,fun y st2 a B2 U2=>?_⟩
   show dZ _ _ _ _ _ _ _ _ _
   rw[ints_app]
   refine next _ _ ⟨r++[y],rfl,by simp at hl⊢;omega,fun z hz=>?_,B2,U.trans U2⟩
   rcases List.mem_append.mp hz with h|h
   · exact hr z h
   · have:z=y:=by simpa using h
     subst this;exact a
theorem wM:∀ds st K,gT ds st K→ds.length=4∧yB {nx:=fun _ st'=>K .aH st',rt:=K} (bx kK ds) st:=by
 rintro ds st K ⟨n,m,w,kd,rfl,B,hm,hw,k0,k1,k⟩
 refine⟨rfl,?_⟩
 refine eP ⟨by omega,by omega⟩ ⟨dJ (by rw[dE];omega),?_⟩
 rw[Int.toNat_natCast]
 refine jU (fun rest acc st'=>∃A:List (List Int),acc=A.map cV∧A.length+rest.length=m∧(∀r∈A,r.length=w)∧GI A∧Lf st' n∧Upd st n st') ?_ ?_ _ _ _ ⟨[],rfl,by rw[dE];simp,by simp,fun _ h=>by simp at h,B,Upd.refl⟩
 · rintro acc st' ⟨A,rfl,hl,hA,hBd,B',U⟩
   have hl:A.length=m:=by simpa using hl
   exact⟨trivial,eK rfl (k A st' ⟨hl,hA⟩ hBd B' U)⟩
 · rintro x rest acc st' ⟨A,rfl,hl,hA,hBd,B',U⟩ next
   have hl2:A.length<m:=by simp at hl;omega
   refine⟨trivial,_,rfl,?_⟩
   refine eP ⟨by omega,by omega⟩ ⟨dJ (by rw[dE];omega),?_⟩
   rw[Int.toNat_natCast]
   refine vq (n:=n) (kd:=kd) (fun x st' K' h=>h) B' k0 k1 rfl fun r st2 hr1 hr2 B2 U2=>?_
   refine eK rfl ?_
   show dZ _ _ _ _ _ _ _ _ _
   rw[Co]
   refine next _ _ ⟨A++[r],rfl,by simp at hl⊢;omega,fun q hq=>?_,fun q hq=>?_,B2,U.trans U2⟩
   · rcases List.mem_append.mp hq with h|h
     · exact hA q h
     · have:q=r:=by simpa using h
       subst this;exact hr1
   · rcases List.mem_append.mp hq with h|h
     · exact hBd q h
     · have:q=r:=by simpa using h
       subst this;exact hr2
noncomputable def iX:cW:=fun ds st K=>∃(n:Nat),ds=[.ref n]∧Lf st n∧∀A N w st',Dr A N w→Lf st' n→Upd st n st'→K (cH A) st'
noncomputable def kc:List Str:=["_law_left_here","_law_kind","_law_many","_law_wide"]
noncomputable def wB:DS:=(aD (bg 1 (ak bU (kC (af (dC (.int 0)) (af (dC (.int 0)) (af (dC (.int 1)) (af (dC (.int 1)) (af (dC (.int 2)) (af (dC (.int 2)) (af (dC (.int 3)) (af (dC (.int 4)) ao))))))))) (a_ b_ (af (aa 0) (af (dC (.int 8)) ao)))))
 (aD (bg 2 (ak cC (dC (.int 1)) (a_ b_ (af (aa 0) (af (dC (.int 4)) ao)))))
 (aD (bg 3 (ak cC (aa 2) (a_ b_ (af (aa 0) (af (dC (.int 3)) ao)))))
 (aD (fw (bL (ak jr (aa 1) (dC (.int 3)))) (BI 2 3 (af (ak cC (dC (.int 1)) (ak iQ (aa 2) (dC (.int 2)))) (af (ak cC (dC (.int 2)) (ak iQ (aa 3) (dC (.int 2)))) ao))) d9)
 (aD (fw (bL (ak jr (aa 1) (dC (.int 4)))) (aD (bg 2 (ak cC (dC (.int 7)) (ak iQ (aa 2) (dC (.int 2)))))
 (bg 3 (cJ tf (af (aa 2) (af (ak cC (dC (.int 7)) (ak iQ (aa 3) (dC (.int 2)))) ao))))) d9)
 (bX (a_ gT (af (aa 0) (af (aa 2) (af (aa 3) (af (aa 1) ao)))))))))))
theorem vp:∀ds st K,iX ds st K→ds.length=1∧wB {nx:=fun _ st'=>K .aH st',rt:=K} (bx kc ds) st:=by
 rintro ds st K ⟨n,rfl,L,k⟩
 refine⟨rfl,?_⟩
 refine⟨Nat.le_of_ble_eq_true rfl,n,8,rfl,L,by decide,by decide,fun r st1 r0 r1 L1 U1=>?_⟩
 have hk:∃kd:Int,0≤kd∧kd<5∧eW [D.int 0,.int 0,.int 1,.int 1,.int 2,.int 2,.int 3,.int 4] r=some (.int kd):=by
  have e:r=0∨r=1∨r=2∨r=3∨r=4∨r=5∨r=6∨r=7:=by omega
  rcases e with rfl|rfl|rfl|rfl|rfl|rfl|rfl|rfl<;>exact⟨_,by decide,by decide,rfl⟩
 obtain⟨kd,k0,k1,ek⟩:=hk
 refine aZ rfl ek ?_
 refine⟨n,4,rfl,L1,by decide,by decide,fun a st2 a0 a1 L2 U2=>cM ?_⟩
 refine⟨n,3,rfl,L2,by decide,by decide,fun b st3 b0 b1 L3 U3=>cM ?_⟩
 have U:=(U1.trans U2).trans U3
 have fin:∀(N w:Nat),1≤N→N≤8→w≤8→(bX (a_ gT (af (aa 0) (af (aa 2) (af (aa 3) (af (aa 1) ao)))))) {nx:=fun _ st'=>K .aH st',rt:=K} [some (.ref n),some (.int kd),some (.int N),some (.int w)] st3:=fun N w n1 hN hw=>
  ⟨n,N,w,kd,rfl,L3,hN,hw,k0,k1,fun A st4 hA bA L4 U4=>k A N w st4 ⟨hA,hN,by omega,bA,n1⟩ L4 (U.trans U4)⟩
 have fin2:∀(N w:Int),1≤N→N≤8→0≤w→w≤8→(bX (a_ gT (af (aa 0) (af (aa 2) (af (aa 3) (af (aa 1) ao)))))) {nx:=fun _ st'=>K .aH st',rt:=K} [some (.ref n),some (.int kd),some (.int N),some (.int w)] st3:=fun N w h1 h2 h3 h4=>by
  have:=fin N.toNat w.toNat (by omega) (by omega) (by omega)
  rw[Int.toNat_of_nonneg (show 0≤N by omega),Int.toNat_of_nonneg h3]at this
  exact this
 have md:∀x:Int,0≤x.fmod 2∧x.fmod 2<2:=fun x=>⟨Int.fmod_nonneg_of_pos _ (by decide),Int.fmod_lt_of_pos _ (by decide)⟩
 refine eq2 (fun h=>hX ?_) fun h=>?_
 · refine km (by decide) (cM (km (by decide) (cM ?_)))
   have m1:=md (1+a)
   have m2:=md (1+a+b)
   refine Fq (by omega) ?_
   exact fin2 _ _ (by omega) (by omega) (by omega) (by omega)
 · refine eq2 (fun h=>hX ?_) fun h=>fin2 _ _ (by omega) (by omega) (by omega) (by omega)
   have m1:=md (1+a)
   have m2:=md (1+a+b)
   refine km (by decide) (cM (km (by decide) (cM (zJ ?_))))
   refine fin2 _ _ (by omega) (by omega) ?_ ?_
   · split<;>omega
   · split<;>omega
noncomputable def gH:cW:=fun ds st K=>∃(n:Nat),ds=[.ref n]∧Lf st n∧∀A N w st',Dr A N w→Lf st' n→Upd st n st'→K (cH A) st'
noncomputable def iL:List Str:=["_law_left_here","_law_n","_law_column"]
noncomputable def sy:DS:=(aD (bg 1 (ak cC (dC (.int 4)) (a_ b_ (af (aa 0) (af (dC (.int 2)) ao)))))
 (aD (bg 2 (eM (cP (af (aa 1) ao)) [none,some 0] (bB 0) cQ (a_ fi (af (aa 1) (af (dC (.int 3)) ao)))))
 (bX (cJ eV (af (eM (cP (af (aa 1) ao)) [none,some 1,some 2] (bB 0) cQ (cJ eV (af (ak cC (eM (cP (af (aa 1) ao)) [none,some 0] (bB 0) cQ (cJ sJ (af (ak jr (aa 0) (aa 1)) ao))) (kC (af (ak bU (aa 2) (aa 0)) ao))) ao))) ao)))))
theorem rG:∀ds st K,gH ds st K→ds.length=1∧sy {nx:=fun _ st'=>K .aH st',rt:=K} (bx iL ds) st:=by
 rintro ds st K ⟨n,rfl,L,k⟩
 refine⟨rfl,?_⟩
 refine⟨n,2,rfl,L,by decide,by decide,fun a st1 a0 a1 L1 U1=>cM ?_⟩
 obtain⟨N,eN⟩:∃N:Nat,(4+a)=(N:Int):=⟨(4+a).toNat,by omega⟩
 rw[eN]
 refine eP ⟨by omega,by omega⟩ ⟨dJ (by rw[dE];omega),?_⟩
 rw[Int.toNat_natCast]
 refine vq (n:=n) (kd:=3) (fun x st' K' h=>h) L1 (by decide) (by decide) rfl fun r st2 hr1 hr2 L2 U2=>?_
 refine eP ⟨by omega,by omega⟩ ⟨dJ (by rw[dE];omega),?_⟩
 rw[Int.toNat_natCast]
 refine gQ (fun i=>cV (Mx.dk N i++[r.getD i 0])) N (fun i hi K' q=>⟨_,rfl,?_⟩) ?_
 · refine eP ⟨by omega,by omega⟩ ⟨dJ (by rw[dE];omega),?_⟩
   rw[Int.toNat_natCast]
   refine gQ (fun j=> .int (Mx.dl j i)) N (fun j hj K' q=>⟨_,rfl,?_⟩) ?_
   · refine eq2 (fun h=>pA ?_) fun h=>pA ?_
     · have:j=i:=by omega
       subst this
       rw[Mx.dm]at q;exact q
     · rw[Mx.dX (by omega)]at q;exact q
   · have e1:(List.range N).map (fun j=>D.int (Mx.dl j i))=au (Mx.dk N i):=by unfold Mx.dk au;rw[List.map_map];rfl
     rw[e1]
     refine aZ rfl (hJ (by omega)) ⟨Nat.le_of_ble_eq_true rfl,xp (by rw[sizeLine_eq,List.length_map];unfold Mx.dk;simp;omega) (eK rfl ?_)⟩
     rw[ints_app]
     exact q
 have e2:(List.range N).map (fun i=>cV (Mx.dk N i++[r.getD i 0]))=((List.range N).map fun i=>Mx.dk N i++[r.getD i 0]).map cV:=by rw[List.map_map];rfl
 rw[e2]
 refine eK rfl (k _ N (N+1) st2 ⟨⟨by simp,fun q hq=>?_⟩,by omega,by omega,fun q hq x hx=>?_,by omega⟩ L2 (U1.trans U2))
 · obtain⟨i,_,rfl⟩:=List.mem_map.mp hq
   unfold Mx.dk;simp
 · obtain⟨i,hi,rfl⟩:=List.mem_map.mp hq
   rw[List.mem_range]at hi
   rcases List.mem_append.mp hx with h|h
   · unfold Mx.dk at h
     obtain⟨j,_,rfl⟩:=List.mem_map.mp h
     by_cases hj:j=i
     · rw[hj,Mx.dm];exact⟨by decide,by decide⟩
     · rw[Mx.dX hj];exact⟨by decide,by decide⟩
   · have:x=r.getD i 0:=by simpa using h
     rw[this]
     exact hr2 _ (getD_mem (by omega))
noncomputable def ji:cW:=nP
noncomputable def mw:List Str:=["_law_one","_law_other"]
noncomputable def AG:DS:=(bX (cJ sN (af (eM (oq (af (aa 0) (af (aa 1) ao))) [none,none] (ja 0 1) cQ (ak bO (aa 0) (aa 1))) ao)))
theorem zx:∀ds st K,ji ds st K→ds.length=2∧AG {nx:=fun _ st'=>K .aH st',rt:=K} (bx mw ds) st:=zS
theorem xg{m:Nat}:∀ {a b:List Int},(∀x∈a,x.natAbs≤m)→(∀x∈b,x.natAbs≤m)→(Mx.gC a b).natAbs≤a.length*(m*m)
 | [],_,_,_=>by show(0:Int).natAbs≤_;simp
 |_::_,[],_,_=>by show(0:Int).natAbs≤_;simp
 |x::a,y::b,h1,h2=>by
  have ih:=xg (a:=a) (b:=b) (fun z hz=>h1 z (List.mem_cons_of_mem _ hz)) fun z hz=>h2 z (List.mem_cons_of_mem _ hz)
  have e:Mx.gC (x::a) (y::b)=x*y+Mx.gC a b:=rfl
  have h3:(x*y).natAbs≤m*m:=by
   rw[Int.natAbs_mul]
   exact Nat.mul_le_mul (h1 x List.mem_cons_self) (h2 y List.mem_cons_self)
  have h4:=Int.natAbs_add_le (x*y) (Mx.gC a b)
  rw[e,List.length_cons,Nat.add_mul,Nat.one_mul]
  omega
theorem Dr.mem{A:List (List Int)}{N w i:Nat}(h:Dr A N w)(hi:i<N):A.getD i []∈A:=by
 have:=h.is.len
 rw[Mx.aX (by omega)];exact List.getElem_mem _
theorem Dr.st{A:List (List Int)}{N w:Nat}(h:Dr A N w):St A N w where
 is:=h.is
 wd:=by have:=h.wd;omega
 sm:=fun r hr x hx=>by have:=h.bd r hr x hx;unfold Sm at this;omega
 gm:={
  le:=h.le
  bd:=fun r c hr hc=>by
   have q:∀i,i<N→∀x∈A.getD i [],x.natAbs≤1000000000000:=fun i hi x hx=>by have:=h.bd _ (h.mem hi) x hx;unfold Sm at this;omega
   have h1:=xg (q r hr) (q c hc)
   have h2:=h.is.ij _ (h.mem hr)
   have h3:=h.wd
   unfold Mx.ae
   rw[h2]at h1
   have h4:w*(1000000000000*1000000000000)≤9*(1000000000000*1000000000000):=Nat.mul_le_mul_right _ h3
   exact Nat.le_trans h1 (Nat.le_trans h4 (by decide))
  sym:=Mx.jf A}
theorem FE{p:Nat}(h:p≤8):(8*2^748)^p≤2^6100:=by
 have e:8*2^748=2^751:=by rw[show 751=3+748 from rfl,Nat.pow_add]
 rw[e,←Nat.pow_mul]
 exact Nat.pow_le_pow_right (by decide) (by omega)
structure xi(G:Mx.Fn)(n:Nat):Prop where
 le:n≤8
 bd:∀r c,r<n→c<n→(G r c).natAbs≤2^748
 sym:∀i j,G i j=G j i
theorem xi.gx{G:Mx.Fn}{n p i j:Nat}(h:xi G n)(hp:p<n)(hi:i<n)(hj:j<n):(Mx.gx G p (G i) j).natAbs≤2^6100:=Nat.le_trans (Mx.Ai h.le h.bd hp hi hj) (FE (by have:=h.le;omega))
theorem xi.D{G:Mx.Fn}{n p:Nat}(h:xi G n)(hp:p≤n):(Mx.D p G).natAbs≤2^6100:=Nat.le_trans (Mx.rp (by have:=h.le;omega) fun r c hr hc=>h.bd r c (by omega) (by omega)) (FE (by have:=h.le;omega))
structure t6(A:List (List Int))(N w:Nat):Prop where
 is:Mx.bZ N w A
 wd:w≤1000
 sm:∀r∈A,∀x∈r,x.natAbs≤2^400000
 gm:xi (Mx.ae A) N
theorem t6.mem{A:List (List Int)}{N w i:Nat}(h:t6 A N w)(hi:i<N):A.getD i []∈A:=by
 have:=h.is.len
 rw[Mx.aX (by omega)];exact List.getElem_mem _
theorem E_{A:List (List Int)}{N w i j:Nat}(h:t6 A N w)(hi:i<N)(hj:j<N):∀a∈A.getD i [],∀b∈A.getD j [],IntMulOk a b:=fun a ha b hb=>dn (h.sm _ (h.mem hi) a ha) (h.sm _ (h.mem hj) b hb) (by decide) (by decide)
theorem St.Kn{A:List (List Int)}{N w:Nat}(h:St A N w):t6 A N w where
 is:=h.is
 wd:=h.wd
 sm:=fun r hr x hx=>Nat.le_trans (Nat.le_of_lt (h.sm r hr x hx)) (Nat.pow_le_pow_right (by decide) (by decide))
 gm:=⟨h.gm.le,fun r c hr hc=>Nat.le_trans (h.gm.bd r c hr hc) (Nat.le_trans (show w9≤2^90 by decide) (Nat.pow_le_pow_right (by decide) (by decide))),h.gm.sym⟩
structure Own(G:Mx.Fn)(N:Nat)(st:ag)(g kn:Nat)(cs:List Nat):Prop where
 eg:st[g]?=some (Cell.lst (au ((List.range (N+1)).map fun q=>Mx.D q G)))
 ek:st[kn]?=some (Cell.lst (cs.map D.ref))
 lc:cs.length=N
 row:∀j c,cs[j]?=some c→st[c]?=some (Cell.lst (au (Mx.aO G j)))
noncomputable def iw:cW:=fun ds st K=>∃(A:List (List Int)) (N w:Nat),ds=[cH A]∧t6 A N w∧(∀st',Ext st st'→(∃k,k≤N∧Mx.D k (Mx.ae A)=0)→K .aH st')∧∀st' g kn cs,Ext st st'→(∀k,k≤N→Mx.D k (Mx.ae A)≠0)→Own (Mx.ae A) N st' g kn cs→K (.tup [.ref g,.ref kn]) st'
noncomputable def mh:List Str:=["_law_steps","_law_grown","_law_known","_law_step","_law_found","_law_j","_law_told","_law_other","_law_k","_law_less"]
noncomputable def zD:DS:=(aD (bg 1 (lT (af (dC (.int 1)) ao)))
 (aD (bg 2 (lT ao))
 (aD (gc (gU (aa 0)) (bB 3) (aD (bg 4 (lT ao))
 (aD (gc (cP (af (ak cC (cJ gI (af (aa 2) ao)) (dC (.int 1))) ao)) (bB 5) (aD (bg 6 (a_ ji (af (aa 3) (af (ak bU (aa 0) (aa 5)) ao))))
 (aD (bg 7 (ak bU (ak pw (aa 2) (kC (af (aa 4) ao))) (aa 5)))
 (aD (gc (cP (af (aa 5) ao)) (bB 8) (aD (bg 9 (ak bO (ak bU (aa 4) (aa 8)) (ak bU (aa 7) (aa 8))))
 (bg 6 (ak iF (ak dD (ak bO (ak bU (aa 1) (ak cC (aa 8) (dC (.int 1)))) (aa 6)) (aa 9)) (ak bU (aa 1) (aa 8))))))
 (gj (gg (aa 4) (aa 6)))))))
 (aD (fw (bL (ak jr (ak bU (aa 4) (nS jB (dC (.int 1)))) (dC (.int 0)))) (bX (dC .aH)) d9)
 (aD (gj (gg (aa 1) (ak bU (aa 4) (nS jB (dC (.int 1))))))
 (gj (gg (aa 2) (aa 4))))))))
 (bX (yw (af (aa 1) (af (aa 2) ao)))))))
theorem wy{A:List (List Int)}{j:Nat}(h:j<A.length):eW (A.map cV) (j:Int)=some (cV (A.getD j [])):=by
 refine gF ?_
 rw[List.getElem?_map,List.getElem?_eq_getElem h,Mx.aX h];rfl
theorem FG{G:Mx.Fn}{n i j g f o:Nat}{gl fl ol:List Int}{d0 d2 d3 d5:D}{st:ag}{E:jb}{v8 v9:Option D}(gm:xi G n)(hi:i<n)(hj:j≤i)(hD:∀k,k≤i→Mx.D k G≠0)
 (eg:st[g]?=some (.lst (au gl))) (ef:st[f]?=some (.lst (au fl))) (eo:st[o]?=some (.lst (au ol))) (lg:gl.length=i+1) (lf:fl.length=j) (lo:j≤ol.length)
 (hg:∀k,k≤i→gl.getD k 0=Mx.D k G) (hf:∀k,k<j→fl.getD k 0=Mx.lam G i k) (ho:∀k,k<j→ol.getD k 0=Mx.lam G j k)
 (k:∀v8 v9,E.nx [some d0,some (.ref g),some d2,some d3,some (.ref f),some d5,some (.int (Mx.lam G i j)),some (.ref o),v8,v9] st):
 gc (cP (af (dC (.int j)) ao)) (bB 8) (aD (bg 9 (ak bO (ak bU (aa 4) (aa 8)) (ak bU (aa 7) (aa 8))))
 (bg 6 (ak iF (ak dD (ak bO (ak bU (aa 1) (ak cC (aa 8) (dC (.int 1)))) (aa 6)) (aa 9)) (ak bU (aa 1) (aa 8))))) E [some d0,some (.ref g),some d2,some d3,some (.ref f),some d5,some (.int (G i j)),some (.ref o),v8,v9] st:=by
 have hn:=gm.le
 refine eP ⟨by omega,by omega⟩ ?_
 rw[Int.toNat_natCast]
 refine ib j (fun q σ st'=>st'=st∧∃v8 v9,σ=[some d0,some (.ref g),some d2,some d3,some (.ref f),some d5,some (.int (Mx.gx G q (G i) j)),some (.ref o),v8,v9]) ?_ ?_ ⟨rfl,v8,v9,by rw[Mx.k_]⟩
 · rintro σ st' ⟨rfl,v8,v9,rfl⟩
   exact k v8 v9
 · rintro q σ st' rest hq ⟨rfl,v8,v9,rfl⟩ next
   refine⟨_,rfl,?_⟩
   have b1:=gm.D (p:=q+1) (by omega)
   have b2:=gm.gx (p:=q) (i:=i) (j:=j) (by omega) hi (by omega)
   have b3:(Mx.lam G i q).natAbs≤2^6100:=gm.gx (by omega) hi (by omega)
   have b4:(Mx.lam G j q).natAbs≤2^6100:=gm.gx (by omega) (by omega) (by omega)
   have b5:=gm.D (p:=q) (by omega)
   have hd:=hD q (by omega)
   have e1:=aF ef
   have e2:=aF eo
   have e3:=aF eg
   refine aZ e1 (hJ (by omega)) (aZ e2 (hJ (by omega)) ?_)
   rw[hf q hq,ho q hq]
   refine bY (dn b3 b4 (by decide) (by decide)) (cM ?_)
   refine aZ e3 (e:= .int (Mx.D (q+1) G)) (by have:=hJ (r:=gl) (k:=q+1) (by omega);rw[hg (q+1) (by omega)]at this;exact this) ?_
   refine bY (dn b1 b2 (by decide) (by decide)) (cS (aZ e3 (hJ (by omega)) ?_))
   rw[hg q (by omega)]
   refine j4 hd (rK b5 hd (by decide)) ?_
   rw[Mx.vi gm.sym hd]
   exact next _ _ ⟨rfl,_,_,rfl⟩
theorem qL(G:Mx.Fn)(i q:Nat):((List.range q).map fun j=>Mx.lam G i j).length=q:=by simp
theorem Am(G:Mx.Fn)(i:Nat):((List.range (i+1)).map fun j=>Mx.lam G i j)=Mx.aO G i:=rfl
theorem Eg{A:List (List Int)}{N w i g kn f:Nat}{gl:List Int}{cs:List Nat}{st:ag}{E:jb}{v5 v6 v7 v8 v9:Option D}(hS:t6 A N w)(hi:i<N)(hD:∀k,k≤i→Mx.D k (Mx.ae A)≠0)
 (eg:st[g]?=some (.lst (au gl))) (ek:st[kn]?=some (.lst (cs.map D.ref))) (ef:st[f]?=some (.lst [])) (lg:gl.length=i+1) (lc:cs.length=i) (hgf:g≠f) (hkf:kn≠f)
 (hg:∀k,k≤i→gl.getD k 0=Mx.D k (Mx.ae A)) (hc:∀j c,cs[j]?=some c→c≠f∧st[c]?=some (.lst (au (Mx.aO (Mx.ae A) j))))
 (k:∀st' v5 v6 v7 v8 v9,Upd st f st'→st'[f]?=some (.lst (au (Mx.aO (Mx.ae A) i)))→E.nx [some (cH A),some (.ref g),some (.ref kn),some (cV (A.getD i [])),some (.ref f),v5,v6,v7,v8,v9] st'):
 (gc (cP (af (ak cC (cJ gI (af (aa 2) ao)) (dC (.int 1))) ao)) (bB 5) (aD (bg 6 (a_ ji (af (aa 3) (af (ak bU (aa 0) (aa 5)) ao))))
 (aD (bg 7 (ak bU (ak pw (aa 2) (kC (af (aa 4) ao))) (aa 5)))
 (aD (gc (cP (af (aa 5) ao)) (bB 8) (aD (bg 9 (ak bO (ak bU (aa 4) (aa 8)) (ak bU (aa 7) (aa 8))))
 (bg 6 (ak iF (ak dD (ak bO (ak bU (aa 1) (ak cC (aa 8) (dC (.int 1)))) (aa 6)) (aa 9)) (ak bU (aa 1) (aa 8))))))
 (gj (gg (aa 4) (aa 6))))))) E [some (cH A),some (.ref g),some (.ref kn),some (cV (A.getD i [])),some (.ref f),v5,v6,v7,v8,v9] st:=by
 have hn:=hS.gm.le
 have hl:=hS.is.len
 have hw:=hS.wd
 refine fX (aF ek) (cM ?_)
 have e0:(((cs.map D.ref).length:Nat):Int)+1=((i+1:Nat):Int):=by rw[List.length_map,lc];rfl
 rw[e0]
 refine eP ⟨by omega,by omega⟩ ?_
 rw[Int.toNat_natCast]
 refine ib (i+1) (fun q σ st'=>Upd st f st'∧st'[f]?=some (.lst (au ((List.range q).map fun j=>Mx.lam (Mx.ae A) i j)))∧∃v5 v6 v7 v8 v9,σ=[some (cH A),some (.ref g),some (.ref kn),some (cV (A.getD i [])),some (.ref f),v5,v6,v7,v8,v9]) ?_ ?_ ⟨Upd.refl,ef,_,_,_,_,_,rfl⟩
 · rintro σ st' ⟨U,e,v5,v6,v7,v8,v9,rfl⟩
   rw[Am]at e
   exact k st' v5 v6 v7 v8 v9 U e
 · rintro q σ st1 rest hq ⟨U,e,v5,v6,v7,v8,v9,rfl⟩ next
   refine⟨_,rfl,?_⟩
   refine aZ rfl (wy (by omega)) ?_
   have wi:=hS.is.ij _ (hS.mem hi)
   refine⟨_,_,A.getD i [],A.getD q [],rfl,rfl,rfl,by omega,E_ hS hi (by omega),?_⟩
   have ek1:=(U.same kn hkf).trans ek
   have eg1:=(U.same g hgf).trans eg
   refine⟨Nat.le_of_ble_eq_true rfl,DY ek1 (by rw[sizeLine_eq,List.length_map];simp;omega) ?_⟩
   have hlt:=(List.getElem?_eq_some_iff.mp e).1
   have ho:∃(o:Nat) (ol:List Int),(cs.map D.ref++[D.ref f])[q]?=some (.ref o)∧st1[o]?=some (.lst (au ol))∧q≤ol.length∧∀k,k<q→ol.getD k 0=Mx.lam (Mx.ae A) q k:=by
    by_cases hqi:q<i
    · have ec:cs[q]?=some cs[q]:=List.getElem?_eq_getElem (by omega)
      obtain⟨c1,c2⟩:=hc q _ ec
      refine⟨cs[q],Mx.aO (Mx.ae A) q,?_,(U.same _ c1).trans c2,by rw[Mx.d6];omega,fun k hk=>Mx.ir _ (by omega)⟩
      rw[List.getElem?_append_left (by rw[List.length_map];omega),List.getElem?_map,ec];rfl
    · have:q=i:=by omega
      subst this
      refine⟨f,_,?_,e,by rw[qL];omega,fun k hk=>mP _ hk⟩
      rw[List.getElem?_append_right (by rw[List.length_map];omega),List.length_map,lc,Nat.sub_self];rfl
   obtain⟨o,ol,o1,o2,o3,o4⟩:=ho
   refine aZ rfl (gF o1) ?_
   refine FG hS.gm hi (by omega) hD eg1 e o2 lg (qL _ _ _) o3 hg (fun k hk=>mP _ hk) o4 fun v8 v9=>?_
   refine lF (by rfl) e (rf rfl (jV e (by rw[sizeLine_eq,List.length_map,qL];omega) ?_))
   refine next _ _ ⟨U.trans Upd.set,?_,_,_,_,_,_,rfl⟩
   rw[List.getElem?_set_self hlt,qO]
theorem FA{G:Mx.Fn}{n k:Nat}(h:k<n):((List.range n).map fun q=>Mx.D q G).getD k 0=Mx.D k G:=by rw[Mx.aX (by simpa using h),List.getElem_map,List.getElem_range]
theorem J6(G:Mx.Fn)(q:Nat):au ((List.range q).map fun j=>Mx.D j G)++[.int (Mx.D q G)]=au ((List.range (q+1)).map fun j=>Mx.D j G):=by rw[List.range_succ,List.map_append];simp[au]
theorem yi:∀ds st K,iw ds st K→ds.length=1∧zD {nx:=fun _ st'=>K .aH st',rt:=K} (bx mh ds) st:=by
 rintro ds st K ⟨A,N,w,rfl,hS,k1,k2⟩
 refine⟨rfl,?_⟩
 have hn:=hS.gm.le
 have hl:=hS.is.len
 refine⟨Nat.le_of_ble_eq_true rfl,Nat.le_of_ble_eq_true rfl,?_⟩
 have X0:Ext st (st++[.lst [.int 1]]++[.lst []]):=Ext.push.trans Ext.push
 have eg0:(st++[Cell.lst [.int 1]]++[Cell.lst []])[st.length]?=some (.lst (au ((List.range (0+1)).map fun q=>Mx.D q (Mx.ae A)))):=by
  rw[List.append_assoc,List.getElem?_append_right (Nat.le_refl _),Nat.sub_self];rfl
 have ek0:(st++[Cell.lst [.int 1]]++[Cell.lst []])[st.length+1]?=some (.lst (([]:List Nat).map D.ref)):=by
  rw[List.append_assoc,List.getElem?_append_right (by omega)]
  have:st.length+1-st.length=1:=by omega
  rw[this];rfl
 have hlen0:(st++[Cell.lst [.int 1]]++[Cell.lst []]).length=st.length+2:=by simp
 have hD0:∀k,k≤0→Mx.D k (Mx.ae A)≠0:=fun k hk=>by
  have:k=0:=by omega
  rw[this,Mx.iW];decide
 have elen:(st++[Cell.lst [.int 1]]).length=st.length+1:=by simp
 refine iJ ?_
 refine gi (fun rest σ st'=>∃(i:Nat) (cs:List Nat) (v3 v4 v5 v6 v7 v8 v9:Option D),i≤N∧σ=[some (cH A),some (.ref st.length),some (.ref (st.length+1)),v3,v4,v5,v6,v7,v8,v9]∧rest=(A.drop i).map cV∧Ext st st'∧st.length+2≤st'.length∧st'[st.length]?=some (.lst (au ((List.range (i+1)).map fun q=>Mx.D q (Mx.ae A))))∧st'[st.length+1]?=some (.lst (cs.map D.ref))∧cs.length=i∧(∀k,k≤i→Mx.D k (Mx.ae A)≠0)∧∀j c,cs[j]?=some c→st.length+2≤c∧c<st'.length∧st'[c]?=some (.lst (au (Mx.aO (Mx.ae A) j)))) ?_ ?_ _ _ _ ⟨0,[],none,none,none,none,none,none,none,Nat.zero_le _,by rw[elen];rfl,rfl,X0,by rw[hlen0];omega,eg0,ek0,rfl,hD0,fun j c h=>by simp at h⟩
 · rintro σ st1 ⟨i,cs,v3,v4,v5,v6,v7,v8,v9,hi,rfl,hr,X,hlen,eg,ek,lc,hD,hc⟩
   refine⟨trivial,?_⟩
   have:i=N:=by
    have:=congrArg List.length hr
    simp at this
    omega
   subst this
   exact⟨Nat.le_of_ble_eq_true rfl,k2 st1 _ _ cs X hD ⟨eg,ek,lc,fun j c h=>(hc j c h).2.2⟩⟩
 · rintro x rest σ st1 ⟨i,cs,v3,v4,v5,v6,v7,v8,v9,hi,rfl,hr,X,hlen,eg,ek,lc,hD,hc⟩ next
   have hiN:i<N:=by
    have:=congrArg List.length hr
    simp at this
    omega
   rw[List.drop_eq_getElem_cons (show i<A.length by omega),List.map_cons,List.cons.injEq]at hr
   obtain⟨rfl,rfl⟩:=hr
   have er:A[i]=A.getD i []:=(Mx.aX (by omega)).symm
   rw[er]
   refine⟨trivial,_,rfl,?_⟩
   refine⟨Nat.le_of_ble_eq_true rfl,?_⟩
   have XP:Ext st1 (st1++[.lst []]):=Ext.push
   have ef:(st1++[Cell.lst []])[st1.length]?=some (.lst []):=by simp
   refine Eg (E:={nx:=_,rt:=K,ct:=_,bk:=_}) (i:=i) (g:=st.length) (kn:=st.length+1) (f:=st1.length) (cs:=cs) (gl:=(List.range (i+1)).map fun q=>Mx.D q (Mx.ae A)) hS hiN hD ((XP.same _ (by omega)).trans eg) ((XP.same _ (by omega)).trans ek) ef (by simp) lc (by omega) (by omega) (fun k hk=>FA (by omega)) (fun j c h=>by
    obtain⟨h1,h2,h3⟩:=hc j c h
    exact⟨by omega,(XP.same _ h2).trans h3⟩) fun st2 v5 v6 v7 v8 v9 U ef2=>?_
   have l2:st2.length=st1.length+1:=by rw[U.len];simp
   have it:=aF ef2
   have X2:Ext st st2:=⟨by omega,fun m hm=>by rw[U.same m (by omega),XP.same m (by omega)];exact X.same m hm⟩
   refine jv (aZ it (mX (Mx.d6 _ i)) ?_)
   rw[Mx.ir _ (Nat.le_refl i),Mx.dP]
   refine eq2 (fun h=>hX (k1 st2 X2 ⟨i+1,by omega,h⟩)) fun h=>?_
   have eg2:st2[st.length]?=some (.lst (au ((List.range (i+1)).map fun q=>Mx.D q (Mx.ae A)))):=by rw[U.same _ (by omega),XP.same _ (by omega)];exact eg
   have ek2:st2[st.length+1]?=some (.lst (cs.map D.ref)):=by rw[U.same _ (by omega),XP.same _ (by omega)];exact ek
   refine lF (by rfl) eg2 (jv (aZ it (mX (Mx.d6 _ i)) ?_))
   rw[Mx.ir _ (Nat.le_refl i),Mx.dP]
   refine jV eg2 (by rw[sizeLine_eq];simp;omega) ?_
   rw[J6]
   have ek3:(st2.set st.length (.lst (au ((List.range (i+1+1)).map fun q=>Mx.D q (Mx.ae A)))))[st.length+1]?=some (.lst (cs.map D.ref)):=by rw[List.getElem?_set_ne (by omega)];exact ek2
   refine lF (by rfl) ek3 (rf rfl (jV ek3 (by rw[sizeLine_eq];simp;omega) ?_))
   refine next _ _ ⟨i+1,cs++[st1.length],_,_,_,_,_,_,_,hiN,rfl,rfl,?_,by simp;omega,?_,?_,by simp[lc],fun q hq=>?_,fun j c hj=>?_⟩
   · exact(X2.set (Nat.le_refl _)).set (by omega)
   · rw[List.getElem?_set_ne (by omega),List.getElem?_set_self (by omega)]
   · rw[List.getElem?_set_self (by rw[List.length_set];omega),List.map_append];rfl
   · by_cases hqi:q=i+1
     · rw[hqi];exact h
     · exact hD q (by omega)
   · by_cases hjc:j<cs.length
     · rw[List.getElem?_append_left hjc]at hj
       obtain⟨h1,h2,h3⟩:=hc j c hj
       refine⟨h1,by simp;omega,?_⟩
       rw[List.getElem?_set_ne (by omega),List.getElem?_set_ne (by omega),U.same _ (by omega),XP.same _ h2]
       exact h3
     · have hlt:=(List.getElem?_eq_some_iff.mp hj).1
       have:j=i:=by simp at hlt;omega
       subst this
       rw[List.getElem?_append_right (by omega),lc,Nat.sub_self]at hj
       simp at hj
       subst hj
       refine⟨by omega,by simp;omega,?_⟩
       rw[List.getElem?_set_ne (by omega),List.getElem?_set_ne (by omega)]
       exact ef2
noncomputable def iU:cW:=fun ds st K=>∃(A:List (List Int)) (N w:Nat),ds=[cH A]∧t6 A N w∧(∀k,k≤N→Mx.D k (Mx.ae A)≠0)∧(Mx.Sh (Mx.ae A) N→∀st',Ext st st'→K (.bl true) st')∧(¬Mx.Sh (Mx.ae A) N→∀st',Ext st st'→K (.bl false) st')
noncomputable def ke:List Str:=["_law_steps","_law_told","_law_grown","_law_known","_law_i","_law_j","_law_here","_law_least"]
noncomputable def wX:DS:=(aD (bg 1 (a_ iw (af (aa 0) ao)))
 (aD (fw (bL (ak xC (aa 1) (dC .aH))) (bX (dC (.bl false))) d9)
 (aD (yP (ja 2 3) (aa 1))
 (aD (gc (cP (af (cJ gI (af (aa 3) ao)) ao)) (bB 4) (aD (gc (cP (af (aa 4) ao)) (bB 5) (fw (bL (ak rk (ak bO (dC (.int 2)) (cJ qS (af (ak bU (ak bU (aa 3) (aa 4)) (aa 5)) ao))) (ak bU (aa 2) (ak cC (aa 5) (dC (.int 1)))))) (bX (dC (.bl false))) d9))
 (fw (bL (ak rk (aa 4) (dC (.int 0)))) (aD (bg 6 (ak bU (ak bU (aa 3) (aa 4)) (ak dD (aa 4) (dC (.int 1)))))
 (aD (bg 7 (ak dD (ak bO (ak bO (dC (.int 3)) (ak bU (aa 2) (aa 4))) (ak bU (aa 2) (aa 4))) (ak bO (ak bO (dC (.int 4)) (aa 6)) (aa 6))))
 (fw (bL (ak pe (ak bO (ak bO (dC (.int 4)) (ak bU (aa 2) (ak cC (aa 4) (dC (.int 1))))) (ak bU (aa 2) (ak dD (aa 4) (dC (.int 1))))) (aa 7))) (bX (dC (.bl false))) d9))) d9)))
 (bX (dC (.bl true)))))))
theorem u_:∀ds st K,iU ds st K→ds.length=1∧wX {nx:=fun _ st'=>K .aH st',rt:=K} (bx ke ds) st:=by
 rintro ds st K ⟨A,N,w,rfl,hS,hD,kT,kF⟩
 refine⟨rfl,?_⟩
 have gm:=hS.gm
 have h8:=gm.le
 refine⟨A,N,w,rfl,hS,fun st1 X1 hz=>?_,fun st1 g kn cs X1 _ O=>?_⟩
 · obtain⟨k,hk,z⟩:=hz
   exact absurd z (hD k hk)
 refine uY rfl ?_
 refine⟨_,rfl,?_⟩
 have ik:=aF O.ek
 have ig:=aF O.eg
 have lc:=O.lc
 have ixD:∀m,m≤N→eW (au ((List.range (N+1)).map fun q=>Mx.D q (Mx.ae A))) ((m:Nat):Int)=some (.int (Mx.D m (Mx.ae A))):=fun m hm=>by
  have:=hJ (r:=(List.range (N+1)).map fun q=>Mx.D q (Mx.ae A)) (k:=m) (by simp;omega)
  rw[FA (by omega)]at this
  exact this
 have ixL:∀i m,m≤i→eW (au (Mx.aO (Mx.ae A) i)) ((m:Nat):Int)=some (.int (Mx.lam (Mx.ae A) i m)):=fun i m hm=>by
  have:=hJ (r:=Mx.aO (Mx.ae A) i) (k:=m) (by rw[Mx.d6];omega)
  rw[Mx.ir _ hm]at this
  exact this
 refine fX ik ?_
 rw[List.length_map,lc]
 refine eP ⟨by omega,by omega⟩ ?_
 rw[Int.toNat_natCast]
 refine ib N (fun q σ st'=>st'=st1∧∃v4 v5 v6 v7:Option D,σ=[some (cH A),some (.tup [.ref g,.ref kn]),some (.ref g),some (.ref kn),v4,v5,v6,v7]∧(∀i j,j<i→i<q→2*(((Mx.lam (Mx.ae A) i j).natAbs:Nat):Int)≤Mx.D (j+1) (Mx.ae A))∧∀i,0<i→i<q→¬4*Mx.D (i+1) (Mx.ae A)*Mx.D (i-1) (Mx.ae A)<3*Mx.D i (Mx.ae A)*Mx.D i (Mx.ae A)-4*Mx.lam (Mx.ae A) i (i-1)*Mx.lam (Mx.ae A) i (i-1)) ?_ ?_ ⟨rfl,none,none,none,none,rfl,fun i j _ h=>by omega,fun i _ h=>by omega⟩
 · rintro σ st' ⟨rfl,v4,v5,v6,v7,rfl,h1,h2⟩
   exact kT ⟨h1,h2⟩ _ X1
 · rintro q σ st' rest hq ⟨rfl,v4,v5,v6,v7,rfl,h1,h2⟩ next
   refine⟨_,rfl,?_⟩
   have ec:cs[q]?=some cs[q]:=List.getElem?_eq_getElem (by omega)
   have er:(cs.map D.ref)[q]?=some (.ref cs[q]):=by rw[List.getElem?_map,ec];rfl
   have il:=aF (O.row q _ ec)
   dsimp only
   refine x_ (fun σ' st2=>st2=st'∧∃v5:Option D,σ'=[some (cH A),some (.tup [.ref g,.ref kn]),some (.ref g),some (.ref kn),some (.int (q:Int)),v5,v6,v7]∧∀j,j<q→2*(((Mx.lam (Mx.ae A) q j).natAbs:Nat):Int)≤Mx.D (j+1) (Mx.ae A)) (fun nx hnx=>?_) ?_
   · refine eP ⟨by omega,by omega⟩ ?_
     rw[Int.toNat_natCast]
     refine ib q (fun m σ st2=>st2=st'∧∃v5:Option D,σ=[some (cH A),some (.tup [.ref g,.ref kn]),some (.ref g),some (.ref kn),some (.int (q:Int)),v5,v6,v7]∧∀j,j<m→2*(((Mx.lam (Mx.ae A) q j).natAbs:Nat):Int)≤Mx.D (j+1) (Mx.ae A)) ?_ ?_ ⟨rfl,v5,rfl,fun j h=>by omega⟩
     · rintro σ st2 ⟨rfl,v5,rfl,h⟩
       exact hnx _ _ ⟨rfl,v5,rfl,h⟩
     · rintro m σ st2 rest2 hm ⟨rfl,v5,rfl,h⟩ next2
       refine⟨_,rfl,?_⟩
       refine aZ ik (gF er) (aZ il (ixL q m (by omega)) (vc (bY (fm (by decide) (by decide)) (cM (aZ ig (ixD (m+1) (by omega)) (Kp (fun hh=>hX ?_) fun hh=>?_))))))
       · exact kF (fun sh=>by have:=sh.half q m hm hq;omega) _ X1
       · refine next2 _ _ ⟨rfl,_,rfl,fun j hj=>?_⟩
         by_cases hjm:j=m
         · subst hjm;exact hh
         · exact h j (by omega)
   rintro σ' st2 ⟨rfl,v5,rfl,hh⟩
   have h1':∀i j,j<i→i<q+1→2*(((Mx.lam (Mx.ae A) i j).natAbs:Nat):Int)≤Mx.D (j+1) (Mx.ae A):=fun i j hj hi=>by
    by_cases hiq:i=q
    · subst hiq;exact hh j hj
    · exact h1 i j hj (by omega)
   refine Kp (fun h0=>hX ?_) fun h0=>next _ _ ⟨rfl,_,_,_,_,rfl,h1',fun i hi0 hi=>h2 i hi0 (by omega)⟩
   have em:((q:Nat):Int)-1=((q-1:Nat):Int):=by omega
   have b1:=gm.D (p:=q) (by omega)
   have b2:=gm.D (p:=q+1) (by omega)
   have b3:=gm.D (p:=q-1) (by omega)
   have b4:(Mx.lam (Mx.ae A) q (q-1)).natAbs≤2^6100:=gm.gx (by omega) hq (by omega)
   have t3:(3:Int).natAbs≤2^2:=by decide
   have t4:(4:Int).natAbs≤2^3:=by decide
   refine aZ ik (gF er) (cS ?_)
   rw[em]
   refine aZ il (ixL q (q-1) (by omega)) ?_
   refine aZ ig (ixD q (by omega)) (bY (fm (by decide) (by decide)) (aZ ig (ixD q (by omega)) (bY (dn (jM t3 b1) b1 (by decide) (by decide)) (bY (fm (by decide) (by decide)) (bY (dn (jM t4 b4) b4 (by decide) (by decide)) (cS ?_))))))
   refine cM (aZ ig (ixD (q+1) (by omega)) (bY (fm (by decide) (by decide)) (cS ?_)))
   rw[em]
   refine aZ ig (ixD (q-1) (by omega)) (bY (dn (jM t4 b2) b3 (by decide) (by decide)) (GS (fun hf=>hX ?_) fun hf=>?_))
   · exact kF (fun sh=>sh.HZ q (by omega) hq hf) _ X1
   · refine next _ _ ⟨rfl,_,_,_,_,rfl,h1',fun i hi0 hi=>?_⟩
     by_cases hiq:i=q
     · subst hiq;omega
     · exact h2 i hi0 (by omega)
noncomputable def gf:cW:=fun ds st K=>∃(P Q:List (List Int)) (m p n:Nat),ds=[cH P,cH Q]∧Mx.bZ m p P∧Mx.bZ p n Q∧1≤p∧m≤1000∧p≤1000∧n≤1000∧(∀r∈P,∀x∈r,x.natAbs≤2^400000)∧(∀r∈Q,∀x∈r,x.natAbs≤2^400000)∧∀st',Ext st st'→K (cH (Mx.mulM P Q n)) st'
noncomputable def i0:List Str:=["_law_one","_law_other","_law_found","_law_weights","_law_made","_law_weight","_law_row"]
noncomputable def ug:DS:=(aD (bg 2 (lT ao))
 (aD (gc (gU (aa 0)) (bB 3) (aD (bg 4 (ak bO (kC (af (dC (.int 0)) ao)) (cJ gI (af (ak bU (aa 1) (dC (.int 0))) ao))))
 (aD (gc (oq (af (aa 3) (af (aa 1) ao))) (ja 5 6) (bg 4 (eM (oq (af (aa 4) (af (aa 6) ao))) [none,none,some 5] (ja 0 1) cQ (ak cC (aa 0) (ak bO (aa 2) (aa 1))))))
 (gj (gg (aa 2) (cJ eV (af (aa 4) ao)))))))
 (bX (cJ eV (af (aa 2) ao)))))
theorem rn{t:Int}:∀(r s:List Int),(fZ (au r) (au s)).map (fun d=>match d with| .tup [.int a,.int b]=> .int (a+t*b)|_=> .aH)=au (Mx.gz r t s)
 | [],_=>rfl
 |_::_,[]=>rfl
 |a::r,b::s=>by
  have:=rn (t:=t) r s
  unfold fZ Mx.gz at this⊢
  simp only[au,List.map_cons,List.zip_cons_cons,List.zipWith_cons_cons]at this⊢
  rw[this]
theorem sG:∀ds st K,gf ds st K→ds.length=2∧ug {nx:=fun _ st'=>K .aH st',rt:=K} (bx i0 ds) st:=by
 rintro ds st K ⟨P,Q,m,p,n,rfl,hP,hQ,hp,hm,hp2,hn,bP,bQ,kk⟩
 refine⟨rfl,?_⟩
 have lP:=hP.len
 have lQ:=hQ.len
 refine⟨Nat.le_of_ble_eq_true rfl,?_⟩
 have X0:Ext st (st++[.lst []]):=Ext.push
 have e0:(st++[Cell.lst []])[st.length]?=some (.lst (([]:List (List Int)).map cV)):=by simp
 refine iJ ?_
 refine gi (fun rest σ st'=>∃(P1 P2:List (List Int)) (v3 v4 v5 v6:Option D),P1++P2=P∧rest=P2.map cV∧σ=[some (cH P),some (cH Q),some (.ref st.length),v3,v4,v5,v6]∧Ext st st'∧st'[st.length]?=some (.lst ((Mx.mulM P1 Q n).map cV))) ?_ ?_ _ _ _ ⟨[],P,none,none,none,none,rfl,rfl,rfl,X0,e0⟩
 · rintro σ st1 ⟨P1,P2,v3,v4,v5,v6,hP12,hr,rfl,X,e⟩
   refine⟨trivial,?_⟩
   match P2,hr with
   | [],_=>
     rw[List.append_nil]at hP12
     subst hP12
     exact eK (aF e) (kk st1 X)
 · rintro x rest σ st1 ⟨P1,P2,v3,v4,v5,v6,hP12,hr,rfl,X,e⟩ next
   match P2,hr,hP12 with
   |ws::P2,hr,hP12=>
    rw[List.map_cons,List.cons.injEq]at hr
    obtain⟨rfl,rfl⟩:=hr
    have hws:ws∈P:=by rw[←hP12];simp
    have lws:=hP.ij ws hws
    refine⟨trivial,_,rfl,?_⟩
    have h00:Q.getD 0 []∈Q:=by rw[Mx.aX (by omega)];exact List.getElem_mem _
    refine⟨Nat.le_of_ble_eq_true rfl,aZ (e:=cV (Q.getD 0 [])) rfl (wy (j:=0) (by omega)) (fX rfl (DX ⟨by rw[List.length_map];omega,by rw[List.length_map,hQ.ij _ h00];omega,dJ (by rw[List.length_map,hQ.ij _ h00];simp;omega)⟩ ?_))⟩
    rw[List.length_map,hQ.ij _ h00,Int.toNat_natCast,BR]
    refine om rfl rfl fun ok aP=>?_
    refine gi (fun rest σ st'=>st'=st1∧∃(w2:List Int) (Q2:List (List Int)) (acc:List Int) (v5 v6:Option D),rest=fZ (au w2) (Q2.map cV)∧σ=[some (cH P),some (cH Q),some (.ref st.length),some (cV ws),some (bF acc),v5,v6]∧acc.length=n∧(∀x∈w2,x∈ws)∧(∀r∈Q2,r∈Q)∧Mx.jd w2 Q2 acc=Mx.jd ws Q (List.replicate n 0)) ?_ ?_ _ _ _ ⟨rfl,ws,Q,_,v5,v6,rfl,rfl,by simp,fun x h=>h,fun r h=>h,rfl⟩
    · rintro σ st2 ⟨rfl,w2,Q2,acc,v5,v6,hr,rfl,la,hw2,hQ2,hs⟩
      refine⟨aP _ rfl rfl,?_⟩
      have hacc:acc=Mx.jd ws Q (List.replicate n 0):=by
       match w2,Q2,hr,hs with
       | [],_,_,hs=>exact hs
       |_::_,[],_,hs=>exact hs
       |_::_,_::_,hr,_=>cases hr
      refine lF (by rfl) e (eK rfl (jV e (by rw[sizeLine_eq,List.length_map];unfold Mx.mulM;rw[List.length_map];have:=congrArg List.length hP12;simp at this;omega) ?_))
      have hlt:=(List.getElem?_eq_some_iff.mp e).1
      refine next _ _ ⟨P1++[ws],P2,_,_,_,_,by rw[←hP12];simp,rfl,rfl,X.set (Nat.le_refl _),?_⟩
      rw[List.getElem?_set_self hlt,hacc]
      unfold Mx.mulM
      simp
    · rintro x rest σ st2 ⟨rfl,w2,Q2,acc,v5,v6,hr,rfl,la,hw2,hQ2,hs⟩ next2
      match w2,Q2,hr,hs,hw2,hQ2 with
      | [],_,hr,_,_,_=>cases hr
      |_::_,[],hr,_,_,_=>cases hr
      |c::w2,r::Q2,hr,hs,hw2,hQ2=>
       have hz:fZ (au (c::w2)) ((r::Q2).map cV)= .tup [.int c,cV r]::fZ (au w2) (Q2.map cV):=rfl
       rw[hz,List.cons.injEq]at hr
       obtain⟨rfl,rfl⟩:=hr
       have hrQ:=hQ2 r List.mem_cons_self
       refine⟨aP _ rfl rfl,_,rfl,?_⟩
       refine om rfl rfl fun ok2 hok2=>⟨dJ (by rw[nF,List.length_map];omega),?_⟩
       refine comp_map (g:=fun d=>match d with| .tup [.int a,.int b]=> .int (a+c*b)|_=> .aH) (hok2 _ rfl rfl) _ (fun d hd K' t=>?_) ?_
       · obtain⟨a,b,ha,hb,rfl⟩:=qK hd
         exact⟨_,rfl,bY (dn (bP ws hws c (hw2 c List.mem_cons_self)) (bQ r hrQ b hb) (by decide) (by decide)) (cM t)⟩
       rw[rn]
       exact next2 _ _ ⟨rfl,w2,Q2,_,_,_,rfl,rfl,by rw[Mx.lY (by rw[la,hQ.ij r hrQ])];exact la,fun x h=>hw2 x (List.mem_cons_of_mem _ h),fun r h=>hQ2 r (List.mem_cons_of_mem _ h),hs⟩
noncomputable def jC:cW:=fun ds st K=>∃(n:Nat),ds=[.int n]∧n≤1000∧K (cH (Mx.units n)) st
noncomputable def kL:List Str:=["_law_n"]
noncomputable def y9:DS:=(bX (cJ eV (af (eM (cP (af (aa 0) ao)) [none,some 0] (bB 0) cQ (cJ eV (af (eM (cP (af (aa 1) ao)) [none,some 0] (bB 0) cQ (cJ sJ (af (ak jr (aa 1) (aa 0)) ao))) ao))) ao)))
theorem wK:∀ds st K,jC ds st K→ds.length=1∧y9 {nx:=fun _ st'=>K .aH st',rt:=K} (bx kL ds) st:=by
 rintro ds st K ⟨n,rfl,hn,k⟩
 refine⟨rfl,?_⟩
 refine eP ⟨by omega,by omega⟩ ⟨dJ (by rw[dE];omega),?_⟩
 rw[Int.toNat_natCast]
 refine gQ (fun i=>cV (Mx.dk n i)) n (fun i hi K' q=>⟨_,rfl,?_⟩) ?_
 · refine eP ⟨by omega,by omega⟩ ⟨dJ (by rw[dE];omega),?_⟩
   rw[Int.toNat_natCast]
   refine gQ (fun j=> .int (Mx.dl j i)) n (fun j hj K' q=>⟨_,rfl,?_⟩) ?_
   · refine eq2 (fun h=>pA ?_) fun h=>pA ?_
     · have:j=i:=by omega
       subst this
       rw[Mx.dm]at q;exact q
     · rw[Mx.dX (by omega)]at q;exact q
   · have:(List.range n).map (fun j=>D.int (Mx.dl j i))=au (Mx.dk n i):=by unfold Mx.dk au;rw[List.map_map];rfl
     rw[this]
     exact eK rfl q
 have:(List.range n).map (fun i=>cV (Mx.dk n i))=(Mx.units n).map cV:=by unfold Mx.units;rw[List.map_map];rfl
 rw[this]
 exact eK rfl k
noncomputable def fv:cW:=fun ds st K=>∃(B:List (List Int)) (m n:Nat),ds=[cH B,.int m,.int n]∧Mx.bZ m n B∧n≤1000∧K (.bl true) st
noncomputable def i5:List Str:=["_law_rows_here","_law_many","_law_wide","_law_row"]
noncomputable def ud:DS:=(aD (fw (mJ (jz (bL (cJ nN (af (aa 0) (af (dC (.ty "tuple")) ao))))) (bL (ak tY (cJ gI (af (aa 0) ao)) (aa 1)))) (bX (dC (.bl false))) d9)
 (aD (gc (gU (aa 0)) (bB 3) (aD (fw (mJ (jz (bL (cJ nN (af (aa 3) (af (dC (.ty "tuple")) ao))))) (bL (ak tY (cJ gI (af (aa 3) ao)) (aa 2)))) (bX (dC (.bl false))) d9)
 (fw (jz (bL (cJ vQ (af (eM (gU (aa 3)) [none] (bB 0) cQ (ym (cJ nN (af (aa 0) (af (dC (.ty "int")) ao))) (ze (bL (cJ nN (af (aa 0) (af (dC (.ty "bool")) ao))))))) ao)))) (bX (dC (.bl false))) d9)))
 (bX (dC (.bl true)))))
theorem sL:∀ds st K,fv ds st K→ds.length=3∧ud {nx:=fun _ st'=>K .aH st',rt:=K} (bx i5 ds) st:=by
 rintro ds st K ⟨B,m,n,rfl,hB,hn,k⟩
 refine⟨rfl,?_⟩
 have lB:=hB.len
 refine oB rfl (by decide) ?_
 refine fX rfl (GN (by rw[List.length_map,lB]) ?_)
 refine iJ ?_
 refine gi (fun rest σ st'=>st'=st∧∃(B2:List (List Int)) (v3:Option D),rest=B2.map cV∧(∀r∈B2,r∈B)∧σ=[some (cH B),some (.int (m:Int)),some (.int (n:Int)),v3]) ?_ ?_ _ _ _ ⟨rfl,B,none,rfl,fun r h=>h,rfl⟩
 · rintro σ st' ⟨rfl,B2,v3,hr,hm,rfl⟩
   exact⟨trivial,k⟩
 · rintro x rest σ st' ⟨rfl,B2,v3,hr,hm,rfl⟩ next
   match B2,hr,hm with
   |r::B2,hr,hm=>
    rw[List.map_cons,List.cons.injEq]at hr
    obtain⟨rfl,rfl⟩:=hr
    have hw:=hB.ij r (hm r List.mem_cons_self)
    refine⟨trivial,_,rfl,?_⟩
    refine oB rfl (by decide) ?_
    refine fX rfl (GN (by rw[List.length_map,hw]) ?_)
    refine iJ ⟨dJ (by rw[List.length_map];omega),?_⟩
    refine comp_map (g:=fun _=> .bl true) trivial _ (fun d hd K' q=>?_) ?_
    · obtain⟨i,_,rfl⟩:=List.mem_map.mp hd
      exact⟨_,rfl,oB rfl (by decide) (hX (oB rfl (by decide) q))⟩
    have eb:jA ((au r).map fun _=>D.bl true)=some ((au r).map fun _=>true):=tI (f:=fun _=>true) (au r)
    refine Hc eb ?_
    have ea:((au r).map fun _=>true).all id=true:=by simp
    rw[ea]
    exact next _ _ ⟨rfl,B2,_,rfl,fun r h=>hm r (List.mem_cons_of_mem _ h),rfl⟩
noncomputable def gh:cW:=fun ds st K=>∃(A A' U C:List (List Int)) (N w:Nat),ds=[cH A,.tup [cH A',cH U,cH (Mx.lV C N)]]∧Dr A N w∧Mx.Tn A A' U C N w∧ve A' U C N∧Mx.Sh (Mx.ae A') N∧∀st',Ext st st'→K (.bl true) st'
noncomputable def jc:List Str:=["_law_steps","_law_told","_law_made","_law_turn","_law_back","_law_n"]
noncomputable def ue:DS:=(aD (fw (mJ (jz (bL (cJ nN (af (aa 1) (af (dC (.ty "tuple")) ao))))) (bL (ak tY (cJ gI (af (aa 1) ao)) (dC (.int 3))))) (bX (dC (.bl false))) d9)
 (aD (yP (mQ 2 3 4) (aa 1))
 (aD (bg 5 (cJ gI (af (aa 0) ao)))
 (aD (fw (mJ (jz (bL (a_ fv (af (aa 2) (af (aa 5) (af (cJ gI (af (ak bU (aa 0) (dC (.int 0))) ao)) ao)))))) (mJ (jz (bL (a_ fv (af (aa 3) (af (aa 5) (af (aa 5) ao)))))) (jz (bL (a_ fv (af (aa 4) (af (aa 5) (af (aa 5) ao)))))))) (bX (dC (.bl false))) d9)
 (aD (fw (mJ (bL (ak oY (a_ gf (af (aa 3) (af (aa 4) ao))) (a_ jC (af (aa 5) ao)))) (bL (ak oY (a_ gf (af (aa 3) (af (aa 0) ao))) (aa 2)))) (bX (dC (.bl false))) d9)
 (bX (a_ iU (af (aa 2) ao))))))))
theorem Ad{A B:List (List Int)}{m n:Nat}(hA:Mx.bZ m n A)(hB:Mx.bZ m n B)(h:∀i j,i<m→j<n→Mx.g A i j=Mx.g B i j):A=B:=by
 have lA:=hA.len
 have lB:=hB.len
 refine List.ext_getElem (by omega) fun i h1 h2=>?_
 refine Mx.so (n:=n) (hA.ij _ (List.getElem_mem _)) (hB.ij _ (List.getElem_mem _)) fun j hj=>?_
 have:=h i j (by omega) hj
 unfold Mx.g at this
 rw[Mx.aX h1,Mx.aX h2]at this
 exact this
theorem Ll{C:List (List Int)}{N k j:Nat}(hC:Mx.bZ N N C)(hk:k<N)(hj:j<N):Mx.g (Mx.lV C N) k j=Mx.g C j k:=by
 have lC:=hC.len
 unfold Mx.g Mx.lV Mx.nQ
 rw[Mx.aX (l:=(List.range N).map _) (by simpa using hk),List.getElem_map,List.getElem_range,Mx.aX (by rw[List.length_map];omega),List.getElem_map,Mx.aX (l:=C) (by omega)]
theorem uI{C:List (List Int)}{N:Nat}(hC:Mx.bZ N N C):Mx.bZ N N (Mx.lV C N):=by
 refine⟨by unfold Mx.lV;simp,fun r hr=>?_⟩
 unfold Mx.lV at hr
 obtain⟨i,_,rfl⟩:=List.mem_map.mp hr
 unfold Mx.nQ
 rw[List.length_map];exact hC.len
theorem FC{C:List (List Int)}{N b:Nat}(hC:Mx.bZ N N C)(h:∀r∈C,∀x∈r,x.natAbs≤b):∀r∈Mx.lV C N,∀x∈r,x.natAbs≤b:=fun r hr x hx=>by
 unfold Mx.lV at hr
 obtain⟨i,hi,rfl⟩:=List.mem_map.mp hr
 rw[List.mem_range]at hi
 unfold Mx.nQ at hx
 obtain⟨s,hs,rfl⟩:=List.mem_map.mp hx
 exact h s hs _ (getD_mem (by rw[hC.ij s hs];exact hi))
theorem tq{A:List (List Int)}:pl 40 (cH A)=true:=by
 unfold pl
 refine List.all_eq_true.mpr fun d hd=>?_
 obtain⟨r,_,rfl⟩:=List.mem_map.mp hd
 unfold pl
 exact x9
theorem sM:∀ds st K,gh ds st K→ds.length=2∧ue {nx:=fun _ st'=>K .aH st',rt:=K} (bx jc ds) st:=by
 rintro ds st K ⟨A,A',U,C,N,w,rfl,dr,T,sm,sh,kk⟩
 refine⟨rfl,?_⟩
 have h8:=dr.le
 have h9:=dr.wd
 have n1:=dr.n1
 have lA:=dr.is.len
 refine oB rfl (by decide) ?_
 refine fX rfl (GN rfl ?_)
 refine⟨_,rfl,?_⟩
 refine fX rfl ?_
 rw[List.length_map,lA]
 have w0:(A.getD 0 []).length=w:=Mx.bW dr.is (by omega)
 refine aZ (e:=cV (A.getD 0 [])) rfl (wy (j:=0) (by omega)) (fX rfl ?_)
 rw[List.length_map,w0]
 refine⟨A',N,w,rfl,T.isA,by omega,?_⟩
 refine⟨U,N,N,rfl,T.iu,by omega,?_⟩
 refine⟨Mx.lV C N,N,N,rfl,uI T.iV,by omega,?_⟩
 have eB:∀r∈A,∀x∈r,x.natAbs≤2^400000:=dr.st.Kn.sm
 refine⟨U,Mx.lV C N,N,N,N,rfl,T.iu,uI T.iV,n1,by omega,by omega,by omega,sm.eU,FC T.iV sm.eC,fun st1 X1=>?_⟩
 refine⟨N,rfl,by omega,?_⟩
 have e1:Mx.mulM U (Mx.lV C N) N=Mx.units N:=Ad (Mx.xq T.iu (uI T.iV)) (Mx.qH N) fun i j hi hj=>by
  rw[Mx.xV T.iu (uI T.iV) hi,Mx.kY hi hj,←T.ub i j hi hj]
  exact Mx.aQ fun k hk=>by rw[Ll T.iV hk hj]
 rw[e1]
 refine qI tq ?_
 refine⟨U,A,N,N,w,rfl,T.iu,dr.is,n1,by omega,by omega,by omega,sm.eU,eB,fun st2 X2=>?_⟩
 have e2:Mx.mulM U A w=A':=Ad (Mx.xq T.iu dr.is) T.isA fun i j hi hj=>by
  rw[Mx.xV T.iu dr.is hi,T.ua i j hi hj]
 rw[e2]
 refine qI tq ?_
 have hDn:∀k,k≤N→Mx.D k (Mx.ae A')≠0:=fun k hk=>by have:=(sm.D k hk).1;omega
 have hDb:∀k,k≤N→Mx.D k (Mx.ae A')≤2^744:=fun k hk=>by
  obtain⟨p0,p1⟩:=sm.D k hk
  have h3:(((2:Nat)^744:Nat):Int)=(2:Int)^744:=Int.natCast_pow 2 744
  have h4:(((Mx.D k (Mx.ae A')).natAbs:Nat):Int)=Mx.D k (Mx.ae A'):=Int.natAbs_of_nonneg (by omega)
  rw[←h3,←h4];exact Int.ofNat_le.mpr p1
 have hdiag:∀i,i<N→Mx.ae A' i i≤((2^748:Nat):Int):=fun i hi=>by
  have h5:=Mx.xO T.isA hDn hDb hi fun j hj=>sh.half i j hj hi
  have h16:(2:Int)^4=16:=by decide
  have h6:((i+1:Nat):Int)*2^744≤2^4*2^744:=Int.mul_le_mul_of_nonneg_right (by omega) (Int.le_of_lt (Mx.kN _))
  rw[←Int.pow_add]at h6
  rw[Int.natCast_pow]
  exact Int.le_trans h5 h6
 have hSt:t6 A' N w:=⟨T.isA,by omega,sm.eA,⟨h8,fun r c hr hc=>Mx.mq (Mx.we (by rw[Mx.bW T.isA hr,Mx.bW T.isA hc])) (Mx.eY T.isA hr) (Mx.eY T.isA hc) (hdiag r hr) (hdiag c hc),Mx.jf A'⟩⟩
 exact⟨A',N,w,rfl,hSt,hDn,fun _ st3 X3=>kk st3 ((X1.trans X2).trans X3),fun z=>absurd sh z⟩
noncomputable abbrev zf:cW:=Ah []
noncomputable def uF:List Str:=["_law_script","_law_k","_law_left_here","_law_steps","_law_handed"]
noncomputable def IW:DS:=(aD (gc (nj (af (dC (.int 1)) (af (ak cC (dC (.int 2)) (cJ gI (af (lN (aa 0) (mD (dC (.int 1))) (mD (dC (.int 3)))) ao))) ao))) (bB 1) (aD (bg 2 (a_ jH (af (aa 0) (af (aa 1) ao))))
 (aD (bg 3 (zP (bL (ak jr (a_ b_ (af (aa 2) (af (dC (.int 16)) ao))) (dC (.int 9)))) (a_ gH (af (aa 2) ao)) (a_ iX (af (aa 2) ao))))
 (aD (fw (bL (ak xC (a_ iw (af (aa 3) ao)) (dC .aH))) zu d9)
 (aD (bg 4 (eM (gU (aa 3)) [none] (bB 0) cQ (cJ kO (af (aa 0) ao))))
 (aD (fw (mJ (jz (bL (a_ gh (af (aa 3) (af (a_ lh (af (aa 4) ao)) ao))))) (bL (ak oY (aa 4) (eM (gU (aa 3)) [none] (bB 0) cQ (cJ kO (af (aa 0) ao)))))) (bX (dC (.bl false))) d9)
 (fw (jz (bL (a_ gh (af (aa 3) (af (a_ lh (af (aa 3) ao)) ao))))) (bX (dC (.bl false))) d9)))))))
 (bX (dC (.bl true))))
theorem Fg{xs:List D}{a b:Int}:(L3.cutD xs (some a) (some b)).length≤xs.length:=by
 unfold L3.cutD
 rw[List.length_take,List.length_drop]
 omega
theorem GY:∀ds st K,zf ds st K→ds.length=1∧IW {nx:=fun _ st'=>K .aH st',rt:=K} (bx uF ds) st:=by
 rintro ds st K ⟨ns,rfl,hl,_,k⟩
 refine⟨rfl,?_⟩
 refine zA (fX rfl (cM ?_))
 have hc:=Fg (xs:=ns.map D.int) (a:=1) (b:=3)
 rw[List.length_map]at hc
 generalize(L3.cutD (ns.map D.int) (some 1) (some 3)).length=m at hc⊢
 refine x8 ⟨by omega,by omega,by omega,by omega⟩ ?_
 have hm:∀d∈dN 1 (2+(m:Int)-1).toNat,∃q:Int,d= .int q∧0≤q∧q≤1000:=fun d hd=>by
  unfold dN at hd
  obtain⟨i,hi,rfl⟩:=List.mem_map.mp hd
  rw[List.mem_range]at hi
  exact⟨_,rfl,by omega,by omega⟩
 generalize dN 1 (2+(m:Int)-1).toNat=rs at hm⊢
 refine gi (fun rest σ st'=>(∀d∈rest,∃q:Int,d= .int q∧0≤q∧q≤1000)∧∃v1 v2 v3 v4:Option D,σ=[some (.lst (ns.map .int)),v1,v2,v3,v4]) ?_ ?_ _ _ _ ⟨hm,none,none,none,none,rfl⟩
 · rintro σ st' ⟨_,v1,v2,v3,v4,rfl⟩
   exact⟨trivial,k _⟩
 · rintro x rest σ st1 ⟨hr,v1,v2,v3,v4,rfl⟩ next
   obtain⟨q,rfl,q0,q1⟩:=hr x List.mem_cons_self
   have hr2:∀d∈rest,∃q:Int,d= .int q∧0≤q∧q≤1000:=fun d hd=>hr d (List.mem_cons_of_mem _ hd)
   refine⟨trivial,_,rfl,?_⟩
   refine⟨ns,q,rfl,q0,q1,fun x hx=>?_⟩
   have L1:Lf (st1++[.lst [.int x]]) st1.length:=⟨x,by simp,hx⟩
   generalize st1.length=n at L1⊢
   generalize st1++[Cell.lst [.int x]]=st2 at L1⊢
   dsimp only
   refine x_ (fun σ' st'=>∃A N w,Dr A N w∧σ'=[some (.lst (ns.map .int)),some (.int q),some (.ref n),some (cH A),v4]) (fun nx hnx=>?_) ?_
   · refine⟨n,16,rfl,L1,by decide,by decide,fun r st3 r0 r1 L3 U3=>?_⟩
     refine eq2 (fun h=>hX ?_) fun h=>?_
     · exact⟨n,rfl,L3,fun A N w st4 dr L4 U4=>hnx _ _ ⟨A,N,w,dr,rfl⟩⟩
     · exact⟨n,rfl,L3,fun A N w st4 dr L4 U4=>hnx _ _ ⟨A,N,w,dr,rfl⟩⟩
   rintro σ' st3 ⟨A,N,w,dr,rfl⟩
   have hlA:=dr.is.len
   have h8:=dr.le
   refine⟨A,N,w,rfl,dr.st.Kn,fun st4 X4 _=>?_,fun st4 g kn cs X4 hD _=>?_⟩
   · refine uY rfl ?_
     exact next _ _ ⟨hr2,_,_,_,_,rfl⟩
   · refine uY rfl ?_
     refine iJ ⟨dJ (by rw[List.length_map];omega),?_⟩
     refine iN bF trivial bS.tup (fun d r _ hd K' t=>⟨_,rfl,m7 hd t⟩) ?_
     refine⟨_,A,N,w,rfl,EA,dr.st,dr.wd,hD,fun st5 A5 U5 C5 X5 T5 sm5 sh5=>?_⟩
     refine⟨A,A5,U5,C5,N,w,rfl,dr,T5,sm5,sh5,fun st6 X6=>?_⟩
     refine iJ ⟨dJ (by rw[List.length_map];omega),?_⟩
     refine iN bF trivial bS.tup (fun d r _ hd K' t=>⟨_,rfl,m7 hd t⟩) ?_
     refine qI (BZ (n:=38)) ?_
     refine⟨_,A,N,w,rfl,Eo,dr.st,dr.wd,hD,fun st7 A7 U7 C7 X7 T7 sm7 sh7=>?_⟩
     refine⟨A,A7,U7,C7,N,w,rfl,dr,T7,sm7,sh7,fun st8 X8=>?_⟩
     exact next _ _ ⟨hr2,_,_,_,_,rfl⟩
end Prog
namespace Row
open PySem L2 L3 Prog
open PySem.Spec hiding items?
open PyProof.Rows hiding St
noncomputable def top(i:Nat):Stmt:=PySem.Challenge.pw_latticeworks_k34_short_steps.main.body.getD i (.Pass ⟨0,0,0,0⟩)
theorem du:(("tuple":Str))≠"__name__":=by decide+kernel
theorem Aw:(("sum":Str))≠"__name__":=by decide+kernel
theorem kW:(("list":Str))≠"__name__":=by decide+kernel
theorem fM:(("len":Str))≠"__name__":=by decide+kernel
theorem Bb:(("max":Str))≠"__name__":=by decide+kernel
theorem vo:(("abs":Str))≠"__name__":=by decide+kernel
theorem u5:(("int":Str))≠"__name__":=by decide+kernel
theorem g5:(("isinstance":Str))≠"__name__":=by decide+kernel
theorem Fi:(("bool":Str))≠"__name__":=by decide+kernel
theorem Gr:(("all":Str))≠"__name__":=by decide+kernel
structure Bl(mg:Str→Option Value):Prop where
 d7:mg "tuple"=none
 nI:mg "zip"=none
 dB:mg "range"=none
 CH:mg "sum"=none
 m_:mg "list"=none
 gM:mg "len"=none
 Dd:mg "max"=none
 yO:mg "abs"=none
 zt:mg "int"=none
 iD:mg "isinstance"=none
 FH:mg "bool"=none
 Ir:mg "all"=none
structure ClsAt(K:PySem.W.Frag)(mg:Str→Option Value)(x:Str)(C:Addr):Prop where
 cl:ku K C
 mg:mg x=some (.ref C)
 Kr:PySem.W.makesIn K C=true
 kp:PySem.W.keepIn K (.ref C)=true
structure MethAt(K:PySem.W.Frag)(C:Addr)(m qual:Str)(st:Stmt)(ps:List Str)(f:Addr)(fd:FuncData):Prop where
 fn:nh K m qual st f fd
 me:Meth K C m f
 bd:Binds K fd ps []
structure Kl(K:PySem.W.Frag)(mg:Str→Option Value):Prop where
 cA:ClsAt K mg "Bench" az
 bh:ClsAt K mg "Stairs" av
 eE:fS K az "body"
 eH:fS K az "turn"
 cp:fS K az "back_columns"
 fL:fS K av "bench"
 br:fS K av "table"
section
variable {P:Program}{w:World}{K:PySem.W.Frag}{mg:Str→Option Value}{base:Heap}
noncomputable abbrev ff:Stmt:=top 5
theorem oE:VS (ah ff) mn ["tuple"]:=⟨by decide+kernel⟩
theorem za:bb mn ["rows"] (ah ff):=⟨rfl,rfl,rfl,by decide+kernel,rfl,by decide+kernel,by decide+kernel⟩
theorem yn{f:Addr}{fd:FuncData}(B:Bl mg)(Q:Kl K mg)(F:aC K mg "as_rows" "as_rows" ff ["rows"] f fd):
 ay P w K mg base aJ 1 f fd ["rows"] (aK jq):=
 cz (N:=mn) F.fn za (fun cdv A outer s H E hr=>(aA (bf (f_ fu (ab (fj (Nc:=["row"]) (bT.look (ah ff) ["rows"] (by decide+kernel)) (i_ (oE.nm 0)) (fun _ _ _ _=>(d4 (show(["row"]:List Str).Nodup by decide+kernel) (by first|exact Or.inl rfl|exact Or.inr rfl) (by first|exact .inl rfl|exact .inr rfl))) (fun _ _ _ _=>cU) (fun _ _ _ _=>(f_ fu (ab eR aj) B.d7 rfl du (by decide+kernel) rfl)) di) aj) B.d7 rfl du (oE.d 0) (oE.g 0))))) zo
noncomputable abbrev gD:Stmt:=top 6
theorem sI:VS (ah gD) pH ["zip"]:=⟨by decide+kernel⟩
theorem Bj:bb pH ["row","times","other"] (ah gD):=⟨rfl,rfl,rfl,by decide+kernel,rfl,by decide+kernel,by decide+kernel⟩
theorem Cu{f:Addr}{fd:FuncData}(B:Bl mg)(Q:Kl K mg)(F:aC K mg "added" "added" gD ["row","times","other"] f fd):
 ay P w K mg base aJ 1 f fd ["row","times","other"] (aK jZ):=
 cz (N:=pH) F.fn Bj (fun cdv A outer s H E hr=>(aA (bf (fj (Nc:=["one","two","times"]) (bT.look (ah gD) ["row","times","other"] (by decide+kernel)) (pN (sI.g 0) B.nI (ab (sI.nm 0) (ab (sI.nm 2) aj))) (fun _ _ _ _=>(nO rfl (show(["one","two","times"]:List Str).Nodup by decide+kernel) (by first|exact Or.inl rfl|exact Or.inr rfl) (by first|exact .inl rfl|exact .inr rfl) (by first|exact Or.inl rfl|exact Or.inr rfl) (by first|exact .inl rfl|exact .inr rfl))) (fun _ _ _ _=>cU) (fun _ _ _ _=>(aB dc eR (aB cy eR eR))) pQ)))) Cy
noncomputable abbrev fP:Stmt:=top 7
theorem qs:VS (ah fP) nM ["tuple"]:=⟨by decide+kernel⟩
theorem A8:bb nM ["rows","place"] (ah fP):=⟨rfl,rfl,rfl,by decide+kernel,rfl,by decide+kernel,by decide+kernel⟩
theorem zW{f:Addr}{fd:FuncData}(B:Bl mg)(Q:Kl K mg)(F:aC K mg "column" "column" fP ["rows","place"] f fd):
 ay P w K mg base aJ 1 f fd ["rows","place"] (aK lS):=
 cz (N:=nM) F.fn A8 (fun cdv A outer s H E hr=>(aA (bf (f_ fu (ab (fj (Nc:=["row","place"]) (bT.look (ah fP) ["rows","place"] (by decide+kernel)) (i_ (qs.nm 0)) (fun _ _ _ _=>(d4 (show(["row","place"]:List Str).Nodup by decide+kernel) (by first|exact Or.inl rfl|exact Or.inr rfl) (by first|exact .inl rfl|exact .inr rfl))) (fun _ _ _ _=>cU) (fun _ _ _ _=>(bG eR eR)) di) aj) B.d7 rfl du (qs.d 0) (qs.g 0))))) Ap
noncomputable abbrev c_:Stmt:=top 8
theorem iZ:VS (ah c_) i7 ["range","tuple"]:=⟨by decide+kernel⟩
theorem sT:bb i7 ["rows","wide"] (ah c_):=⟨rfl,rfl,rfl,by decide+kernel,rfl,by decide+kernel,by decide+kernel⟩
theorem sj{f:Addr}{fd:FuncData}(B:Bl mg)(Q:Kl K mg)(F:aC K mg "turned_over" "turned_over" c_ ["rows","wide"] f fd){a_column:Addr}{d_column:FuncData}(D_column:aC K mg "column" "column" fP ["rows","place"] a_column d_column)(G_column:ay P w K mg base aJ 1 a_column d_column ["rows","place"] (aK lS)):
 ay P w K mg base aJ 2 f fd ["rows","wide"] (aK g7):=
 cz (N:=i7) F.fn sT (fun cdv A outer s H E hr=>(aA (bf (f_ fu (ab (fj (Nc:=["place","rows"]) (bT.look (ah c_) ["rows","wide"] (by decide+kernel)) (dO (iZ.g 0) B.dB (ab (iZ.nm 1) aj)) (fun _ _ _ _=>(d4 (show(["place","rows"]:List Str).Nodup by decide+kernel) (by first|exact Or.inl rfl|exact Or.inr rfl) (by first|exact .inl rfl|exact .inr rfl))) (fun _ _ _ _=>cU) (fun _ _ _ _=>(cn D_column G_column (hr.mono (by decide)) (ab eR (ab eR aj)) (by decide+kernel) rfl)) di) aj) B.d7 rfl du (iZ.d 1) (iZ.g 1))))) sr
noncomputable abbrev eJ:Stmt:=top 9
theorem kQ:VS (ah eJ) kJ ["range","tuple"]:=⟨by decide+kernel⟩
theorem wC:bb kJ ["n","place"] (ah eJ):=⟨rfl,rfl,rfl,by decide+kernel,rfl,by decide+kernel,by decide+kernel⟩
theorem wF{f:Addr}{fd:FuncData}(B:Bl mg)(Q:Kl K mg)(F:aC K mg "unit_row" "unit_row" eJ ["n","place"] f fd):
 ay P w K mg base aJ 1 f fd ["n","place"] (aK jD):=
 cz (N:=kJ) F.fn wC (fun cdv A outer s H E hr=>(aA (bf (f_ fu (ab (fj (Nc:=["k","place"]) (bT.look (ah eJ) ["n","place"] (by decide+kernel)) (dO (kQ.g 0) B.dB (ab (kQ.nm 0) aj)) (fun _ _ _ _=>(d4 (show(["k","place"]:List Str).Nodup by decide+kernel) (by first|exact Or.inl rfl|exact Or.inr rfl) (by first|exact .inl rfl|exact .inr rfl))) (fun _ _ _ _=>cU) (fun _ _ _ _=>(yl (cY (kD hr) (cF _) eR eR) aw aw)) di) aj) B.d7 rfl du (kQ.d 1) (kQ.g 1))))) wZ
noncomputable abbrev dU:Stmt:=top 10
theorem kb:VS (ah dU) j8 ["range","tuple"]:=⟨by decide+kernel⟩
theorem uR:bb j8 ["n"] (ah dU):=⟨rfl,rfl,rfl,by decide+kernel,rfl,by decide+kernel,by decide+kernel⟩
theorem vR{f:Addr}{fd:FuncData}(B:Bl mg)(Q:Kl K mg)(F:aC K mg "unit_rows" "unit_rows" dU ["n"] f fd){a_unit_row:Addr}{d_unit_row:FuncData}(D_unit_row:aC K mg "unit_row" "unit_row" eJ ["n","place"] a_unit_row d_unit_row)(G_unit_row:ay P w K mg base aJ 1 a_unit_row d_unit_row ["n","place"] (aK jD)):
 ay P w K mg base aJ 2 f fd ["n"] (aK hV):=
 cz (N:=j8) F.fn uR (fun cdv A outer s H E hr=>(aA (bf (f_ fu (ab (fj (Nc:=["place","n"]) (bT.look (ah dU) ["n"] (by decide+kernel)) (dO (kb.g 0) B.dB (ab (kb.nm 0) aj)) (fun _ _ _ _=>(d4 (show(["place","n"]:List Str).Nodup by decide+kernel) (by first|exact Or.inl rfl|exact Or.inr rfl) (by first|exact .inl rfl|exact .inr rfl))) (fun _ _ _ _=>cU) (fun _ _ _ _=>(cn D_unit_row G_unit_row (hr.mono (by decide)) (ab eR (ab eR aj)) (by decide+kernel) rfl)) di) aj) B.d7 rfl du (kb.d 1) (kb.g 1))))) vm
noncomputable abbrev jt:Stmt:=top 11
theorem q_:VS (ah jt) uz ["zip","sum"]:=⟨by decide+kernel⟩
theorem Gq:bb uz ["one","other"] (ah jt):=⟨rfl,rfl,rfl,by decide+kernel,rfl,by decide+kernel,by decide+kernel⟩
theorem Gg{f:Addr}{fd:FuncData}(B:Bl mg)(Q:Kl K mg)(F:aC K mg "dot" "dot" jt ["one","other"] f fd):
 ay P w K mg base aJ 1 f fd ["one","other"] (aK nP):=
 cz (N:=uz) F.fn Gq (fun cdv A outer s H E hr=>(aA (bf (eS (CK rfl) (ab (fj (Nc:=["left","right"]) (bT.look (ah jt) ["one","other"] (by decide+kernel)) (pN (q_.g 0) B.nI (ab (q_.nm 0) (ab (q_.nm 1) aj))) (fun _ _ _ _=>(nO rfl (show(["left","right"]:List Str).Nodup by decide+kernel) (by first|exact Or.inl rfl|exact Or.inr rfl) (by first|exact .inl rfl|exact .inr rfl) (by first|exact Or.inl rfl|exact Or.inr rfl) (by first|exact .inl rfl|exact .inr rfl))) (fun _ _ _ _=>cU) (fun _ _ _ _=>(aB cy eR eR)) pQ) aj) B.CH rfl Aw (q_.d 1) (q_.g 1))))) zS
noncomputable abbrev fG:Stmt:=top 13
theorem dQ:VS (ah fG) mi ["zip"]:=⟨by decide+kernel⟩
theorem jJ:bb mi ["together","table","one","other"] (ah fG):=⟨rfl,rfl,rfl,by decide+kernel,rfl,by decide+kernel,by decide+kernel⟩
theorem yD{f:Addr}{fd:FuncData}(B:Bl mg)(Q:Kl K mg)(F:aC K mg "cleared" "cleared" fG ["together","table","one","other"] f fd):
 ay P w K mg base aJ 1 f fd ["together","table","one","other"] (aK jn):=
 cz (N:=mi) F.fn jJ (fun cdv A outer s H E hr=>(aq (aY jJ.nd (dQ.l 4) aw)
  (aq (fA (FT (dQ.g 0) B.nI (ab (dQ.nm 1) (ab (dQ.nm 2) (ab (dQ.nm 3) aj)))) (CN rfl jJ.nd (by first|exact Or.inl rfl|exact Or.inr rfl) (by first|exact .inl rfl|exact .inr rfl) (by first|exact Or.inl rfl|exact Or.inr rfl) (by first|exact .inl rfl|exact .inr rfl) (by first|exact Or.inl rfl|exact Or.inr rfl) (by first|exact .inl rfl|exact .inr rfl)) (aq (aY jJ.nd (dQ.l 0) (aB lL (aB dR (aB cy (bG (dQ.nm 5) (kG aw)) (dQ.nm 0)) (aB cy (dQ.nm 6) (dQ.nm 7))) (dQ.nm 4)))
  (aA (aY jJ.nd (dQ.l 4) (bG (dQ.nm 5) (kG aw))))))
  (aA (bf (dQ.nm 0)))))) yK
noncomputable abbrev fF:Stmt:=top 14
theorem bE:VS (ah fF) mE ["zip","dot","cleared"]:=⟨by decide+kernel⟩
theorem nu:bb mE ["table","steps","row"] (ah fF):=⟨rfl,rfl,rfl,by decide+kernel,rfl,by decide+kernel,by decide+kernel⟩
theorem yC{f:Addr}{fd:FuncData}(B:Bl mg)(Q:Kl K mg)(F:aC K mg "line_of" "line_of" fF ["table","steps","row"] f fd){a_dot:Addr}{d_dot:FuncData}(D_dot:aC K mg "dot" "dot" jt ["one","other"] a_dot d_dot)(G_dot:ay P w K mg base aJ 1 a_dot d_dot ["one","other"] (aK nP)){a_cleared:Addr}{d_cleared:FuncData}(D_cleared:aC K mg "cleared" "cleared" fG ["together","table","one","other"] a_cleared d_cleared)(G_cleared:ay P w K mg base aJ 1 a_cleared d_cleared ["together","table","one","other"] (aK jn)):
 ay P w K mg base aJ 2 f fd ["table","steps","row"] (aK kl):=
 cz (N:=mE) F.fn nu (fun cdv A outer s H E hr=>(aq (aY nu.nd (bE.l 3) (l_ aj))
  (aq (fA (pN (bE.g 0) B.nI (ab (bE.nm 0) (ab (bE.nm 1) aj))) (nO rfl nu.nd (by first|exact Or.inl rfl|exact Or.inr rfl) (by first|exact .inl rfl|exact .inr rfl) (by first|exact Or.inl rfl|exact Or.inr rfl) (by first|exact .inl rfl|exact .inr rfl)) (aA (fJ (iC (bE.nm 3) (cn D_cleared G_cleared (hr.mono (by decide)) (ab (cn D_dot G_dot (hr.mono (by decide)) (ab (bE.nm 2) (ab (bE.nm 5) aj)) (bE.d 1) (bE.g 1)) (ab (bE.nm 0) (ab (bE.nm 3) (ab (bE.nm 4) aj)))) (bE.d 2) (bE.g 2))))))
  (aq (fJ (iC (bE.nm 3) (cn D_cleared G_cleared (hr.mono (by decide)) (ab (cn D_dot G_dot (hr.mono (by decide)) (ab (bE.nm 2) (ab (bE.nm 2) aj)) (bE.d 1) (bE.g 1)) (ab (bE.nm 0) (ab (bE.nm 3) (ab (bE.nm 3) aj)))) (bE.d 2) (bE.g 2))))
  (aA (bf (bE.nm 3))))))) yk
noncomputable abbrev e_:Stmt:=top 15
theorem dY:VS (ah e_) kM ["line_of"]:=⟨by decide+kernel⟩
theorem kf:bb kM ["steps"] (ah e_):=⟨rfl,rfl,rfl,by decide+kernel,rfl,by decide+kernel,by decide+kernel⟩
theorem wH{f:Addr}{fd:FuncData}(B:Bl mg)(Q:Kl K mg)(F:aC K mg "table_of" "table_of" e_ ["steps"] f fd){a_line_of:Addr}{d_line_of:FuncData}(D_line_of:aC K mg "line_of" "line_of" fF ["table","steps","row"] a_line_of d_line_of)(G_line_of:ay P w K mg base aJ 2 a_line_of d_line_of ["table","steps","row"] (aK kl)):
 ay P w K mg base aJ 3 f fd ["steps"] (aK jE):=
 cz (N:=kM) F.fn kf (fun cdv A outer s H E hr=>(aq (aY kf.nd (dY.l 1) (l_ aj))
  (aq (fA (i_ (dY.nm 0)) (d4 kf.nd (by first|exact Or.inl rfl|exact Or.inr rfl) (by first|exact .inl rfl|exact .inr rfl)) (aq (aY kf.nd (dY.l 3) (cn D_line_of G_line_of (hr.mono (by decide)) (ab (dY.nm 1) (ab (dY.nm 0) (ab (dY.nm 2) aj))) (dY.d 0) (dY.g 0)))
  (aq (eO (cY (kD hr) (cF _) (bG (dY.nm 3) (kG aw)) aw) (aA BO) dM)
  (aA (fJ (iC (dY.nm 1) (dY.nm 3)))))))
  (aA (bf (dY.nm 1)))))) wL
noncomputable abbrev cu:Stmt:=top 17
theorem ie:VS (ah cu) gk []:=⟨by decide+kernel⟩
theorem n_:bb gk ["top","bottom"] (ah cu):=⟨rfl,rfl,rfl,by decide+kernel,rfl,by decide+kernel,by decide+kernel⟩
theorem oa{f:Addr}{fd:FuncData}(B:Bl mg)(Q:Kl K mg)(F:aC K mg "nearest_quotient" "nearest_quotient" cu ["top","bottom"] f fd):
 ay P w K mg base aJ 1 f fd ["top","bottom"] (aK fg):=
 cz (N:=gk) F.fn n_ (fun cdv A outer s H E hr=>(aA (bf (aB lL (aB dc (aB cy aw (ie.nm 0)) (ie.nm 1)) (aB cy aw (ie.nm 1)))))) nY
noncomputable abbrev eh:Stmt:=top 18
theorem de:VS (ah eh) j_ ["list"]:=⟨by decide+kernel⟩
theorem oi:bb j_ ["rows","k","other"] (ah eh):=⟨rfl,rfl,rfl,by decide+kernel,rfl,by decide+kernel,by decide+kernel⟩
theorem vG{f:Addr}{fd:FuncData}(B:Bl mg)(Q:Kl K mg)(F:aC K mg "exchanged" "exchanged" eh ["rows","k","other"] f fd):
 ay P w K mg base aJ 1 f fd ["rows","k","other"] (aK gv):=
 cz (N:=j_) F.fn oi (fun cdv A outer s H E hr=>(aq (aY oi.nd (de.l 3) (f_ EM (ab (de.nm 0) aj) B.m_ rfl kW (de.d 0) (de.g 0)))
  (aq (gN (bG (de.nm 0) (de.nm 2)) (de.nm 3) (de.nm 1))
  (aq (gN (bG (de.nm 0) (de.nm 1)) (de.nm 3) (de.nm 2))
  (aA (bf (de.nm 3))))))) vP
noncomputable abbrev bM:Stmt:=inClass (top 19) 0
theorem bC:VS (ah bM) gS ["len","unit_rows"]:=⟨by decide+kernel⟩
theorem pZ:bb gS ["self","rows"] (ah bM):=⟨rfl,rfl,rfl,by decide+kernel,rfl,by decide+kernel,by decide+kernel⟩
theorem p8{f:Addr}{fd:FuncData}(B:Bl mg)(Q:Kl K mg)(F:MethAt K az "__init__" "Bench.__init__" bM ["self","rows"] f fd){a_unit_rows:Addr}{d_unit_rows:FuncData}(D_unit_rows:aC K mg "unit_rows" "unit_rows" dU ["n"] a_unit_rows d_unit_rows)(G_unit_rows:ay P w K mg base aJ 2 a_unit_rows d_unit_rows ["n"] (aK hV)):
 ay P w K mg base aJ 3 f fd ["self","rows"] (aK fT):=
 cz (N:=gS) F.fn pZ (fun cdv A outer s H E hr=>(aq (jo Q.cA.cl Q.eE (bC.nm 0) (sY (Nc:=["row"]) (bT.look (ah bM) ["self","rows"] (by decide+kernel)) (i_ (bC.nm 1)) (fun _ _ _ _=>(d4 (show(["row"]:List Str).Nodup by decide+kernel) (by first|exact Or.inl rfl|exact Or.inr rfl) (by first|exact .inl rfl|exact .inr rfl))) (fun _ _ _ _=>cU) (fun _ _ _ _=>(f_ o9 (ab eR aj) B.m_ rfl kW (by decide+kernel) rfl)) di))
  (aq (jo Q.cA.cl Q.eH (bC.nm 0) (sY (Nc:=["row"]) (bT.look (ah bM) ["self","rows"] (by decide+kernel)) (i_ (cn D_unit_rows G_unit_rows (hr.mono (by decide)) (ab (eS gP (ab (bC.nm 1) aj) B.gM rfl fM (bC.d 0) (bC.g 0)) aj) (bC.d 1) (bC.g 1))) (fun _ _ _ _=>(d4 (show(["row"]:List Str).Nodup by decide+kernel) (by first|exact Or.inl rfl|exact Or.inr rfl) (by first|exact .inl rfl|exact .inr rfl))) (fun _ _ _ _=>cU) (fun _ _ _ _=>(f_ o9 (ab eR aj) B.m_ rfl kW (by decide+kernel) rfl)) di))
  (aA (jo Q.cA.cl Q.cp (bC.nm 0) (sY (Nc:=["row"]) (bT.look (ah bM) ["self","rows"] (by decide+kernel)) (i_ (cn D_unit_rows G_unit_rows (hr.mono (by decide)) (ab (eS gP (ab (bC.nm 1) aj) B.gM rfl fM (bC.d 0) (bC.g 0)) aj) (bC.d 1) (bC.g 1))) (fun _ _ _ _=>(d4 (show(["row"]:List Str).Nodup by decide+kernel) (by first|exact Or.inl rfl|exact Or.inr rfl) (by first|exact .inl rfl|exact .inr rfl))) (fun _ _ _ _=>cU) (fun _ _ _ _=>(f_ o9 (ab eR aj) B.m_ rfl kW (by decide+kernel) rfl)) di)))))) p7
noncomputable abbrev dW:Stmt:=inClass (top 19) 1
theorem aT:VS (ah dW) jx ["added"]:=⟨by decide+kernel⟩
theorem t_:bb jx ["self","k","times","other"] (ah dW):=⟨rfl,rfl,rfl,by decide+kernel,rfl,by decide+kernel,by decide+kernel⟩
theorem ui{f:Addr}{fd:FuncData}(B:Bl mg)(Q:Kl K mg)(F:MethAt K az "take" "Bench.take" dW ["self","k","times","other"] f fd){a_added:Addr}{d_added:FuncData}(D_added:aC K mg "added" "added" gD ["row","times","other"] a_added d_added)(G_added:ay P w K mg base aJ 1 a_added d_added ["row","times","other"] (aK jZ)):
 ay P w K mg base aJ 2 f fd ["self","k","times","other"] (aK iE):=
 cz (N:=jx) F.fn t_ (fun cdv A outer s H E hr=>(aq (gN (cn D_added G_added (hr.mono (by decide)) (ab (bG (cN Q.cA.cl Q.eE (aT.nm 0)) (aT.nm 1)) (ab (kG (aT.nm 2)) (ab (bG (cN Q.cA.cl Q.eE (aT.nm 0)) (aT.nm 3)) aj))) (aT.d 0) (aT.g 0)) (cN Q.cA.cl Q.eE (aT.nm 0)) (aT.nm 1))
  (aq (gN (cn D_added G_added (hr.mono (by decide)) (ab (bG (cN Q.cA.cl Q.eH (aT.nm 0)) (aT.nm 1)) (ab (kG (aT.nm 2)) (ab (bG (cN Q.cA.cl Q.eH (aT.nm 0)) (aT.nm 3)) aj))) (aT.d 0) (aT.g 0)) (cN Q.cA.cl Q.eH (aT.nm 0)) (aT.nm 1))
  (aA (gN (cn D_added G_added (hr.mono (by decide)) (ab (bG (cN Q.cA.cl Q.cp (aT.nm 0)) (aT.nm 3)) (ab (aT.nm 2) (ab (bG (cN Q.cA.cl Q.cp (aT.nm 0)) (aT.nm 1)) aj))) (aT.d 0) (aT.g 0)) (cN Q.cA.cl Q.cp (aT.nm 0)) (aT.nm 3)))))) uf
noncomputable abbrev cK:Stmt:=inClass (top 19) 2
theorem ba:VS (ah cK) gW ["exchanged"]:=⟨by decide+kernel⟩
theorem pW:bb gW ["self","k","other"] (ah cK):=⟨rfl,rfl,rfl,by decide+kernel,rfl,by decide+kernel,by decide+kernel⟩
theorem qb{f:Addr}{fd:FuncData}(B:Bl mg)(Q:Kl K mg)(F:MethAt K az "exchange" "Bench.exchange" cK ["self","k","other"] f fd){a_exchanged:Addr}{d_exchanged:FuncData}(D_exchanged:aC K mg "exchanged" "exchanged" eh ["rows","k","other"] a_exchanged d_exchanged)(G_exchanged:ay P w K mg base aJ 1 a_exchanged d_exchanged ["rows","k","other"] (aK gv)):
 ay P w K mg base aJ 2 f fd ["self","k","other"] (aK fW):=
 cz (N:=gW) F.fn pW (fun cdv A outer s H E hr=>(aq (jo Q.cA.cl Q.eE (ba.nm 0) (cn D_exchanged G_exchanged (hr.mono (by decide)) (ab (cN Q.cA.cl Q.eE (ba.nm 0)) (ab (ba.nm 1) (ab (ba.nm 2) aj))) (ba.d 0) (ba.g 0)))
  (aq (jo Q.cA.cl Q.eH (ba.nm 0) (cn D_exchanged G_exchanged (hr.mono (by decide)) (ab (cN Q.cA.cl Q.eH (ba.nm 0)) (ab (ba.nm 1) (ab (ba.nm 2) aj))) (ba.d 0) (ba.g 0)))
  (aA (jo Q.cA.cl Q.cp (ba.nm 0) (cn D_exchanged G_exchanged (hr.mono (by decide)) (ab (cN Q.cA.cl Q.cp (ba.nm 0)) (ab (ba.nm 1) (ab (ba.nm 2) aj))) (ba.d 0) (ba.g 0))))))) p9
noncomputable abbrev cD:Stmt:=inClass (top 21) 0
theorem dh:VS (ah cD) gA ["Bench","table_of"]:=⟨by decide+kernel⟩
theorem o_:bb gA ["self","steps"] (ah cD):=⟨rfl,rfl,rfl,by decide+kernel,rfl,by decide+kernel,by decide+kernel⟩
theorem oR{f:Addr}{fd:FuncData}(B:Bl mg)(Q:Kl K mg)(F:MethAt K av "__init__" "Stairs.__init__" cD ["self","steps"] f fd){a_Bench___init__:Addr}{d_Bench___init__:FuncData}(D_Bench___init__:MethAt K az "__init__" "Bench.__init__" bM ["self","rows"] a_Bench___init__ d_Bench___init__)(G_Bench___init__:ay P w K mg base aJ 3 a_Bench___init__ d_Bench___init__ ["self","rows"] (aK fT)){a_table_of:Addr}{d_table_of:FuncData}(D_table_of:aC K mg "table_of" "table_of" e_ ["steps"] a_table_of d_table_of)(G_table_of:ay P w K mg base aJ 3 a_table_of d_table_of ["steps"] (aK jE)):
 ay P w K mg base aJ 5 f fd ["self","steps"] (aK fz):=
 cz (N:=gA) F.fn o_ (fun cdv A outer s H E hr=>(aq (jo Q.bh.cl Q.fL (dh.nm 0) (AV ⟨Q.cA.Kr,D_Bench___init__.me.at_,D_Bench___init__.me.fn,Q.cA.kp⟩ G_Bench___init__ (hr.mono (by decide)) (dh.g 0) Q.cA.mg D_Bench___init__.bd (ab (dh.nm 1) aj) (dh.d 0)))
  (aA (jo Q.bh.cl Q.br (dh.nm 0) (cn D_table_of G_table_of (hr.mono (by decide)) (ab (dh.nm 1) aj) (dh.d 1) (dh.g 1)))))) oj
noncomputable abbrev cx:Stmt:=inClass (top 21) 1
theorem gZ:VS (ah cx) gR []:=⟨by decide+kernel⟩
theorem p6:bb gR ["self","k"] (ah cx):=⟨rfl,rfl,rfl,by decide+kernel,rfl,by decide+kernel,by decide+kernel⟩
theorem pY{f:Addr}{fd:FuncData}(B:Bl mg)(Q:Kl K mg)(F:MethAt K av "last_of" "Stairs.last_of" cx ["self","k"] f fd):
 ay P w K mg base aJ 1 f fd ["self","k"] (aK cw):=
 cz (N:=gR) F.fn p6 (fun cdv A outer s H E hr=>(aA (bf (yl (cY GW (cF _) (gZ.nm 1) aw) (bG (bG (cN Q.bh.cl Q.br (gZ.nm 0)) (gZ.nm 1)) (gZ.nm 1)) aw)))) pU
noncomputable abbrev cR:Stmt:=inClass (top 21) 2
theorem aN:VS (ah cR) hZ ["nearest_quotient","range"]:=⟨by decide+kernel⟩
theorem jg:bb hZ ["self","k","j"] (ah cR):=⟨rfl,rfl,rfl,by decide+kernel,rfl,by decide+kernel,by decide+kernel⟩
theorem qT{f:Addr}{fd:FuncData}(B:Bl mg)(Q:Kl K mg)(F:MethAt K av "lessen" "Stairs.lessen" cR ["self","k","j"] f fd){a_nearest_quotient:Addr}{d_nearest_quotient:FuncData}(D_nearest_quotient:aC K mg "nearest_quotient" "nearest_quotient" cu ["top","bottom"] a_nearest_quotient d_nearest_quotient)(G_nearest_quotient:ay P w K mg base aJ 1 a_nearest_quotient d_nearest_quotient ["top","bottom"] (aK fg)){a_Bench_take:Addr}{d_Bench_take:FuncData}(D_Bench_take:MethAt K az "take" "Bench.take" dW ["self","k","times","other"] a_Bench_take d_Bench_take)(G_Bench_take:ay P w K mg base aJ 2 a_Bench_take d_Bench_take ["self","k","times","other"] (aK iE)):
 ay P w K mg base aJ 3 f fd ["self","k","j"] (aK ft):=
 cz (N:=hZ) F.fn jg (fun cdv A outer s H E hr=>(aq (aY jg.nd (aN.l 3) (cn D_nearest_quotient G_nearest_quotient (hr.mono (by decide)) (ab (bG (bG (cN Q.bh.cl Q.br (aN.nm 0)) (aN.nm 1)) (aN.nm 2)) (ab (bG (bG (cN Q.bh.cl Q.br (aN.nm 0)) (aN.nm 2)) (aN.nm 2)) aj)) (aN.d 0) (aN.g 0)))
  (aq (eO (cY (kD hr) (cF _) (aN.nm 3) aw) (aA EN) dM)
  (aq (fJ (g8 (cN Q.bh.cl Q.fL (aN.nm 0)) Q.cA.cl D_Bench_take.me G_Bench_take (hr.mono (by decide)) D_Bench_take.bd (ab (aN.nm 1) (ab (aN.nm 3) (ab (aN.nm 2) aj)))))
  (aA (fA (dO (aN.g 1) B.dB (ab (aB dc (aN.nm 2) aw) aj)) (d4 jg.nd (by first|exact Or.inl rfl|exact Or.inr rfl) (by first|exact .inl rfl|exact .inr rfl)) (aA (BJ (bG (cN Q.bh.cl Q.br (aN.nm 0)) (aN.nm 1)) (aN.nm 4) (aB cy (aN.nm 3) (bG (bG (cN Q.bh.cl Q.br (aN.nm 0)) (aN.nm 2)) (aN.nm 4))) HX)))))))) qR
noncomputable abbrev cE:Stmt:=inClass (top 21) 3
theorem bp:VS (ah cE) gB []:=⟨by decide+kernel⟩
theorem iq:bb gB ["self","k"] (ah cE):=⟨rfl,rfl,rfl,by decide+kernel,rfl,by decide+kernel,by decide+kernel⟩
theorem ow{f:Addr}{fd:FuncData}(B:Bl mg)(Q:Kl K mg)(F:MethAt K av "is_steep" "Stairs.is_steep" cE ["self","k"] f fd){a_Stairs_last_of:Addr}{d_Stairs_last_of:FuncData}(D_Stairs_last_of:MethAt K av "last_of" "Stairs.last_of" cx ["self","k"] a_Stairs_last_of d_Stairs_last_of)(G_Stairs_last_of:ay P w K mg base aJ 1 a_Stairs_last_of d_Stairs_last_of ["self","k"] (aK cw)):
 ay P w K mg base aJ 2 f fd ["self","k"] (aK fC):=
 cz (N:=gB) F.fn iq (fun cdv A outer s H E hr=>(aq (aY iq.nd (bp.l 2) (bG (bG (cN Q.bh.cl Q.br (bp.nm 0)) (bp.nm 1)) (aB dR (bp.nm 1) aw)))
  (aq (aY iq.nd (bp.l 3) (g8 (bp.nm 0) Q.bh.cl D_Stairs_last_of.me G_Stairs_last_of (hr.mono (by decide)) D_Stairs_last_of.bd (ab (aB dR (bp.nm 1) aw) aj)))
  (aA (bf (yZ yT (cF _) (aB cy aw (aB dc (aB cy (g8 (bp.nm 0) Q.bh.cl D_Stairs_last_of.me G_Stairs_last_of (hr.mono (by decide)) D_Stairs_last_of.bd (ab (bp.nm 1) aj)) (g8 (bp.nm 0) Q.bh.cl D_Stairs_last_of.me G_Stairs_last_of (hr.mono (by decide)) D_Stairs_last_of.bd (ab (aB dR (bp.nm 1) aw) aj))) (aB cy (bp.nm 2) (bp.nm 2)))) (aB cy (aB cy aw (bp.nm 3)) (bp.nm 3)))))))) oh
noncomputable abbrev dy:Stmt:=inClass (top 21) 4
theorem ai:VS (ah dy) i6 ["len","range"]:=⟨by decide+kernel⟩
theorem dg:bb i6 ["self","k"] (ah dy):=⟨rfl,rfl,rfl,by decide+kernel,rfl,by decide+kernel,by decide+kernel⟩
theorem sZ{f:Addr}{fd:FuncData}(B:Bl mg)(Q:Kl K mg)(F:MethAt K av "swap" "Stairs.swap" dy ["self","k"] f fd){a_Bench_exchange:Addr}{d_Bench_exchange:FuncData}(D_Bench_exchange:MethAt K az "exchange" "Bench.exchange" cK ["self","k","other"] a_Bench_exchange d_Bench_exchange)(G_Bench_exchange:ay P w K mg base aJ 2 a_Bench_exchange d_Bench_exchange ["self","k","other"] (aK fW)){a_Stairs_last_of:Addr}{d_Stairs_last_of:FuncData}(D_Stairs_last_of:MethAt K av "last_of" "Stairs.last_of" cx ["self","k"] a_Stairs_last_of d_Stairs_last_of)(G_Stairs_last_of:ay P w K mg base aJ 1 a_Stairs_last_of d_Stairs_last_of ["self","k"] (aK cw)):
 ay P w K mg base aJ 3 f fd ["self","k"] (aK g4):=
 cz (N:=i6) F.fn dg (fun cdv A outer s H E hr=>(aq (fJ (g8 (cN Q.bh.cl Q.fL (ai.nm 0)) Q.cA.cl D_Bench_exchange.me G_Bench_exchange (hr.mono (by decide)) D_Bench_exchange.bd (ab (ai.nm 1) (ab (aB dR (ai.nm 1) aw) aj))))
  (aq (aY dg.nd (ai.l 2) (bG (bG (cN Q.bh.cl Q.br (ai.nm 0)) (ai.nm 1)) (aB dR (ai.nm 1) aw)))
  (aq (aY dg.nd (ai.l 3) (g8 (ai.nm 0) Q.bh.cl D_Stairs_last_of.me G_Stairs_last_of (hr.mono (by decide)) D_Stairs_last_of.bd (ab (ai.nm 1) aj)))
  (aq (aY dg.nd (ai.l 4) (g8 (ai.nm 0) Q.bh.cl D_Stairs_last_of.me G_Stairs_last_of (hr.mono (by decide)) D_Stairs_last_of.bd (ab (aB dR (ai.nm 1) aw) aj)))
  (aq (aY dg.nd (ai.l 5) (aB lL (aB dc (aB cy (g8 (ai.nm 0) Q.bh.cl D_Stairs_last_of.me G_Stairs_last_of (hr.mono (by decide)) D_Stairs_last_of.bd (ab (aB dR (ai.nm 1) aw) aj)) (ai.nm 3)) (aB cy (ai.nm 2) (ai.nm 2))) (ai.nm 4)))
  (aq (aY dg.nd (ai.l 6) (mR (bG (cN Q.bh.cl Q.br (ai.nm 0)) (ai.nm 1)) pD (kX (aB dR (ai.nm 1) aw))))
  (aq (gN (aB wm (mR (bG (cN Q.bh.cl Q.br (ai.nm 0)) (aB dR (ai.nm 1) aw)) pD (kX (aB dR (ai.nm 1) aw))) (mF (ab (ai.nm 2) (ab (ai.nm 3) aj)))) (cN Q.bh.cl Q.br (ai.nm 0)) (ai.nm 1))
  (aq (gN (aB wm (ai.nm 6) (mF (ab (ai.nm 5) aj))) (cN Q.bh.cl Q.br (ai.nm 0)) (aB dR (ai.nm 1) aw))
  (aA (fA (vD (ai.g 1) B.dB (ab (aB dc (ai.nm 1) aw) (ab (eS gP (ab (cN Q.bh.cl Q.br (ai.nm 0)) aj) B.gM rfl fM (ai.d 0) (ai.g 0)) aj))) (d4 dg.nd (by first|exact Or.inl rfl|exact Or.inr rfl) (by first|exact .inl rfl|exact .inr rfl)) (aq (aY dg.nd (ai.l 8) (bG (cN Q.bh.cl Q.br (ai.nm 0)) (ai.nm 7)))
  (aq (aY dg.nd (ai.l 9) (aB lL (aB dR (aB cy (ai.nm 3) (bG (ai.nm 8) (aB dR (ai.nm 1) aw))) (aB cy (ai.nm 2) (bG (ai.nm 8) (ai.nm 1)))) (ai.nm 4)))
  (aq (aY dg.nd (ai.l 10) (aB lL (aB dc (aB cy (ai.nm 5) (bG (ai.nm 8) (ai.nm 1))) (aB cy (ai.nm 2) (ai.nm 9))) (ai.nm 3)))
  (aA (gN (aB wm (aB dc (mR (ai.nm 8) pD (kX (aB dR (ai.nm 1) aw))) (mF (ab (ai.nm 10) (ab (ai.nm 9) aj)))) (mR (ai.nm 8) (kX (aB dc (ai.nm 1) aw)) pD)) (cN Q.bh.cl Q.br (ai.nm 0)) (ai.nm 7))))))))))))))))) sA
noncomputable abbrev cL:Stmt:=inClass (top 21) 5
theorem aM:VS (ah cL) gO ["len","max","range"]:=⟨by decide+kernel⟩
theorem fx:bb gO ["self"] (ah cL):=⟨rfl,rfl,rfl,by decide+kernel,rfl,by decide+kernel,by decide+kernel⟩
theorem pS{f:Addr}{fd:FuncData}(B:Bl mg)(Q:Kl K mg)(F:MethAt K av "shorten" "Stairs.shorten" cL ["self"] f fd){a_Stairs_lessen:Addr}{d_Stairs_lessen:FuncData}(D_Stairs_lessen:MethAt K av "lessen" "Stairs.lessen" cR ["self","k","j"] a_Stairs_lessen d_Stairs_lessen)(G_Stairs_lessen:ay P w K mg base aJ 3 a_Stairs_lessen d_Stairs_lessen ["self","k","j"] (aK ft)){a_Stairs_is_steep:Addr}{d_Stairs_is_steep:FuncData}(D_Stairs_is_steep:MethAt K av "is_steep" "Stairs.is_steep" cE ["self","k"] a_Stairs_is_steep d_Stairs_is_steep)(G_Stairs_is_steep:ay P w K mg base aJ 2 a_Stairs_is_steep d_Stairs_is_steep ["self","k"] (aK fC)){a_Stairs_swap:Addr}{d_Stairs_swap:FuncData}(D_Stairs_swap:MethAt K av "swap" "Stairs.swap" dy ["self","k"] a_Stairs_swap d_Stairs_swap)(G_Stairs_swap:ay P w K mg base aJ 3 a_Stairs_swap d_Stairs_swap ["self","k"] (aK g4)):
 ay P w K mg base aJ 4 f fd ["self"] (aK fR):=
 cz (N:=gO) F.fn fx (fun cdv A outer s H E hr=>(aq (aY fx.nd (aM.l 1) aw)
  (aA (BC (cY yT (cF _) (aM.nm 1) (eS gP (ab (cN Q.bh.cl Q.br (aM.nm 0)) aj) B.gM rfl fM (aM.d 0) (aM.g 0))) (aq (fJ (g8 (aM.nm 0) Q.bh.cl D_Stairs_lessen.me G_Stairs_lessen (hr.mono (by decide)) D_Stairs_lessen.bd (ab (aM.nm 1) (ab (aB dR (aM.nm 1) aw) aj))))
  (aA (eO (iY (g8 (aM.nm 0) Q.bh.cl D_Stairs_is_steep.me G_Stairs_is_steep (hr.mono (by decide)) D_Stairs_is_steep.bd (ab (aM.nm 1) aj))) (aq (fJ (g8 (aM.nm 0) Q.bh.cl D_Stairs_swap.me G_Stairs_swap (hr.mono (by decide)) D_Stairs_swap.bd (ab (aM.nm 1) aj)))
  (aA (aY fx.nd (aM.l 1) (eS (CY rfl) (ab aw (ab (aB dR (aM.nm 1) aw) aj)) B.Dd rfl Bb (aM.d 1) (aM.g 1))))) (aq (fA (Ca (aM.g 2) B.dB (ab (aB dR (aM.nm 1) aw) (ab (kG aw) (ab (kG aw) aj)))) (d4 fx.nd (by first|exact Or.inl rfl|exact Or.inr rfl) (by first|exact .inl rfl|exact .inr rfl)) (aA (fJ (g8 (aM.nm 0) Q.bh.cl D_Stairs_lessen.me G_Stairs_lessen (hr.mono (by decide)) D_Stairs_lessen.bd (ab (aM.nm 1) (ab (aM.nm 2) aj))))))
  (aA (HP fx.nd (aM.l 1) aw Gp)))))))))) pV
noncomputable abbrev g_:Stmt:=top 22
theorem dF:VS (ah g_) pE ["Stairs","len","turned_over","as_rows"]:=⟨by decide+kernel⟩
theorem qD:bb pE ["steps"] (ah g_):=⟨rfl,rfl,rfl,by decide+kernel,rfl,by decide+kernel,by decide+kernel⟩
theorem Cm{f:Addr}{fd:FuncData}(B:Bl mg)(Q:Kl K mg)(F:aC K mg "short" "short" g_ ["steps"] f fd){a_Stairs___init__:Addr}{d_Stairs___init__:FuncData}(D_Stairs___init__:MethAt K av "__init__" "Stairs.__init__" cD ["self","steps"] a_Stairs___init__ d_Stairs___init__)(G_Stairs___init__:ay P w K mg base aJ 5 a_Stairs___init__ d_Stairs___init__ ["self","steps"] (aK fz)){a_Stairs_shorten:Addr}{d_Stairs_shorten:FuncData}(D_Stairs_shorten:MethAt K av "shorten" "Stairs.shorten" cL ["self"] a_Stairs_shorten d_Stairs_shorten)(G_Stairs_shorten:ay P w K mg base aJ 4 a_Stairs_shorten d_Stairs_shorten ["self"] (aK fR)){a_turned_over:Addr}{d_turned_over:FuncData}(D_turned_over:aC K mg "turned_over" "turned_over" c_ ["rows","wide"] a_turned_over d_turned_over)(G_turned_over:ay P w K mg base aJ 2 a_turned_over d_turned_over ["rows","wide"] (aK g7)){a_as_rows:Addr}{d_as_rows:FuncData}(D_as_rows:aC K mg "as_rows" "as_rows" ff ["rows"] a_as_rows d_as_rows)(G_as_rows:ay P w K mg base aJ 1 a_as_rows d_as_rows ["rows"] (aK jq)):
 ay P w K mg base aJ 7 f fd ["steps"] (aK lh):=
 cz (N:=pE) F.fn qD (fun cdv A outer s H E hr=>(aq (aY qD.nd (dF.l 1) (AV ⟨Q.bh.Kr,D_Stairs___init__.me.at_,D_Stairs___init__.me.fn,Q.bh.kp⟩ G_Stairs___init__ (hr.mono (by decide)) (dF.g 0) Q.bh.mg D_Stairs___init__.bd (ab (dF.nm 0) aj) (dF.d 0)))
  (aq (fJ (Eu (dF.nm 1) Q.bh.cl D_Stairs_shorten.me G_Stairs_shorten (hr.mono (by decide)) D_Stairs_shorten.bd))
  (aq (aY qD.nd (dF.l 2) (cN Q.bh.cl Q.fL (dF.nm 1)))
  (aA (bf (Dz (ab (cn D_as_rows G_as_rows (hr.mono (by decide)) (ab (cN Q.cA.cl Q.eE (dF.nm 2)) aj) (dF.d 3) (dF.g 3)) (ab (cn D_as_rows G_as_rows (hr.mono (by decide)) (ab (cN Q.cA.cl Q.eH (dF.nm 2)) aj) (dF.d 3) (dF.g 3)) (ab (cn D_turned_over G_turned_over (hr.mono (by decide)) (ab (cN Q.cA.cl Q.cp (dF.nm 2)) (ab (eS gP (ab (dF.nm 0) aj) B.gM rfl fM (dF.d 1) (dF.g 1)) aj)) (dF.d 2) (dF.g 2)) aj)))))))))) Br
noncomputable abbrev gw:Stmt:=top 24
theorem j6:VS (ah gw) nB ["len"]:=⟨by decide+kernel⟩
theorem A9:bb nB ["_law_script","_law_k"] (ah gw):=⟨rfl,rfl,rfl,by decide+kernel,rfl,by decide+kernel,by decide+kernel⟩
theorem Ao{f:Addr}{fd:FuncData}(B:Bl mg)(Q:Kl K mg)(F:aC K mg "_law_at" "_law_at" gw ["_law_script","_law_k"] f fd):
 ay P w K mg base aJ 1 f fd ["_law_script","_law_k"] (aK lK):=
 cz (N:=nB) F.fn A9 (fun cdv A outer s H E hr=>(aq (eO (cY yT (cF _) (j6.nm 1) (eS gP (ab (j6.nm 0) aj) B.gM rfl fM (j6.d 0) (j6.g 0))) (aA (bf (bG (j6.nm 0) (j6.nm 1)))) dM)
  (aA (bf aw)))) z_
noncomputable abbrev fb:Stmt:=top 25
theorem bz:VS (ah fb) kH ["_law_at","abs","range"]:=⟨by decide+kernel⟩
theorem gr:bb kH ["_law_script","_law_k"] (ah fb):=⟨rfl,rfl,rfl,by decide+kernel,rfl,by decide+kernel,by decide+kernel⟩
theorem w4{f:Addr}{fd:FuncData}(B:Bl mg)(Q:Kl K mg)(F:aC K mg "_law_left" "_law_left" fb ["_law_script","_law_k"] f fd){a_law_at:Addr}{d_law_at:FuncData}(D_law_at:aC K mg "_law_at" "_law_at" gw ["_law_script","_law_k"] a_law_at d_law_at)(G_law_at:ay P w K mg base aJ 1 a_law_at d_law_at ["_law_script","_law_k"] (aK lK)):
 ay P w K mg base aJ 2 f fd ["_law_script","_law_k"] (aK jH):=
 cz (N:=kH) F.fn gr (fun cdv A outer s H E hr=>(aq (aY gr.nd (bz.l 2) (cn D_law_at G_law_at (hr.mono (by decide)) (ab (bz.nm 0) (ab (bz.nm 1) aj)) (bz.d 0) (bz.g 0)))
  (aq (eO (cY GW (cF _) (eS yf (ab (bz.nm 2) aj) B.yO rfl vo (bz.d 1) (bz.g 1)) (aB yE aw aw)) (aA (bf (l_ (ab (eS yf (ab (bz.nm 2) aj) B.yO rfl vo (bz.d 1) (bz.g 1)) aj)))) dM)
  (aq (aY gr.nd (bz.l 3) (aB lZ (aB cy (aB dc (aB dc (aB lZ (bz.nm 2) aw) (aB cy aw (bz.nm 1))) aw) aw) aw))
  (aq (aY gr.nd (bz.l 4) aw)
  (aq (fA (dO (bz.g 2) B.dB (ab aw aj)) (d4 gr.nd (by first|exact Or.inl rfl|exact Or.inr rfl) (by first|exact .inl rfl|exact .inr rfl)) (aq (aY gr.nd (bz.l 3) (aB lZ (aB dc (aB dc (aB cy (bz.nm 3) (bz.nm 3)) (aB cy aw (bz.nm 5))) aw) aw))
  (aA (aY gr.nd (bz.l 4) (aB dc (aB cy (bz.nm 4) aw) (bz.nm 3))))))
  (aA (bf (l_ (ab (bz.nm 4) aj)))))))))) wY
noncomputable abbrev df:Stmt:=top 26
theorem gu:VS (ah df) j7 []:=⟨by decide+kernel⟩
theorem oo:bb j7 ["_law_left_here","_law_many"] (ah df):=⟨rfl,rfl,rfl,by decide+kernel,rfl,by decide+kernel,by decide+kernel⟩
theorem wg{f:Addr}{fd:FuncData}(B:Bl mg)(Q:Kl K mg)(F:aC K mg "_law_digit" "_law_digit" df ["_law_left_here","_law_many"] f fd):
 ay P w K mg base aJ 1 f fd ["_law_left_here","_law_many"] (aK b_):=
 cz (N:=j7) F.fn oo (fun cdv A outer s H E hr=>(aq (aY oo.nd (gu.l 2) (aB lZ (bG (gu.nm 0) aw) (gu.nm 1)))
  (aq (gN (aB lL (bG (gu.nm 0) aw) (gu.nm 1)) (gu.nm 0) aw)
  (aA (bf (gu.nm 2)))))) v_
noncomputable abbrev dv:Stmt:=top 27
theorem bH:VS (ah dv) jO ["_law_digit"]:=⟨by decide+kernel⟩
theorem nU:bb jO ["_law_left_here","_law_kind"] (ah dv):=⟨rfl,rfl,rfl,by decide+kernel,rfl,by decide+kernel,by decide+kernel⟩
theorem uh{f:Addr}{fd:FuncData}(B:Bl mg)(Q:Kl K mg)(F:aC K mg "_law_number" "_law_number" dv ["_law_left_here","_law_kind"] f fd){a_law_digit:Addr}{d_law_digit:FuncData}(D_law_digit:aC K mg "_law_digit" "_law_digit" df ["_law_left_here","_law_many"] a_law_digit d_law_digit)(G_law_digit:ay P w K mg base aJ 1 a_law_digit d_law_digit ["_law_left_here","_law_many"] (aK b_)):
 ay P w K mg base aJ 2 f fd ["_law_left_here","_law_kind"] (aK fi):=
 cz (N:=jO) F.fn nU (fun cdv A outer s H E hr=>(aq (eO (cY (kD hr) (cF _) (bH.nm 1) aw) (aA (bf (aB dc (aB dR (cn D_law_digit G_law_digit (hr.mono (by decide)) (ab (bH.nm 0) (ab (aB dR (aB cy aw (aB yE aw aw)) aw) aj)) (bH.d 0) (bH.g 0)) (aB yE aw aw)) aw))) dM)
  (aq (eO (nr (HU (cY (kD hr) (cF _) (bH.nm 1) aw) (Fc (cY (kD hr) (cF _) (cn D_law_digit G_law_digit (hr.mono (by decide)) (ab (bH.nm 0) (ab aw aj)) (bH.d 0) (bH.g 0)) aw)))) (aA (bf (aB dR (cn D_law_digit G_law_digit (hr.mono (by decide)) (ab (bH.nm 0) (ab aw aj)) (bH.d 0) (bH.g 0)) aw))) dM)
  (aq (aY nU.nd (bH.l 2) (bG (mF (ab aw (ab aw (ab aw (ab aw (ab aw aj)))))) (bH.nm 1)))
  (aA (bf (aB dR (cn D_law_digit G_law_digit (hr.mono (by decide)) (ab (bH.nm 0) (ab (aB dc (aB cy aw (bH.nm 2)) aw) aj)) (bH.d 0) (bH.g 0)) (bH.nm 2)))))))) uk
noncomputable abbrev eG:Stmt:=top 28
theorem kI:VS (ah eG) kK ["range","tuple"]:=⟨by decide+kernel⟩
theorem wO:bb kK ["_law_left_here","_law_many","_law_wide","_law_kind"] (ah eG):=⟨rfl,rfl,rfl,by decide+kernel,rfl,by decide+kernel,by decide+kernel⟩
theorem wW{f:Addr}{fd:FuncData}(B:Bl mg)(Q:Kl K mg)(F:aC K mg "_law_rows" "_law_rows" eG ["_law_left_here","_law_many","_law_wide","_law_kind"] f fd){a_law_number:Addr}{d_law_number:FuncData}(D_law_number:aC K mg "_law_number" "_law_number" dv ["_law_left_here","_law_kind"] a_law_number d_law_number)(G_law_number:ay P w K mg base aJ 2 a_law_number d_law_number ["_law_left_here","_law_kind"] (aK fi)):
 ay P w K mg base aJ 3 f fd ["_law_left_here","_law_many","_law_wide","_law_kind"] (aK gT):=
 cz (N:=kK) F.fn wO (fun cdv A outer s H E hr=>(aA (bf (f_ fu (ab (fj (Nc:=["_law_j","_law_wide","_law_left_here","_law_kind"]) (bT.look (ah eG) ["_law_left_here","_law_many","_law_wide","_law_kind"] (by decide+kernel)) (dO (kI.g 0) B.dB (ab (kI.nm 1) aj)) (fun _ _ _ _=>(d4 (show(["_law_j","_law_wide","_law_left_here","_law_kind"]:List Str).Nodup by decide+kernel) (by first|exact Or.inl rfl|exact Or.inr rfl) (by first|exact .inl rfl|exact .inr rfl))) (fun _ _ _ _=>cU) (fun _ _ _ _=>(f_ fu (ab (fj (Nc:=["_law_k","_law_left_here","_law_kind"]) (bT.yh (by decide+kernel)) (dO rfl B.dB (ab eR aj)) (fun _ _ _ _=>(d4 (show(["_law_k","_law_left_here","_law_kind"]:List Str).Nodup by decide+kernel) (by first|exact Or.inl rfl|exact Or.inr rfl) (by first|exact .inl rfl|exact .inr rfl))) (fun _ _ _ _=>cU) (fun _ _ _ _=>(cn D_law_number G_law_number (hr.mono (by decide)) (ab eR (ab eR aj)) (by decide+kernel) rfl)) di) aj) B.d7 rfl du (by decide+kernel) rfl)) di) aj) B.d7 rfl du (kI.d 1) (kI.g 1))))) wM
noncomputable abbrev dz:Stmt:=top 29
theorem aS:VS (ah dz) kc ["_law_digit","max","_law_rows"]:=⟨by decide+kernel⟩
theorem fO:bb kc ["_law_left_here"] (ah dz):=⟨rfl,rfl,rfl,by decide+kernel,rfl,by decide+kernel,by decide+kernel⟩
theorem u6{f:Addr}{fd:FuncData}(B:Bl mg)(Q:Kl K mg)(F:aC K mg "_law_drawn" "_law_drawn" dz ["_law_left_here"] f fd){a_law_digit:Addr}{d_law_digit:FuncData}(D_law_digit:aC K mg "_law_digit" "_law_digit" df ["_law_left_here","_law_many"] a_law_digit d_law_digit)(G_law_digit:ay P w K mg base aJ 1 a_law_digit d_law_digit ["_law_left_here","_law_many"] (aK b_)){a_law_rows:Addr}{d_law_rows:FuncData}(D_law_rows:aC K mg "_law_rows" "_law_rows" eG ["_law_left_here","_law_many","_law_wide","_law_kind"] a_law_rows d_law_rows)(G_law_rows:ay P w K mg base aJ 3 a_law_rows d_law_rows ["_law_left_here","_law_many","_law_wide","_law_kind"] (aK gT)):
 ay P w K mg base aJ 4 f fd ["_law_left_here"] (aK iX):=
 cz (N:=kc) F.fn fO (fun cdv A outer s H E hr=>(aq (aY fO.nd (aS.l 1) (bG (mF (ab aw (ab aw (ab aw (ab aw (ab aw (ab aw (ab aw (ab aw aj))))))))) (cn D_law_digit G_law_digit (hr.mono (by decide)) (ab (aS.nm 0) (ab aw aj)) (aS.d 0) (aS.g 0))))
  (aq (aY fO.nd (aS.l 2) (aB dc aw (cn D_law_digit G_law_digit (hr.mono (by decide)) (ab (aS.nm 0) (ab aw aj)) (aS.d 0) (aS.g 0))))
  (aq (aY fO.nd (aS.l 3) (aB dc (aS.nm 2) (cn D_law_digit G_law_digit (hr.mono (by decide)) (ab (aS.nm 0) (ab aw aj)) (aS.d 0) (aS.g 0))))
  (aq (eO (cY (kD hr) (cF _) (aS.nm 1) aw) (aA (HF fO.nd (by decide) (show(ah dz).names.lookup ("_law_many":Str)=some .local by decide+kernel) (show(ah dz).names.lookup ("_law_wide":Str)=some .local by decide+kernel) (ab (aB dc aw (aB lZ (aS.nm 2) aw)) (ab (aB dc aw (aB lZ (aS.nm 3) aw)) aj)))) dM)
  (aq (eO (cY (kD hr) (cF _) (aS.nm 1) aw) (aq (aY fO.nd (aS.l 2) (aB dc aw (aB lZ (aS.nm 2) aw)))
  (aA (aY fO.nd (aS.l 3) (eS (CY rfl) (ab (aS.nm 2) (ab (aB dc aw (aB lZ (aS.nm 3) aw)) aj)) B.Dd rfl Bb (aS.d 1) (aS.g 1))))) dM)
  (aA (bf (cn D_law_rows G_law_rows (hr.mono (by decide)) (ab (aS.nm 0) (ab (aS.nm 2) (ab (aS.nm 3) (ab (aS.nm 1) aj)))) (aS.d 2) (aS.g 2)))))))))) vp
noncomputable abbrev cG:Stmt:=top 30
theorem cO:VS (ah cG) iL ["_law_digit","range","tuple"]:=⟨by decide+kernel⟩
theorem ju:bb iL ["_law_left_here"] (ah cG):=⟨rfl,rfl,rfl,by decide+kernel,rfl,by decide+kernel,by decide+kernel⟩
theorem qU{f:Addr}{fd:FuncData}(B:Bl mg)(Q:Kl K mg)(F:aC K mg "_law_columned" "_law_columned" cG ["_law_left_here"] f fd){a_law_digit:Addr}{d_law_digit:FuncData}(D_law_digit:aC K mg "_law_digit" "_law_digit" df ["_law_left_here","_law_many"] a_law_digit d_law_digit)(G_law_digit:ay P w K mg base aJ 1 a_law_digit d_law_digit ["_law_left_here","_law_many"] (aK b_)){a_law_number:Addr}{d_law_number:FuncData}(D_law_number:aC K mg "_law_number" "_law_number" dv ["_law_left_here","_law_kind"] a_law_number d_law_number)(G_law_number:ay P w K mg base aJ 2 a_law_number d_law_number ["_law_left_here","_law_kind"] (aK fi)):
 ay P w K mg base aJ 3 f fd ["_law_left_here"] (aK gH):=
 cz (N:=iL) F.fn ju (fun cdv A outer s H E hr=>(aq (aY ju.nd (cO.l 1) (aB dc aw (cn D_law_digit G_law_digit (hr.mono (by decide)) (ab (cO.nm 0) (ab aw aj)) (cO.d 0) (cO.g 0))))
  (aq (E1 ju.nd (cO.l 2) (fj (Nc:=["_law_k","_law_left_here"]) (bT.look (ah cG) ["_law_left_here","_law_n","_law_column"] (by decide+kernel)) (dO (cO.g 1) B.dB (ab (cO.nm 1) aj)) (fun _ _ _ _=>(d4 (show(["_law_k","_law_left_here"]:List Str).Nodup by decide+kernel) (by first|exact Or.inl rfl|exact Or.inr rfl) (by first|exact .inl rfl|exact .inr rfl))) (fun _ _ _ _=>cU) (fun _ _ _ _=>(cn D_law_number G_law_number (hr.mono (by decide)) (ab eR (ab aw aj)) (by decide+kernel) rfl)) di))
  (aA (bf (f_ fu (ab (fj (Nc:=["_law_k","_law_n","_law_column"]) (bT.look (ah cG) ["_law_left_here","_law_n","_law_column"] (by decide+kernel)) (dO (cO.g 1) B.dB (ab (cO.nm 1) aj)) (fun _ _ _ _=>(d4 (show(["_law_k","_law_n","_law_column"]:List Str).Nodup by decide+kernel) (by first|exact Or.inl rfl|exact Or.inr rfl) (by first|exact .inl rfl|exact .inr rfl))) (fun _ _ _ _=>cU) (fun _ _ _ _=>(f_ fu (ab (aB dc (fj (Nc:=["_law_j","_law_k"]) (bT.yh (by decide+kernel)) (dO rfl B.dB (ab eR aj)) (fun _ _ _ _=>(d4 (show(["_law_j","_law_k"]:List Str).Nodup by decide+kernel) (by first|exact Or.inl rfl|exact Or.inr rfl) (by first|exact .inl rfl|exact .inr rfl))) (fun _ _ _ _=>cU) (fun _ _ _ _=>(f_ Dq (ab (yZ (kD hr) (cF _) eR eR) aj) B.zt rfl u5 (by decide+kernel) rfl)) di) (mF (ab (bG eR eR) aj))) aj) B.d7 rfl du (by decide+kernel) rfl)) di) aj) B.d7 rfl du (cO.d 2) (cO.g 2))))))) rG
noncomputable abbrev fe:Stmt:=top 31
theorem ko:VS (ah fe) mw ["zip","sum"]:=⟨by decide+kernel⟩
theorem yN:bb mw ["_law_one","_law_other"] (ah fe):=⟨rfl,rfl,rfl,by decide+kernel,rfl,by decide+kernel,by decide+kernel⟩
theorem yp{f:Addr}{fd:FuncData}(B:Bl mg)(Q:Kl K mg)(F:aC K mg "_law_dot" "_law_dot" fe ["_law_one","_law_other"] f fd):
 ay P w K mg base aJ 1 f fd ["_law_one","_law_other"] (aK ji):=
 cz (N:=mw) F.fn yN (fun cdv A outer s H E hr=>(aA (bf (eS (CK rfl) (ab (fj (Nc:=["_law_a","_law_b"]) (bT.look (ah fe) ["_law_one","_law_other"] (by decide+kernel)) (pN (ko.g 0) B.nI (ab (ko.nm 0) (ab (ko.nm 1) aj))) (fun _ _ _ _=>(nO rfl (show(["_law_a","_law_b"]:List Str).Nodup by decide+kernel) (by first|exact Or.inl rfl|exact Or.inr rfl) (by first|exact .inl rfl|exact .inr rfl) (by first|exact Or.inl rfl|exact Or.inr rfl) (by first|exact .inl rfl|exact .inr rfl))) (fun _ _ _ _=>cU) (fun _ _ _ _=>(aB cy eR eR)) pQ) aj) B.CH rfl Aw (ko.d 1) (ko.g 1))))) zx
noncomputable abbrev fh:Stmt:=top 32
theorem aL:VS (ah fh) mh ["len","range","_law_dot"]:=⟨by decide+kernel⟩
theorem el:bb mh ["_law_steps"] (ah fh):=⟨rfl,rfl,rfl,by decide+kernel,rfl,by decide+kernel,by decide+kernel⟩
theorem yF{f:Addr}{fd:FuncData}(B:Bl mg)(Q:Kl K mg)(F:aC K mg "_law_own" "_law_own" fh ["_law_steps"] f fd){a_law_dot:Addr}{d_law_dot:FuncData}(D_law_dot:aC K mg "_law_dot" "_law_dot" fe ["_law_one","_law_other"] a_law_dot d_law_dot)(G_law_dot:ay P w K mg base aJ 1 a_law_dot d_law_dot ["_law_one","_law_other"] (aK ji)):
 ay P w K mg base aJ 2 f fd ["_law_steps"] (aK iw):=
 cz (N:=mh) F.fn el (fun cdv A outer s H E hr=>(aq (aY el.nd (aL.l 1) (l_ (ab aw aj)))
  (aq (aY el.nd (aL.l 2) (l_ aj))
  (aq (fA (i_ (aL.nm 0)) (d4 el.nd (by first|exact Or.inl rfl|exact Or.inr rfl) (by first|exact .inl rfl|exact .inr rfl)) (aq (aY el.nd (aL.l 4) (l_ aj))
  (aq (fA (dO (aL.g 1) B.dB (ab (aB dc (eS gP (ab (aL.nm 2) aj) B.gM rfl fM (aL.d 0) (aL.g 0)) aw) aj)) (d4 el.nd (by first|exact Or.inl rfl|exact Or.inr rfl) (by first|exact .inl rfl|exact .inr rfl)) (aq (aY el.nd (aL.l 6) (cn D_law_dot G_law_dot (hr.mono (by decide)) (ab (aL.nm 3) (ab (bG (aL.nm 0) (aL.nm 5)) aj)) (aL.d 2) (aL.g 2)))
  (aq (aY el.nd (aL.l 7) (bG (aB Hx (aL.nm 2) (mF (ab (aL.nm 4) aj))) (aL.nm 5)))
  (aq (fA (dO (aL.g 1) B.dB (ab (aL.nm 5) aj)) (d4 el.nd (by first|exact Or.inl rfl|exact Or.inr rfl) (by first|exact .inl rfl|exact .inr rfl)) (aq (aY el.nd (aL.l 9) (aB cy (bG (aL.nm 4) (aL.nm 8)) (bG (aL.nm 7) (aL.nm 8))))
  (aA (aY el.nd (aL.l 6) (aB lL (aB dR (aB cy (bG (aL.nm 1) (aB dc (aL.nm 8) aw)) (aL.nm 6)) (aL.nm 9)) (bG (aL.nm 1) (aL.nm 8)))))))
  (aA (fJ (iC (aL.nm 4) (aL.nm 6))))))))
  (aq (eO (cY (kD hr) (cF _) (bG (aL.nm 4) (kG aw)) aw) (aA (bf zh)) dM)
  (aq (fJ (iC (aL.nm 1) (bG (aL.nm 4) (kG aw))))
  (aA (fJ (iC (aL.nm 2) (aL.nm 4)))))))))
  (aA (bf (Dz (ab (aL.nm 1) (ab (aL.nm 2) aj))))))))) yi
noncomputable abbrev d_:Stmt:=top 33
theorem aI:VS (ah d_) ke ["_law_own","len","range","abs"]:=⟨by decide+kernel⟩
theorem fQ:bb ke ["_law_steps"] (ah d_):=⟨rfl,rfl,rfl,by decide+kernel,rfl,by decide+kernel,by decide+kernel⟩
theorem wc{f:Addr}{fd:FuncData}(B:Bl mg)(Q:Kl K mg)(F:aC K mg "_law_short" "_law_short" d_ ["_law_steps"] f fd){a_law_own:Addr}{d_law_own:FuncData}(D_law_own:aC K mg "_law_own" "_law_own" fh ["_law_steps"] a_law_own d_law_own)(G_law_own:ay P w K mg base aJ 2 a_law_own d_law_own ["_law_steps"] (aK iw)):
 ay P w K mg base aJ 3 f fd ["_law_steps"] (aK iU):=
 cz (N:=ke) F.fn fQ (fun cdv A outer s H E hr=>(aq (aY fQ.nd (aI.l 1) (cn D_law_own G_law_own (hr.mono (by decide)) (ab (aI.nm 0) aj) (aI.d 0) (aI.g 0)))
  (aq (eO (cY Hm (cF _) (aI.nm 1) zh) (aA (bf jF)) dM)
  (aq (Bi (aI.nm 1) (nO rfl fQ.nd (by first|exact Or.inl rfl|exact Or.inr rfl) (by first|exact .inl rfl|exact .inr rfl) (by first|exact Or.inl rfl|exact Or.inr rfl) (by first|exact .inl rfl|exact .inr rfl)))
  (aq (fA (dO (aI.g 2) B.dB (ab (eS gP (ab (aI.nm 3) aj) B.gM rfl fM (aI.d 1) (aI.g 1)) aj)) (d4 fQ.nd (by first|exact Or.inl rfl|exact Or.inr rfl) (by first|exact .inl rfl|exact .inr rfl)) (aq (fA (dO (aI.g 2) B.dB (ab (aI.nm 4) aj)) (d4 fQ.nd (by first|exact Or.inl rfl|exact Or.inr rfl) (by first|exact .inl rfl|exact .inr rfl)) (aA (eO (cY Ik (cF _) (aB cy aw (eS yf (ab (bG (bG (aI.nm 3) (aI.nm 4)) (aI.nm 5)) aj) B.yO rfl vo (aI.d 3) (aI.g 3))) (bG (aI.nm 2) (aB dc (aI.nm 5) aw))) (aA (bf jF)) dM)))
  (aA (eO (cY Ik (cF _) (aI.nm 4) aw) (aq (aY fQ.nd (aI.l 6) (bG (bG (aI.nm 3) (aI.nm 4)) (aB dR (aI.nm 4) aw)))
  (aq (aY fQ.nd (aI.l 7) (aB dR (aB cy (aB cy aw (bG (aI.nm 2) (aI.nm 4))) (bG (aI.nm 2) (aI.nm 4))) (aB cy (aB cy aw (aI.nm 6)) (aI.nm 6))))
  (aA (eO (cY yT (cF _) (aB cy (aB cy aw (bG (aI.nm 2) (aB dc (aI.nm 4) aw))) (bG (aI.nm 2) (aB dR (aI.nm 4) aw))) (aI.nm 7)) (aA (bf jF)) dM)))) dM))))
  (aA (bf jF))))))) u_
noncomputable abbrev cZ:Stmt:=top 34
theorem bo:VS (ah cZ) i0 ["len","zip","tuple"]:=⟨by decide+kernel⟩
theorem fH:bb i0 ["_law_one","_law_other"] (ah cZ):=⟨rfl,rfl,rfl,by decide+kernel,rfl,by decide+kernel,by decide+kernel⟩
theorem sO{f:Addr}{fd:FuncData}(B:Bl mg)(Q:Kl K mg)(F:aC K mg "_law_product" "_law_product" cZ ["_law_one","_law_other"] f fd):
 ay P w K mg base aJ 1 f fd ["_law_one","_law_other"] (aK gf):=
 cz (N:=i0) F.fn fH (fun cdv A outer s H E hr=>(aq (aY fH.nd (bo.l 2) (l_ aj))
  (aq (fA (i_ (bo.nm 0)) (d4 fH.nd (by first|exact Or.inl rfl|exact Or.inr rfl) (by first|exact .inl rfl|exact .inr rfl)) (aq (aY fH.nd (bo.l 4) (aB cy (mF (ab aw aj)) (eS gP (ab (bG (bo.nm 1) aw) aj) B.gM rfl fM (bo.d 0) (bo.g 0))))
  (aq (fA (pN (bo.g 1) B.nI (ab (bo.nm 3) (ab (bo.nm 1) aj))) (nO rfl fH.nd (by first|exact Or.inl rfl|exact Or.inr rfl) (by first|exact .inl rfl|exact .inr rfl) (by first|exact Or.inl rfl|exact Or.inr rfl) (by first|exact .inl rfl|exact .inr rfl)) (aA (xU fH.nd (bo.l 4) (Nc:=["_law_a","_law_b","_law_weight"]) (bT.look (ah cZ) ["_law_one","_law_other","_law_found","_law_weights","_law_made","_law_weight","_law_row"] (by decide+kernel)) (pN (bo.g 1) B.nI (ab (bo.nm 4) (ab (bo.nm 6) aj))) (fun _ _ _ _=>(nO rfl (show(["_law_a","_law_b","_law_weight"]:List Str).Nodup by decide+kernel) (by first|exact Or.inl rfl|exact Or.inr rfl) (by first|exact .inl rfl|exact .inr rfl) (by first|exact Or.inl rfl|exact Or.inr rfl) (by first|exact .inl rfl|exact .inr rfl))) (fun _ _ _ _=>cU) (fun _ _ _ _=>(aB dc eR (aB cy eR eR))) pQ)))
  (aA (fJ (iC (bo.nm 2) (f_ fu (ab (bo.nm 4) aj) B.d7 rfl du (bo.d 2) (bo.g 2))))))))
  (aA (bf (f_ fu (ab (bo.nm 2) aj) B.d7 rfl du (bo.d 2) (bo.g 2))))))) sG
noncomputable abbrev eF:Stmt:=top 35
theorem kE:VS (ah eF) kL ["range","tuple"]:=⟨by decide+kernel⟩
theorem wG:bb kL ["_law_n"] (ah eF):=⟨rfl,rfl,rfl,by decide+kernel,rfl,by decide+kernel,by decide+kernel⟩
theorem wQ{f:Addr}{fd:FuncData}(B:Bl mg)(Q:Kl K mg)(F:aC K mg "_law_unit" "_law_unit" eF ["_law_n"] f fd):
 ay P w K mg base aJ 1 f fd ["_law_n"] (aK jC):=
 cz (N:=kL) F.fn wG (fun cdv A outer s H E hr=>(aA (bf (f_ fu (ab (fj (Nc:=["_law_j","_law_n"]) (bT.look (ah eF) ["_law_n"] (by decide+kernel)) (dO (kE.g 0) B.dB (ab (kE.nm 0) aj)) (fun _ _ _ _=>(d4 (show(["_law_j","_law_n"]:List Str).Nodup by decide+kernel) (by first|exact Or.inl rfl|exact Or.inr rfl) (by first|exact .inl rfl|exact .inr rfl))) (fun _ _ _ _=>cU) (fun _ _ _ _=>(f_ fu (ab (fj (Nc:=["_law_k","_law_j"]) (bT.yh (by decide+kernel)) (dO rfl B.dB (ab eR aj)) (fun _ _ _ _=>(d4 (show(["_law_k","_law_j"]:List Str).Nodup by decide+kernel) (by first|exact Or.inl rfl|exact Or.inr rfl) (by first|exact .inl rfl|exact .inr rfl))) (fun _ _ _ _=>cU) (fun _ _ _ _=>(f_ Dq (ab (yZ (kD hr) (cF _) eR eR) aj) B.zt rfl u5 (by decide+kernel) rfl)) di) aj) B.d7 rfl du (by decide+kernel) rfl)) di) aj) B.d7 rfl du (kE.d 1) (kE.g 1))))) wK
noncomputable abbrev cX:Stmt:=top 36
theorem bc:VS (ah cX) i5 ["tuple","isinstance","len","all"]:=⟨by decide+kernel⟩
theorem mT:bb i5 ["_law_rows_here","_law_many","_law_wide"] (ah cX):=⟨rfl,rfl,rfl,by decide+kernel,rfl,by decide+kernel,by decide+kernel⟩
theorem sD{f:Addr}{fd:FuncData}(B:Bl mg)(Q:Kl K mg)(F:aC K mg "_law_is_rows" "_law_is_rows" cX ["_law_rows_here","_law_many","_law_wide"] f fd):
 ay P w K mg base aJ 1 f fd ["_law_rows_here","_law_many","_law_wide"] (aK fv):=
 cz (N:=i5) F.fn mT (fun cdv A outer s H E hr=>(aq (eO (nr (nJ (jN (iY (eS rZ (ab (bc.nm 0) (ab (vw B.d7 rfl du (bc.d 0) (bc.g 0)) aj)) B.iD rfl g5 (bc.d 1) (bc.g 1)))) (m8 (cY Bs (cF _) (eS gP (ab (bc.nm 0) aj) B.gM rfl fM (bc.d 2) (bc.g 2)) (bc.nm 1))))) (aA (bf jF)) dM)
  (aq (fA (i_ (bc.nm 0)) (d4 mT.nd (by first|exact Or.inl rfl|exact Or.inr rfl) (by first|exact .inl rfl|exact .inr rfl)) (aq (eO (nr (nJ (jN (iY (eS rZ (ab (bc.nm 3) (ab (vw B.d7 rfl du (bc.d 0) (bc.g 0)) aj)) B.iD rfl g5 (bc.d 1) (bc.g 1)))) (m8 (cY Bs (cF _) (eS gP (ab (bc.nm 3) aj) B.gM rfl fM (bc.d 2) (bc.g 2)) (bc.nm 2))))) (aA (bf jF)) dM)
  (aA (eO (jN (iY (eS (IA rfl) (ab (fj (Nc:=["_law_n"]) (bT.look (ah cX) ["_law_rows_here","_law_many","_law_wide","_law_row"] (by decide+kernel)) (i_ (bc.nm 3)) (fun _ _ _ _=>(d4 (show(["_law_n"]:List Str).Nodup by decide+kernel) (by first|exact Or.inl rfl|exact Or.inr rfl) (by first|exact .inl rfl|exact .inr rfl))) (fun _ _ _ _=>cU) (fun _ _ _ _=>(JJ (eS rZ (ab eR (ab (vw B.zt rfl u5 (by decide+kernel) rfl) aj)) B.iD rfl g5 (by decide+kernel) rfl) (J8 (Jt (eS rZ (ab eR (ab (vw B.FH rfl Fi (by decide+kernel) rfl) aj)) B.iD rfl g5 (by decide+kernel) rfl))))) di) aj) B.Ir rfl Gr (bc.d 3) (bc.g 3)))) (aA (bf jF)) dM))))
  (aA (bf jF))))) sL
noncomputable abbrev dw:Stmt:=top 37
theorem ax:VS (ah dw) jc ["tuple","isinstance","len","_law_is_rows","_law_product","_law_unit","_law_short"]:=⟨by decide+kernel⟩
theorem j0:bb jc ["_law_steps","_law_told"] (ah dw):=⟨rfl,rfl,rfl,by decide+kernel,rfl,by decide+kernel,by decide+kernel⟩
theorem sC{f:Addr}{fd:FuncData}(B:Bl mg)(Q:Kl K mg)(F:aC K mg "_law_is_told" "_law_is_told" dw ["_law_steps","_law_told"] f fd){a_law_is_rows:Addr}{d_law_is_rows:FuncData}(D_law_is_rows:aC K mg "_law_is_rows" "_law_is_rows" cX ["_law_rows_here","_law_many","_law_wide"] a_law_is_rows d_law_is_rows)(G_law_is_rows:ay P w K mg base aJ 1 a_law_is_rows d_law_is_rows ["_law_rows_here","_law_many","_law_wide"] (aK fv)){a_law_product:Addr}{d_law_product:FuncData}(D_law_product:aC K mg "_law_product" "_law_product" cZ ["_law_one","_law_other"] a_law_product d_law_product)(G_law_product:ay P w K mg base aJ 1 a_law_product d_law_product ["_law_one","_law_other"] (aK gf)){a_law_unit:Addr}{d_law_unit:FuncData}(D_law_unit:aC K mg "_law_unit" "_law_unit" eF ["_law_n"] a_law_unit d_law_unit)(G_law_unit:ay P w K mg base aJ 1 a_law_unit d_law_unit ["_law_n"] (aK jC)){a_law_short:Addr}{d_law_short:FuncData}(D_law_short:aC K mg "_law_short" "_law_short" d_ ["_law_steps"] a_law_short d_law_short)(G_law_short:ay P w K mg base aJ 3 a_law_short d_law_short ["_law_steps"] (aK iU)):
 ay P w K mg base aJ 4 f fd ["_law_steps","_law_told"] (aK gh):=
 cz (N:=jc) F.fn j0 (fun cdv A outer s H E hr=>(aq (eO (nr (nJ (jN (iY (eS rZ (ab (ax.nm 1) (ab (vw B.d7 rfl du (ax.d 0) (ax.g 0)) aj)) B.iD rfl g5 (ax.d 1) (ax.g 1)))) (m8 (cY Bs (cF _) (eS gP (ab (ax.nm 1) aj) B.gM rfl fM (ax.d 2) (ax.g 2)) aw)))) (aA (bf jF)) dM)
  (aq (Bi (ax.nm 1) (CN rfl j0.nd (by first|exact Or.inl rfl|exact Or.inr rfl) (by first|exact .inl rfl|exact .inr rfl) (by first|exact Or.inl rfl|exact Or.inr rfl) (by first|exact .inl rfl|exact .inr rfl) (by first|exact Or.inl rfl|exact Or.inr rfl) (by first|exact .inl rfl|exact .inr rfl)))
  (aq (aY j0.nd (ax.l 5) (eS gP (ab (ax.nm 0) aj) B.gM rfl fM (ax.d 2) (ax.g 2)))
  (aq (eO (nr (nJ (jN (iY (cn D_law_is_rows G_law_is_rows (hr.mono (by decide)) (ab (ax.nm 2) (ab (ax.nm 5) (ab (eS gP (ab (bG (ax.nm 0) aw) aj) B.gM rfl fM (ax.d 2) (ax.g 2)) aj))) (ax.d 3) (ax.g 3)))) (nJ (jN (iY (cn D_law_is_rows G_law_is_rows (hr.mono (by decide)) (ab (ax.nm 3) (ab (ax.nm 5) (ab (ax.nm 5) aj))) (ax.d 3) (ax.g 3)))) (m8 (jN (iY (cn D_law_is_rows G_law_is_rows (hr.mono (by decide)) (ab (ax.nm 4) (ab (ax.nm 5) (ab (ax.nm 5) aj))) (ax.d 3) (ax.g 3)))))))) (aA (bf jF)) dM)
  (aq (eO (nr (nJ (cY (yI hr) (cF _) (cn D_law_product G_law_product (hr.mono (by decide)) (ab (ax.nm 3) (ab (ax.nm 4) aj)) (ax.d 4) (ax.g 4)) (cn D_law_unit G_law_unit (hr.mono (by decide)) (ab (ax.nm 5) aj) (ax.d 5) (ax.g 5))) (m8 (cY (yI hr) (cF _) (cn D_law_product G_law_product (hr.mono (by decide)) (ab (ax.nm 3) (ab (ax.nm 0) aj)) (ax.d 4) (ax.g 4)) (ax.nm 2))))) (aA (bf jF)) dM)
  (aA (bf (cn D_law_short G_law_short (hr.mono (by decide)) (ab (ax.nm 2) aj) (ax.d 6) (ax.g 6)))))))))) sM
noncomputable abbrev h_:Stmt:=top 38
theorem cv:VS (ah h_) uF ["len","range","_law_left","_law_digit","_law_columned","_law_drawn","_law_own","short","_law_is_told"]:=⟨by decide+kernel⟩
theorem oz:bb uF ["_law_script"] (ah h_):=⟨rfl,rfl,rfl,by decide+kernel,rfl,by decide+kernel,by decide+kernel⟩
theorem Fx{f:Addr}{fd:FuncData}(B:Bl mg)(Q:Kl K mg)(F:aC K mg "law" "law" h_ ["_law_script"] f fd){a_law_left:Addr}{d_law_left:FuncData}(D_law_left:aC K mg "_law_left" "_law_left" fb ["_law_script","_law_k"] a_law_left d_law_left)(G_law_left:ay P w K mg base aJ 2 a_law_left d_law_left ["_law_script","_law_k"] (aK jH)){a_law_digit:Addr}{d_law_digit:FuncData}(D_law_digit:aC K mg "_law_digit" "_law_digit" df ["_law_left_here","_law_many"] a_law_digit d_law_digit)(G_law_digit:ay P w K mg base aJ 1 a_law_digit d_law_digit ["_law_left_here","_law_many"] (aK b_)){a_law_columned:Addr}{d_law_columned:FuncData}(D_law_columned:aC K mg "_law_columned" "_law_columned" cG ["_law_left_here"] a_law_columned d_law_columned)(G_law_columned:ay P w K mg base aJ 3 a_law_columned d_law_columned ["_law_left_here"] (aK gH)){a_law_drawn:Addr}{d_law_drawn:FuncData}(D_law_drawn:aC K mg "_law_drawn" "_law_drawn" dz ["_law_left_here"] a_law_drawn d_law_drawn)(G_law_drawn:ay P w K mg base aJ 4 a_law_drawn d_law_drawn ["_law_left_here"] (aK iX)){a_law_own:Addr}{d_law_own:FuncData}(D_law_own:aC K mg "_law_own" "_law_own" fh ["_law_steps"] a_law_own d_law_own)(G_law_own:ay P w K mg base aJ 2 a_law_own d_law_own ["_law_steps"] (aK iw)){a_short:Addr}{d_short:FuncData}(D_short:aC K mg "short" "short" g_ ["steps"] a_short d_short)(G_short:ay P w K mg base aJ 7 a_short d_short ["steps"] (aK lh)){a_law_is_told:Addr}{d_law_is_told:FuncData}(D_law_is_told:aC K mg "_law_is_told" "_law_is_told" dw ["_law_steps","_law_told"] a_law_is_told d_law_is_told)(G_law_is_told:ay P w K mg base aJ 4 a_law_is_told d_law_is_told ["_law_steps","_law_told"] (aK gh)):
 ay P w K mg base aJ 8 f fd ["_law_script"] (aK zf):=
 cz (N:=uF) F.fn oz (fun cdv A outer s H E hr=>(aq (fA (vD (cv.g 1) B.dB (ab aw (ab (aB dc aw (eS gP (ab (mR (cv.nm 0) (kX aw) (kX aw)) aj) B.gM rfl fM (cv.d 0) (cv.g 0))) aj))) (d4 oz.nd (by first|exact Or.inl rfl|exact Or.inr rfl) (by first|exact .inl rfl|exact .inr rfl)) (aq (aY oz.nd (cv.l 2) (cn D_law_left G_law_left (hr.mono (by decide)) (ab (cv.nm 0) (ab (cv.nm 1) aj)) (cv.d 2) (cv.g 2)))
  (aq (aY oz.nd (cv.l 3) (yl (cY (kD hr) (cF _) (cn D_law_digit G_law_digit (hr.mono (by decide)) (ab (cv.nm 2) (ab aw aj)) (cv.d 3) (cv.g 3)) aw) (cn D_law_columned G_law_columned (hr.mono (by decide)) (ab (cv.nm 2) aj) (cv.d 4) (cv.g 4)) (cn D_law_drawn G_law_drawn (hr.mono (by decide)) (ab (cv.nm 2) aj) (cv.d 5) (cv.g 5))))
  (aq (eO (cY Hm (cF _) (cn D_law_own G_law_own (hr.mono (by decide)) (ab (cv.nm 3) aj) (cv.d 6) (cv.g 6)) zh) (aA wI) dM)
  (aq (xU oz.nd (cv.l 4) (Nc:=["_law_step"]) (bT.look (ah h_) ["_law_script","_law_k","_law_left_here","_law_steps","_law_handed"] (by decide+kernel)) (i_ (cv.nm 3)) (fun _ _ _ _=>(d4 (show(["_law_step"]:List Str).Nodup by decide+kernel) (by first|exact Or.inl rfl|exact Or.inr rfl) (by first|exact .inl rfl|exact .inr rfl))) (fun _ _ _ _=>cU) (fun _ _ _ _=>(f_ o9 (ab eR aj) B.m_ rfl kW (by decide+kernel) rfl)) di)
  (aq (eO (nr (nJ (jN (iY (cn D_law_is_told G_law_is_told (hr.mono (by decide)) (ab (cv.nm 3) (ab (cn D_short G_short (hr.mono (by decide)) (ab (cv.nm 4) aj) (cv.d 7) (cv.g 7)) aj)) (cv.d 8) (cv.g 8)))) (m8 (cY (yI hr) (cF _) (cv.nm 4) (fj (Nc:=["_law_step"]) (bT.look (ah h_) ["_law_script","_law_k","_law_left_here","_law_steps","_law_handed"] (by decide+kernel)) (i_ (cv.nm 3)) (fun _ _ _ _=>(d4 (show(["_law_step"]:List Str).Nodup by decide+kernel) (by first|exact Or.inl rfl|exact Or.inr rfl) (by first|exact .inl rfl|exact .inr rfl))) (fun _ _ _ _=>cU) (fun _ _ _ _=>(f_ o9 (ab eR aj) B.m_ rfl kW (by decide+kernel) rfl)) di))))) (aA (bf jF)) dM)
  (aA (eO (jN (iY (cn D_law_is_told G_law_is_told (hr.mono (by decide)) (ab (cv.nm 3) (ab (cn D_short G_short (hr.mono (by decide)) (ab (cv.nm 3) aj) (cv.d 7) (cv.g 7)) aj)) (cv.d 8) (cv.g 8)))) (aA (bf jF)) dM))))))))
  (aA (bf jF)))) GY
end
theorem all_mk{l:PySem.W.OpenLaw}{w:World}{K:PySem.W.Frag}{h:Heap}{mg:Str→Option Value}{fa:Addr}(X:K.In h)(G:h.Ns mainGlobals mg)(hfa:mg "law"=some (.ref fa))
 {od0 an0:Option Addr} {sl0:Array (Option Value)} {oc0 kV0 dc0 pm0 cd0 ct0:Value} {f0:Addr}
 {od1 an1:Option Addr} {sl1:Array (Option Value)} {oc1 kV1 dc1 pm1 cd1 ct1:Value} {f1:Addr}
 {od2 an2:Option Addr} {sl2:Array (Option Value)} {oc2 kV2 dc2 pm2 cd2 ct2:Value} {f2:Addr}
 {od3 an3:Option Addr} {sl3:Array (Option Value)} {oc3 kV3 dc3 pm3 cd3 ct3:Value} {f3:Addr}
 {od4 an4:Option Addr} {sl4:Array (Option Value)} {oc4 kV4 dc4 pm4 cd4 ct4:Value} {f4:Addr}
 {od5 an5:Option Addr} {sl5:Array (Option Value)} {oc5 kV5 dc5 pm5 cd5 ct5:Value} {f5:Addr}
 {od6 an6:Option Addr} {sl6:Array (Option Value)} {oc6 kV6 dc6 pm6 cd6 ct6:Value} {f6:Addr}
 {od7 an7:Option Addr} {sl7:Array (Option Value)} {oc7 kV7 dc7 pm7 cd7 ct7:Value} {f7:Addr}
 {od8 an8:Option Addr} {sl8:Array (Option Value)} {oc8 kV8 dc8 pm8 cd8 ct8:Value} {f8:Addr}
 {od9 an9:Option Addr} {sl9:Array (Option Value)} {oc9 kV9 dc9 pm9 cd9 ct9:Value} {f9:Addr}
 {od10 an10:Option Addr} {sl10:Array (Option Value)} {oc10 kV10 dc10 pm10 cd10 ct10:Value} {f10:Addr}
 {od11 an11:Option Addr} {sl11:Array (Option Value)} {oc11 kV11 dc11 pm11 cd11 ct11:Value} {f11:Addr}
 {od12 an12:Option Addr} {sl12:Array (Option Value)} {oc12 kV12 dc12 pm12 cd12 ct12:Value} {f12:Addr}
 {od13 an13:Option Addr} {sl13:Array (Option Value)} {oc13 kV13 dc13 pm13 cd13 ct13:Value} {f13:Addr}
 {od14 an14:Option Addr} {sl14:Array (Option Value)} {oc14 kV14 dc14 pm14 cd14 ct14:Value} {f14:Addr}
 {od15 an15:Option Addr} {sl15:Array (Option Value)} {oc15 kV15 dc15 pm15 cd15 ct15:Value} {f15:Addr}
 {od16 an16:Option Addr} {sl16:Array (Option Value)} {oc16 kV16 dc16 pm16 cd16 ct16:Value} {f16:Addr}
 {od17 an17:Option Addr} {sl17:Array (Option Value)} {oc17 kV17 dc17 pm17 cd17 ct17:Value} {f17:Addr}
 {od18 an18:Option Addr} {sl18:Array (Option Value)} {oc18 kV18 dc18 pm18 cd18 ct18:Value} {f18:Addr}
 {od19 an19:Option Addr} {sl19:Array (Option Value)} {oc19 kV19 dc19 pm19 cd19 ct19:Value} {f19:Addr}
 {od20 an20:Option Addr} {sl20:Array (Option Value)} {oc20 kV20 dc20 pm20 cd20 ct20:Value} {f20:Addr}
 {od21 an21:Option Addr} {sl21:Array (Option Value)} {oc21 kV21 dc21 pm21 cd21 ct21:Value} {f21:Addr}
 {od22 an22:Option Addr} {sl22:Array (Option Value)} {oc22 kV22 dc22 pm22 cd22 ct22:Value} {f22:Addr}
 {od23 an23:Option Addr} {sl23:Array (Option Value)} {oc23 kV23 dc23 pm23 cd23 ct23:Value} {f23:Addr}
 {od24 an24:Option Addr} {sl24:Array (Option Value)} {oc24 kV24 dc24 pm24 cd24 ct24:Value} {f24:Addr}
 {od25 an25:Option Addr} {sl25:Array (Option Value)} {oc25 kV25 dc25 pm25 cd25 ct25:Value} {f25:Addr}
 {od26 an26:Option Addr} {sl26:Array (Option Value)} {oc26 kV26 dc26 pm26 cd26 ct26:Value} {f26:Addr}
 {od27 an27:Option Addr} {sl27:Array (Option Value)} {oc27 kV27 dc27 pm27 cd27 ct27:Value} {f27:Addr}
 {od28 an28:Option Addr} {sl28:Array (Option Value)} {oc28 kV28 dc28 pm28 cd28 ct28:Value} {f28:Addr}
 {od29 an29:Option Addr} {sl29:Array (Option Value)} {oc29 kV29 dc29 pm29 cd29 ct29:Value} {f29:Addr}
 {od30 an30:Option Addr} {sl30:Array (Option Value)} {oc30 kV30 dc30 pm30 cd30 ct30:Value} {f30:Addr}
 {od31 an31:Option Addr} {sl31:Array (Option Value)} {oc31 kV31 dc31 pm31 cd31 ct31:Value} {f31:Addr}
 {od32 an32:Option Addr} {sl32:Array (Option Value)} {oc32 kV32 dc32 pm32 cd32 ct32:Value} {f32:Addr}
 {od33 an33:Option Addr} {sl33:Array (Option Value)} {oc33 kV33 dc33 pm33 cd33 ct33:Value} {f33:Addr}
 {od34 an34:Option Addr} {sl34:Array (Option Value)} {oc34 kV34 dc34 pm34 cd34 ct34:Value} {f34:Addr}
 {od35 an35:Option Addr} {sl35:Array (Option Value)} {oc35 kV35 dc35 pm35 cd35 ct35:Value} {f35:Addr}
 {od36 an36:Option Addr} {sl36:Array (Option Value)} {oc36 kV36 dc36 pm36 cd36 ct36:Value} {f36:Addr}
 (a0:PySem.W.nsIn K mainGlobals "as_rows"=some (some (.ref f0))) (l0:K.lookup f0=some ⟨oc0,od0,.func (PySem.W.fnOf "as_rows" "as_rows" (aW ff) (aU ff) (ah ff) .none kV0 dc0 pm0 an0 cd0 ct0),sl0⟩) (c0:PySem.W.codeIn K cd0 "as_rows"=true) (k0:PySem.W.keepIn K (.ref f0)=true)
 (a1:PySem.W.nsIn K mainGlobals "added"=some (some (.ref f1))) (l1:K.lookup f1=some ⟨oc1,od1,.func (PySem.W.fnOf "added" "added" (aW gD) (aU gD) (ah gD) .none kV1 dc1 pm1 an1 cd1 ct1),sl1⟩) (c1:PySem.W.codeIn K cd1 "added"=true) (k1:PySem.W.keepIn K (.ref f1)=true)
 (a2:PySem.W.nsIn K mainGlobals "column"=some (some (.ref f2))) (l2:K.lookup f2=some ⟨oc2,od2,.func (PySem.W.fnOf "column" "column" (aW fP) (aU fP) (ah fP) .none kV2 dc2 pm2 an2 cd2 ct2),sl2⟩) (c2:PySem.W.codeIn K cd2 "column"=true) (k2:PySem.W.keepIn K (.ref f2)=true)
 (a3:PySem.W.nsIn K mainGlobals "turned_over"=some (some (.ref f3))) (l3:K.lookup f3=some ⟨oc3,od3,.func (PySem.W.fnOf "turned_over" "turned_over" (aW c_) (aU c_) (ah c_) .none kV3 dc3 pm3 an3 cd3 ct3),sl3⟩) (c3:PySem.W.codeIn K cd3 "turned_over"=true) (k3:PySem.W.keepIn K (.ref f3)=true)
 (a4:PySem.W.nsIn K mainGlobals "unit_row"=some (some (.ref f4))) (l4:K.lookup f4=some ⟨oc4,od4,.func (PySem.W.fnOf "unit_row" "unit_row" (aW eJ) (aU eJ) (ah eJ) .none kV4 dc4 pm4 an4 cd4 ct4),sl4⟩) (c4:PySem.W.codeIn K cd4 "unit_row"=true) (k4:PySem.W.keepIn K (.ref f4)=true)
 (a5:PySem.W.nsIn K mainGlobals "unit_rows"=some (some (.ref f5))) (l5:K.lookup f5=some ⟨oc5,od5,.func (PySem.W.fnOf "unit_rows" "unit_rows" (aW dU) (aU dU) (ah dU) .none kV5 dc5 pm5 an5 cd5 ct5),sl5⟩) (c5:PySem.W.codeIn K cd5 "unit_rows"=true) (k5:PySem.W.keepIn K (.ref f5)=true)
 (a6:PySem.W.nsIn K mainGlobals "dot"=some (some (.ref f6))) (l6:K.lookup f6=some ⟨oc6,od6,.func (PySem.W.fnOf "dot" "dot" (aW jt) (aU jt) (ah jt) .none kV6 dc6 pm6 an6 cd6 ct6),sl6⟩) (c6:PySem.W.codeIn K cd6 "dot"=true) (k6:PySem.W.keepIn K (.ref f6)=true)
 (a7:PySem.W.nsIn K mainGlobals "cleared"=some (some (.ref f7))) (l7:K.lookup f7=some ⟨oc7,od7,.func (PySem.W.fnOf "cleared" "cleared" (aW fG) (aU fG) (ah fG) .none kV7 dc7 pm7 an7 cd7 ct7),sl7⟩) (c7:PySem.W.codeIn K cd7 "cleared"=true) (k7:PySem.W.keepIn K (.ref f7)=true)
 (a8:PySem.W.nsIn K mainGlobals "line_of"=some (some (.ref f8))) (l8:K.lookup f8=some ⟨oc8,od8,.func (PySem.W.fnOf "line_of" "line_of" (aW fF) (aU fF) (ah fF) .none kV8 dc8 pm8 an8 cd8 ct8),sl8⟩) (c8:PySem.W.codeIn K cd8 "line_of"=true) (k8:PySem.W.keepIn K (.ref f8)=true)
 (a9:PySem.W.nsIn K mainGlobals "table_of"=some (some (.ref f9))) (l9:K.lookup f9=some ⟨oc9,od9,.func (PySem.W.fnOf "table_of" "table_of" (aW e_) (aU e_) (ah e_) .none kV9 dc9 pm9 an9 cd9 ct9),sl9⟩) (c9:PySem.W.codeIn K cd9 "table_of"=true) (k9:PySem.W.keepIn K (.ref f9)=true)
 (a10:PySem.W.nsIn K mainGlobals "nearest_quotient"=some (some (.ref f10))) (l10:K.lookup f10=some ⟨oc10,od10,.func (PySem.W.fnOf "nearest_quotient" "nearest_quotient" (aW cu) (aU cu) (ah cu) .none kV10 dc10 pm10 an10 cd10 ct10),sl10⟩) (c10:PySem.W.codeIn K cd10 "nearest_quotient"=true) (k10:PySem.W.keepIn K (.ref f10)=true)
 (a11:PySem.W.nsIn K mainGlobals "exchanged"=some (some (.ref f11))) (l11:K.lookup f11=some ⟨oc11,od11,.func (PySem.W.fnOf "exchanged" "exchanged" (aW eh) (aU eh) (ah eh) .none kV11 dc11 pm11 an11 cd11 ct11),sl11⟩) (c11:PySem.W.codeIn K cd11 "exchanged"=true) (k11:PySem.W.keepIn K (.ref f11)=true)
 (a12:PySem.W.findIn K (.ref az) "__init__"=some (some (.ref f12))) (i12:PySem.W.isFn K (.ref f12)=true) (l12:K.lookup f12=some ⟨oc12,od12,.func (PySem.W.fnOf "__init__" "Bench.__init__" (aW bM) (aU bM) (ah bM) .none kV12 dc12 pm12 an12 cd12 ct12),sl12⟩) (c12:PySem.W.codeIn K cd12 "Bench.__init__"=true) (k12:PySem.W.keepIn K (.ref f12)=true)
 (a13:PySem.W.findIn K (.ref az) "take"=some (some (.ref f13))) (i13:PySem.W.isFn K (.ref f13)=true) (l13:K.lookup f13=some ⟨oc13,od13,.func (PySem.W.fnOf "take" "Bench.take" (aW dW) (aU dW) (ah dW) .none kV13 dc13 pm13 an13 cd13 ct13),sl13⟩) (c13:PySem.W.codeIn K cd13 "Bench.take"=true) (k13:PySem.W.keepIn K (.ref f13)=true)
 (a14:PySem.W.findIn K (.ref az) "exchange"=some (some (.ref f14))) (i14:PySem.W.isFn K (.ref f14)=true) (l14:K.lookup f14=some ⟨oc14,od14,.func (PySem.W.fnOf "exchange" "Bench.exchange" (aW cK) (aU cK) (ah cK) .none kV14 dc14 pm14 an14 cd14 ct14),sl14⟩) (c14:PySem.W.codeIn K cd14 "Bench.exchange"=true) (k14:PySem.W.keepIn K (.ref f14)=true)
 (a15:PySem.W.findIn K (.ref av) "__init__"=some (some (.ref f15))) (i15:PySem.W.isFn K (.ref f15)=true) (l15:K.lookup f15=some ⟨oc15,od15,.func (PySem.W.fnOf "__init__" "Stairs.__init__" (aW cD) (aU cD) (ah cD) .none kV15 dc15 pm15 an15 cd15 ct15),sl15⟩) (c15:PySem.W.codeIn K cd15 "Stairs.__init__"=true) (k15:PySem.W.keepIn K (.ref f15)=true)
 (a16:PySem.W.findIn K (.ref av) "last_of"=some (some (.ref f16))) (i16:PySem.W.isFn K (.ref f16)=true) (l16:K.lookup f16=some ⟨oc16,od16,.func (PySem.W.fnOf "last_of" "Stairs.last_of" (aW cx) (aU cx) (ah cx) .none kV16 dc16 pm16 an16 cd16 ct16),sl16⟩) (c16:PySem.W.codeIn K cd16 "Stairs.last_of"=true) (k16:PySem.W.keepIn K (.ref f16)=true)
 (a17:PySem.W.findIn K (.ref av) "lessen"=some (some (.ref f17))) (i17:PySem.W.isFn K (.ref f17)=true) (l17:K.lookup f17=some ⟨oc17,od17,.func (PySem.W.fnOf "lessen" "Stairs.lessen" (aW cR) (aU cR) (ah cR) .none kV17 dc17 pm17 an17 cd17 ct17),sl17⟩) (c17:PySem.W.codeIn K cd17 "Stairs.lessen"=true) (k17:PySem.W.keepIn K (.ref f17)=true)
 (a18:PySem.W.findIn K (.ref av) "is_steep"=some (some (.ref f18))) (i18:PySem.W.isFn K (.ref f18)=true) (l18:K.lookup f18=some ⟨oc18,od18,.func (PySem.W.fnOf "is_steep" "Stairs.is_steep" (aW cE) (aU cE) (ah cE) .none kV18 dc18 pm18 an18 cd18 ct18),sl18⟩) (c18:PySem.W.codeIn K cd18 "Stairs.is_steep"=true) (k18:PySem.W.keepIn K (.ref f18)=true)
 (a19:PySem.W.findIn K (.ref av) "swap"=some (some (.ref f19))) (i19:PySem.W.isFn K (.ref f19)=true) (l19:K.lookup f19=some ⟨oc19,od19,.func (PySem.W.fnOf "swap" "Stairs.swap" (aW dy) (aU dy) (ah dy) .none kV19 dc19 pm19 an19 cd19 ct19),sl19⟩) (c19:PySem.W.codeIn K cd19 "Stairs.swap"=true) (k19:PySem.W.keepIn K (.ref f19)=true)
 (a20:PySem.W.findIn K (.ref av) "shorten"=some (some (.ref f20))) (i20:PySem.W.isFn K (.ref f20)=true) (l20:K.lookup f20=some ⟨oc20,od20,.func (PySem.W.fnOf "shorten" "Stairs.shorten" (aW cL) (aU cL) (ah cL) .none kV20 dc20 pm20 an20 cd20 ct20),sl20⟩) (c20:PySem.W.codeIn K cd20 "Stairs.shorten"=true) (k20:PySem.W.keepIn K (.ref f20)=true)
 (a21:PySem.W.nsIn K mainGlobals "short"=some (some (.ref f21))) (l21:K.lookup f21=some ⟨oc21,od21,.func (PySem.W.fnOf "short" "short" (aW g_) (aU g_) (ah g_) .none kV21 dc21 pm21 an21 cd21 ct21),sl21⟩) (c21:PySem.W.codeIn K cd21 "short"=true) (k21:PySem.W.keepIn K (.ref f21)=true)
 (a22:PySem.W.nsIn K mainGlobals "_law_at"=some (some (.ref f22))) (l22:K.lookup f22=some ⟨oc22,od22,.func (PySem.W.fnOf "_law_at" "_law_at" (aW gw) (aU gw) (ah gw) .none kV22 dc22 pm22 an22 cd22 ct22),sl22⟩) (c22:PySem.W.codeIn K cd22 "_law_at"=true) (k22:PySem.W.keepIn K (.ref f22)=true)
 (a23:PySem.W.nsIn K mainGlobals "_law_left"=some (some (.ref f23))) (l23:K.lookup f23=some ⟨oc23,od23,.func (PySem.W.fnOf "_law_left" "_law_left" (aW fb) (aU fb) (ah fb) .none kV23 dc23 pm23 an23 cd23 ct23),sl23⟩) (c23:PySem.W.codeIn K cd23 "_law_left"=true) (k23:PySem.W.keepIn K (.ref f23)=true)
 (a24:PySem.W.nsIn K mainGlobals "_law_digit"=some (some (.ref f24))) (l24:K.lookup f24=some ⟨oc24,od24,.func (PySem.W.fnOf "_law_digit" "_law_digit" (aW df) (aU df) (ah df) .none kV24 dc24 pm24 an24 cd24 ct24),sl24⟩) (c24:PySem.W.codeIn K cd24 "_law_digit"=true) (k24:PySem.W.keepIn K (.ref f24)=true)
 (a25:PySem.W.nsIn K mainGlobals "_law_number"=some (some (.ref f25))) (l25:K.lookup f25=some ⟨oc25,od25,.func (PySem.W.fnOf "_law_number" "_law_number" (aW dv) (aU dv) (ah dv) .none kV25 dc25 pm25 an25 cd25 ct25),sl25⟩) (c25:PySem.W.codeIn K cd25 "_law_number"=true) (k25:PySem.W.keepIn K (.ref f25)=true)
 (a26:PySem.W.nsIn K mainGlobals "_law_rows"=some (some (.ref f26))) (l26:K.lookup f26=some ⟨oc26,od26,.func (PySem.W.fnOf "_law_rows" "_law_rows" (aW eG) (aU eG) (ah eG) .none kV26 dc26 pm26 an26 cd26 ct26),sl26⟩) (c26:PySem.W.codeIn K cd26 "_law_rows"=true) (k26:PySem.W.keepIn K (.ref f26)=true)
 (a27:PySem.W.nsIn K mainGlobals "_law_drawn"=some (some (.ref f27))) (l27:K.lookup f27=some ⟨oc27,od27,.func (PySem.W.fnOf "_law_drawn" "_law_drawn" (aW dz) (aU dz) (ah dz) .none kV27 dc27 pm27 an27 cd27 ct27),sl27⟩) (c27:PySem.W.codeIn K cd27 "_law_drawn"=true) (k27:PySem.W.keepIn K (.ref f27)=true)
 (a28:PySem.W.nsIn K mainGlobals "_law_columned"=some (some (.ref f28))) (l28:K.lookup f28=some ⟨oc28,od28,.func (PySem.W.fnOf "_law_columned" "_law_columned" (aW cG) (aU cG) (ah cG) .none kV28 dc28 pm28 an28 cd28 ct28),sl28⟩) (c28:PySem.W.codeIn K cd28 "_law_columned"=true) (k28:PySem.W.keepIn K (.ref f28)=true)
 (a29:PySem.W.nsIn K mainGlobals "_law_dot"=some (some (.ref f29))) (l29:K.lookup f29=some ⟨oc29,od29,.func (PySem.W.fnOf "_law_dot" "_law_dot" (aW fe) (aU fe) (ah fe) .none kV29 dc29 pm29 an29 cd29 ct29),sl29⟩) (c29:PySem.W.codeIn K cd29 "_law_dot"=true) (k29:PySem.W.keepIn K (.ref f29)=true)
 (a30:PySem.W.nsIn K mainGlobals "_law_own"=some (some (.ref f30))) (l30:K.lookup f30=some ⟨oc30,od30,.func (PySem.W.fnOf "_law_own" "_law_own" (aW fh) (aU fh) (ah fh) .none kV30 dc30 pm30 an30 cd30 ct30),sl30⟩) (c30:PySem.W.codeIn K cd30 "_law_own"=true) (k30:PySem.W.keepIn K (.ref f30)=true)
 (a31:PySem.W.nsIn K mainGlobals "_law_short"=some (some (.ref f31))) (l31:K.lookup f31=some ⟨oc31,od31,.func (PySem.W.fnOf "_law_short" "_law_short" (aW d_) (aU d_) (ah d_) .none kV31 dc31 pm31 an31 cd31 ct31),sl31⟩) (c31:PySem.W.codeIn K cd31 "_law_short"=true) (k31:PySem.W.keepIn K (.ref f31)=true)
 (a32:PySem.W.nsIn K mainGlobals "_law_product"=some (some (.ref f32))) (l32:K.lookup f32=some ⟨oc32,od32,.func (PySem.W.fnOf "_law_product" "_law_product" (aW cZ) (aU cZ) (ah cZ) .none kV32 dc32 pm32 an32 cd32 ct32),sl32⟩) (c32:PySem.W.codeIn K cd32 "_law_product"=true) (k32:PySem.W.keepIn K (.ref f32)=true)
 (a33:PySem.W.nsIn K mainGlobals "_law_unit"=some (some (.ref f33))) (l33:K.lookup f33=some ⟨oc33,od33,.func (PySem.W.fnOf "_law_unit" "_law_unit" (aW eF) (aU eF) (ah eF) .none kV33 dc33 pm33 an33 cd33 ct33),sl33⟩) (c33:PySem.W.codeIn K cd33 "_law_unit"=true) (k33:PySem.W.keepIn K (.ref f33)=true)
 (a34:PySem.W.nsIn K mainGlobals "_law_is_rows"=some (some (.ref f34))) (l34:K.lookup f34=some ⟨oc34,od34,.func (PySem.W.fnOf "_law_is_rows" "_law_is_rows" (aW cX) (aU cX) (ah cX) .none kV34 dc34 pm34 an34 cd34 ct34),sl34⟩) (c34:PySem.W.codeIn K cd34 "_law_is_rows"=true) (k34:PySem.W.keepIn K (.ref f34)=true)
 (a35:PySem.W.nsIn K mainGlobals "_law_is_told"=some (some (.ref f35))) (l35:K.lookup f35=some ⟨oc35,od35,.func (PySem.W.fnOf "_law_is_told" "_law_is_told" (aW dw) (aU dw) (ah dw) .none kV35 dc35 pm35 an35 cd35 ct35),sl35⟩) (c35:PySem.W.codeIn K cd35 "_law_is_told"=true) (k35:PySem.W.keepIn K (.ref f35)=true)
 (a36:PySem.W.nsIn K mainGlobals "law"=some (some (.ref f36))) (l36:K.lookup f36=some ⟨oc36,od36,.func (PySem.W.fnOf "law" "law" (aW h_) (aU h_) (ah h_) .none kV36 dc36 pm36 an36 cd36 ct36),sl36⟩) (c36:PySem.W.codeIn K cd36 "law"=true) (k36:PySem.W.keepIn K (.ref f36)=true)
 (z_tuple:PySem.W.nsIn K mainGlobals "tuple"=some none)
 (z_zip:PySem.W.nsIn K mainGlobals "zip"=some none)
 (z_range:PySem.W.nsIn K mainGlobals "range"=some none)
 (z_sum:PySem.W.nsIn K mainGlobals "sum"=some none)
 (z_list:PySem.W.nsIn K mainGlobals "list"=some none)
 (z_len:PySem.W.nsIn K mainGlobals "len"=some none)
 (z_max:PySem.W.nsIn K mainGlobals "max"=some none)
 (z_abs:PySem.W.nsIn K mainGlobals "abs"=some none)
 (z_int:PySem.W.nsIn K mainGlobals "int"=some none)
 (z_isinstance:PySem.W.nsIn K mainGlobals "isinstance"=some none)
 (z_bool:PySem.W.nsIn K mainGlobals "bool"=some none)
 (z_all:PySem.W.nsIn K mainGlobals "all"=some none)
 (ca_Bench:PySem.W.nsIn K mainGlobals "Bench"=some (some (.ref az))) (cb_Bench:PySem.W.plainGet K az Str.empty=true) (cc_Bench:PySem.W.hasDictIn K az=true) (cd_Bench:PySem.W.plainOver K az=true) (ce_Bench:PySem.W.findIn K (.ref az) "__setattr__"=some (some (.builtin "object.__setattr__"))) (cf_Bench:PySem.W.makesIn K az=true) (cg_Bench:PySem.W.keepIn K (.ref az)=true)
 (ca_Stairs:PySem.W.nsIn K mainGlobals "Stairs"=some (some (.ref av))) (cb_Stairs:PySem.W.plainGet K av Str.empty=true) (cc_Stairs:PySem.W.hasDictIn K av=true) (cd_Stairs:PySem.W.plainOver K av=true) (ce_Stairs:PySem.W.findIn K (.ref av) "__setattr__"=some (some (.builtin "object.__setattr__"))) (cf_Stairs:PySem.W.makesIn K av=true) (cg_Stairs:PySem.W.keepIn K (.ref av)=true)
 (eE:PySem.W.findIn K (.ref az) "body"=some none)
 (eH:PySem.W.findIn K (.ref az) "turn"=some none)
 (cp:PySem.W.findIn K (.ref az) "back_columns"=some none)
 (fL:PySem.W.findIn K (.ref av) "bench"=some none)
 (br:PySem.W.findIn K (.ref av) "table"=some none)
 (nl:vS K=true):
 ∃fd:FuncData,(∀(s:Shared) (v:Value),BindsTo s fd ⟨[v],[]⟩ [("_law_script",v)])∧∀base:Heap,K.In base→base.Ns mainGlobals mg→ay l.prog w K mg base aJ 8 fa fd ["_law_script"] (rF K []):=by
 have e:=hfa.symm.trans (PySem.W.mg_of X G a36)
 cases e
 have B:Bl mg:=⟨PySem.W.mg_none_of X G z_tuple,PySem.W.mg_none_of X G z_zip,PySem.W.mg_none_of X G z_range,PySem.W.mg_none_of X G z_sum,PySem.W.mg_none_of X G z_list,PySem.W.mg_none_of X G z_len,PySem.W.mg_none_of X G z_max,PySem.W.mg_none_of X G z_abs,PySem.W.mg_none_of X G z_int,PySem.W.mg_none_of X G z_isinstance,PySem.W.mg_none_of X G z_bool,PySem.W.mg_none_of X G z_all⟩
 have Q:Kl K mg:=⟨⟨⟨cb_Bench,cc_Bench,cd_Bench,ce_Bench⟩,PySem.W.mg_of X G ca_Bench,cf_Bench,cg_Bench⟩,⟨⟨cb_Stairs,cc_Stairs,cd_Stairs,ce_Stairs⟩,PySem.W.mg_of X G ca_Stairs,cf_Stairs,cg_Stairs⟩,eE,eH,cp,fL,br⟩
 have F0:=bI (st:=ff) l0 c0 k0
 have D0:aC K mg "as_rows" "as_rows" ff ["rows"] f0 _:=⟨F0,PySem.W.mg_of X G a0,ot F0 fun _ _ _ _ _ _ _=>rfl⟩
 have F1:=bI (st:=gD) l1 c1 k1
 have D1:aC K mg "added" "added" gD ["row","times","other"] f1 _:=⟨F1,PySem.W.mg_of X G a1,xy F1 fun _ _ _ _ _ _ _ _ _=>rfl⟩
 have F2:=bI (st:=fP) l2 c2 k2
 have D2:aC K mg "column" "column" fP ["rows","place"] f2 _:=⟨F2,PySem.W.mg_of X G a2,ky F2 fun _ _ _ _ _ _ _ _=>rfl⟩
 have F3:=bI (st:=c_) l3 c3 k3
 have D3:aC K mg "turned_over" "turned_over" c_ ["rows","wide"] f3 _:=⟨F3,PySem.W.mg_of X G a3,ky F3 fun _ _ _ _ _ _ _ _=>rfl⟩
 have F4:=bI (st:=eJ) l4 c4 k4
 have D4:aC K mg "unit_row" "unit_row" eJ ["n","place"] f4 _:=⟨F4,PySem.W.mg_of X G a4,ky F4 fun _ _ _ _ _ _ _ _=>rfl⟩
 have F5:=bI (st:=dU) l5 c5 k5
 have D5:aC K mg "unit_rows" "unit_rows" dU ["n"] f5 _:=⟨F5,PySem.W.mg_of X G a5,ot F5 fun _ _ _ _ _ _ _=>rfl⟩
 have F6:=bI (st:=jt) l6 c6 k6
 have D6:aC K mg "dot" "dot" jt ["one","other"] f6 _:=⟨F6,PySem.W.mg_of X G a6,ky F6 fun _ _ _ _ _ _ _ _=>rfl⟩
 have F7:=bI (st:=fG) l7 c7 k7
 have D7:aC K mg "cleared" "cleared" fG ["together","table","one","other"] f7 _:=⟨F7,PySem.W.mg_of X G a7,Fw F7 fun _ _ _ _ _ _ _ _ _ _=>rfl⟩
 have F8:=bI (st:=fF) l8 c8 k8
 have D8:aC K mg "line_of" "line_of" fF ["table","steps","row"] f8 _:=⟨F8,PySem.W.mg_of X G a8,xy F8 fun _ _ _ _ _ _ _ _ _=>rfl⟩
 have F9:=bI (st:=e_) l9 c9 k9
 have D9:aC K mg "table_of" "table_of" e_ ["steps"] f9 _:=⟨F9,PySem.W.mg_of X G a9,ot F9 fun _ _ _ _ _ _ _=>rfl⟩
 have F10:=bI (st:=cu) l10 c10 k10
 have D10:aC K mg "nearest_quotient" "nearest_quotient" cu ["top","bottom"] f10 _:=⟨F10,PySem.W.mg_of X G a10,ky F10 fun _ _ _ _ _ _ _ _=>rfl⟩
 have F11:=bI (st:=eh) l11 c11 k11
 have D11:aC K mg "exchanged" "exchanged" eh ["rows","k","other"] f11 _:=⟨F11,PySem.W.mg_of X G a11,xy F11 fun _ _ _ _ _ _ _ _ _=>rfl⟩
 have F12:=bI (st:=bM) l12 c12 k12
 have D12:MethAt K az "__init__" "Bench.__init__" bM ["self","rows"] f12 _:=⟨F12,⟨a12,i12,k12⟩,ky F12 fun _ _ _ _ _ _ _ _=>rfl⟩
 have F13:=bI (st:=dW) l13 c13 k13
 have D13:MethAt K az "take" "Bench.take" dW ["self","k","times","other"] f13 _:=⟨F13,⟨a13,i13,k13⟩,Fw F13 fun _ _ _ _ _ _ _ _ _ _=>rfl⟩
 have F14:=bI (st:=cK) l14 c14 k14
 have D14:MethAt K az "exchange" "Bench.exchange" cK ["self","k","other"] f14 _:=⟨F14,⟨a14,i14,k14⟩,xy F14 fun _ _ _ _ _ _ _ _ _=>rfl⟩
 have F15:=bI (st:=cD) l15 c15 k15
 have D15:MethAt K av "__init__" "Stairs.__init__" cD ["self","steps"] f15 _:=⟨F15,⟨a15,i15,k15⟩,ky F15 fun _ _ _ _ _ _ _ _=>rfl⟩
 have F16:=bI (st:=cx) l16 c16 k16
 have D16:MethAt K av "last_of" "Stairs.last_of" cx ["self","k"] f16 _:=⟨F16,⟨a16,i16,k16⟩,ky F16 fun _ _ _ _ _ _ _ _=>rfl⟩
 have F17:=bI (st:=cR) l17 c17 k17
 have D17:MethAt K av "lessen" "Stairs.lessen" cR ["self","k","j"] f17 _:=⟨F17,⟨a17,i17,k17⟩,xy F17 fun _ _ _ _ _ _ _ _ _=>rfl⟩
 have F18:=bI (st:=cE) l18 c18 k18
 have D18:MethAt K av "is_steep" "Stairs.is_steep" cE ["self","k"] f18 _:=⟨F18,⟨a18,i18,k18⟩,ky F18 fun _ _ _ _ _ _ _ _=>rfl⟩
 have F19:=bI (st:=dy) l19 c19 k19
 have D19:MethAt K av "swap" "Stairs.swap" dy ["self","k"] f19 _:=⟨F19,⟨a19,i19,k19⟩,ky F19 fun _ _ _ _ _ _ _ _=>rfl⟩
 have F20:=bI (st:=cL) l20 c20 k20
 have D20:MethAt K av "shorten" "Stairs.shorten" cL ["self"] f20 _:=⟨F20,⟨a20,i20,k20⟩,ot F20 fun _ _ _ _ _ _ _=>rfl⟩
 have F21:=bI (st:=g_) l21 c21 k21
 have D21:aC K mg "short" "short" g_ ["steps"] f21 _:=⟨F21,PySem.W.mg_of X G a21,ot F21 fun _ _ _ _ _ _ _=>rfl⟩
 have F22:=bI (st:=gw) l22 c22 k22
 have D22:aC K mg "_law_at" "_law_at" gw ["_law_script","_law_k"] f22 _:=⟨F22,PySem.W.mg_of X G a22,ky F22 fun _ _ _ _ _ _ _ _=>rfl⟩
 have F23:=bI (st:=fb) l23 c23 k23
 have D23:aC K mg "_law_left" "_law_left" fb ["_law_script","_law_k"] f23 _:=⟨F23,PySem.W.mg_of X G a23,ky F23 fun _ _ _ _ _ _ _ _=>rfl⟩
 have F24:=bI (st:=df) l24 c24 k24
 have D24:aC K mg "_law_digit" "_law_digit" df ["_law_left_here","_law_many"] f24 _:=⟨F24,PySem.W.mg_of X G a24,ky F24 fun _ _ _ _ _ _ _ _=>rfl⟩
 have F25:=bI (st:=dv) l25 c25 k25
 have D25:aC K mg "_law_number" "_law_number" dv ["_law_left_here","_law_kind"] f25 _:=⟨F25,PySem.W.mg_of X G a25,ky F25 fun _ _ _ _ _ _ _ _=>rfl⟩
 have F26:=bI (st:=eG) l26 c26 k26
 have D26:aC K mg "_law_rows" "_law_rows" eG ["_law_left_here","_law_many","_law_wide","_law_kind"] f26 _:=⟨F26,PySem.W.mg_of X G a26,Fw F26 fun _ _ _ _ _ _ _ _ _ _=>rfl⟩
 have F27:=bI (st:=dz) l27 c27 k27
 have D27:aC K mg "_law_drawn" "_law_drawn" dz ["_law_left_here"] f27 _:=⟨F27,PySem.W.mg_of X G a27,ot F27 fun _ _ _ _ _ _ _=>rfl⟩
 have F28:=bI (st:=cG) l28 c28 k28
 have D28:aC K mg "_law_columned" "_law_columned" cG ["_law_left_here"] f28 _:=⟨F28,PySem.W.mg_of X G a28,ot F28 fun _ _ _ _ _ _ _=>rfl⟩
 have F29:=bI (st:=fe) l29 c29 k29
 have D29:aC K mg "_law_dot" "_law_dot" fe ["_law_one","_law_other"] f29 _:=⟨F29,PySem.W.mg_of X G a29,ky F29 fun _ _ _ _ _ _ _ _=>rfl⟩
 have F30:=bI (st:=fh) l30 c30 k30
 have D30:aC K mg "_law_own" "_law_own" fh ["_law_steps"] f30 _:=⟨F30,PySem.W.mg_of X G a30,ot F30 fun _ _ _ _ _ _ _=>rfl⟩
 have F31:=bI (st:=d_) l31 c31 k31
 have D31:aC K mg "_law_short" "_law_short" d_ ["_law_steps"] f31 _:=⟨F31,PySem.W.mg_of X G a31,ot F31 fun _ _ _ _ _ _ _=>rfl⟩
 have F32:=bI (st:=cZ) l32 c32 k32
 have D32:aC K mg "_law_product" "_law_product" cZ ["_law_one","_law_other"] f32 _:=⟨F32,PySem.W.mg_of X G a32,ky F32 fun _ _ _ _ _ _ _ _=>rfl⟩
 have F33:=bI (st:=eF) l33 c33 k33
 have D33:aC K mg "_law_unit" "_law_unit" eF ["_law_n"] f33 _:=⟨F33,PySem.W.mg_of X G a33,ot F33 fun _ _ _ _ _ _ _=>rfl⟩
 have F34:=bI (st:=cX) l34 c34 k34
 have D34:aC K mg "_law_is_rows" "_law_is_rows" cX ["_law_rows_here","_law_many","_law_wide"] f34 _:=⟨F34,PySem.W.mg_of X G a34,xy F34 fun _ _ _ _ _ _ _ _ _=>rfl⟩
 have F35:=bI (st:=dw) l35 c35 k35
 have D35:aC K mg "_law_is_told" "_law_is_told" dw ["_law_steps","_law_told"] f35 _:=⟨F35,PySem.W.mg_of X G a35,ky F35 fun _ _ _ _ _ _ _ _=>rfl⟩
 have F36:=bI (st:=h_) l36 c36 k36
 have D36:aC K mg "law" "law" h_ ["_law_script"] fa _:=⟨F36,PySem.W.mg_of X G a36,ot F36 fun _ _ _ _ _ _ _=>rfl⟩
 refine⟨PySem.W.fnOf "law" "law" (aW h_) (aU h_) (ah h_) .none kV36 dc36 pm36 an36 cd36 ct36,fun s v=> .of_eq rfl,fun base _ _=>?_⟩
 have G0:ay l.prog w K mg base aJ 1 f0 _ ["rows"] (aK jq):=yn B Q D0
 have G1:ay l.prog w K mg base aJ 1 f1 _ ["row","times","other"] (aK jZ):=Cu B Q D1
 have G2:ay l.prog w K mg base aJ 1 f2 _ ["rows","place"] (aK lS):=zW B Q D2
 have G3:ay l.prog w K mg base aJ 2 f3 _ ["rows","wide"] (aK g7):=sj B Q D3 D2 G2
 have G4:ay l.prog w K mg base aJ 1 f4 _ ["n","place"] (aK jD):=wF B Q D4
 have G5:ay l.prog w K mg base aJ 2 f5 _ ["n"] (aK hV):=vR B Q D5 D4 G4
 have G6:ay l.prog w K mg base aJ 1 f6 _ ["one","other"] (aK nP):=Gg B Q D6
 have G7:ay l.prog w K mg base aJ 1 f7 _ ["together","table","one","other"] (aK jn):=yD B Q D7
 have G8:ay l.prog w K mg base aJ 2 f8 _ ["table","steps","row"] (aK kl):=yC B Q D8 D6 G6 D7 G7
 have G9:ay l.prog w K mg base aJ 3 f9 _ ["steps"] (aK jE):=wH B Q D9 D8 G8
 have G10:ay l.prog w K mg base aJ 1 f10 _ ["top","bottom"] (aK fg):=oa B Q D10
 have G11:ay l.prog w K mg base aJ 1 f11 _ ["rows","k","other"] (aK gv):=vG B Q D11
 have G12:ay l.prog w K mg base aJ 3 f12 _ ["self","rows"] (aK fT):=p8 B Q D12 D5 G5
 have G13:ay l.prog w K mg base aJ 2 f13 _ ["self","k","times","other"] (aK iE):=ui B Q D13 D1 G1
 have G14:ay l.prog w K mg base aJ 2 f14 _ ["self","k","other"] (aK fW):=qb B Q D14 D11 G11
 have G15:ay l.prog w K mg base aJ 5 f15 _ ["self","steps"] (aK fz):=oR B Q D15 D12 G12 D9 G9
 have G16:ay l.prog w K mg base aJ 1 f16 _ ["self","k"] (aK cw):=pY B Q D16
 have G17:ay l.prog w K mg base aJ 3 f17 _ ["self","k","j"] (aK ft):=qT B Q D17 D10 G10 D13 G13
 have G18:ay l.prog w K mg base aJ 2 f18 _ ["self","k"] (aK fC):=ow B Q D18 D16 G16
 have G19:ay l.prog w K mg base aJ 3 f19 _ ["self","k"] (aK g4):=sZ B Q D19 D14 G14 D16 G16
 have G20:ay l.prog w K mg base aJ 4 f20 _ ["self"] (aK fR):=pS B Q D20 D17 G17 D18 G18 D19 G19
 have G21:ay l.prog w K mg base aJ 7 f21 _ ["steps"] (aK lh):=Cm B Q D21 D15 G15 D20 G20 D3 G3 D0 G0
 have G22:ay l.prog w K mg base aJ 1 f22 _ ["_law_script","_law_k"] (aK lK):=Ao B Q D22
 have G23:ay l.prog w K mg base aJ 2 f23 _ ["_law_script","_law_k"] (aK jH):=w4 B Q D23 D22 G22
 have G24:ay l.prog w K mg base aJ 1 f24 _ ["_law_left_here","_law_many"] (aK b_):=wg B Q D24
 have G25:ay l.prog w K mg base aJ 2 f25 _ ["_law_left_here","_law_kind"] (aK fi):=uh B Q D25 D24 G24
 have G26:ay l.prog w K mg base aJ 3 f26 _ ["_law_left_here","_law_many","_law_wide","_law_kind"] (aK gT):=wW B Q D26 D25 G25
 have G27:ay l.prog w K mg base aJ 4 f27 _ ["_law_left_here"] (aK iX):=u6 B Q D27 D24 G24 D26 G26
 have G28:ay l.prog w K mg base aJ 3 f28 _ ["_law_left_here"] (aK gH):=qU B Q D28 D24 G24 D25 G25
 have G29:ay l.prog w K mg base aJ 1 f29 _ ["_law_one","_law_other"] (aK ji):=yp B Q D29
 have G30:ay l.prog w K mg base aJ 2 f30 _ ["_law_steps"] (aK iw):=yF B Q D30 D29 G29
 have G31:ay l.prog w K mg base aJ 3 f31 _ ["_law_steps"] (aK iU):=wc B Q D31 D30 G30
 have G32:ay l.prog w K mg base aJ 1 f32 _ ["_law_one","_law_other"] (aK gf):=sO B Q D32
 have G33:ay l.prog w K mg base aJ 1 f33 _ ["_law_n"] (aK jC):=wQ B Q D33
 have G34:ay l.prog w K mg base aJ 1 f34 _ ["_law_rows_here","_law_many","_law_wide"] (aK fv):=sD B Q D34
 have G35:ay l.prog w K mg base aJ 4 f35 _ ["_law_steps","_law_told"] (aK gh):=sC B Q D35 D34 G34 D32 G32 D33 G33 D31 G31
 have G36:ay l.prog w K mg base aJ 8 fa _ ["_law_script"] (aK zf):=Fx B Q D36 D23 G23 D24 G24 D28 G28 D27 G27 D30 G30 D21 G21 D35 G35
 exact G36.imp fun vs H Q E h=>zN (tl:=[]) nl rfl (by decide) h
theorem walk{l:PySem.W.OpenLaw}{q:Program}{loose:List Str}{XP:(Str→Option Value)→Heap→Prop}{YP:World→Heap→Prop}{d:DefRec}{K:Params→PySem.W.Frag}(hn:l.most=some 63)(hdf:d.params.defaults=[])(hq:importsNone q=true)(hgt:l.prog.given.tree=none)
 (hY:∀(w:World) (h:Heap),YP w h→(K w.params).In h∧Cq (K w.params) [] h)
 (F:∀(w:World) (mg:Str→Option Value) (fa:Addr) (h:Heap),(K w.params).In h→h.Ns mainGlobals mg→mg d.name=some (.ref fa)→
   ∃fd:FuncData,(∀(s:Shared) (u:Value),BindsTo s fd ⟨[u],[]⟩ [("_law_script",u)])∧∀base:Heap,(K w.params).In base→base.Ns mainGlobals mg→ay l.prog w (K w.params) mg base aJ 8 fa fd ["_law_script"] (rF (K w.params) [])):
 PySem.W.WalkO q loose XP YP l.row.toRowW d [] (fun f vs=>PySem.call f vs):=
 L2.IT (n:=63) (k:=8) (x:="_law_script") (ts:=[]) (sp:=fun w=>rF (K w.params) []) hn (by decide) hdf ⟨rfl,by decide,by decide⟩ hq hgt hY F fun _ _ a ns hl hE=>⟨a,ns,rfl,hE,hl,fun _=>rfl⟩
end Row
open PySem PySem.W PyProof.Rows
noncomputable def Row.KX(P:Params):PySem.W.Frag:=[Hd.k 3 (Hd.no P 42 [Hd.e "__name__" 165 (.str "law_latticeworks_k34_short_steps" 511),Hd.e "__doc__" 166 .none,Hd.e "__package__" 167 .none,Hd.e "__loader__" 168 (.builtin "__main__.__loader__#opaque"),Hd.e "__spec__" 169 .none,Hd.e "__annotations__" 170 (.ref 6),Hd.e "__builtins__" 171 (.ref 4),Hd.e "__file__" 173 (.str "/claim/cut.py" 172),Hd.e "__cached__" 174 .none,Hd.e "_wall" 193 (.ref 21),Hd.e "LatticeError" 213 (.ref 31),Hd.e "NoSteps" 229 (.ref 44),Hd.e "as_rows" 237 (.ref 51),Hd.e "added" 243 (.ref 56),Hd.e "column" 249 (.ref 61),Hd.e "turned_over" 255 (.ref 66),Hd.e "unit_row" 261 (.ref 71),Hd.e "unit_rows" 267 (.ref 76),Hd.e "dot" 273 (.ref 81),Hd.e "cleared" 289 (.ref 88),Hd.e "line_of" 301 (.ref 95),Hd.e "table_of" 311 (.ref 102),Hd.e "nearest_quotient" 321 (.ref 109),Hd.e "exchanged" 331 (.ref 116),Hd.e "Bench" 414 (.ref 173),Hd.e "Stairs" 501 (.ref 229),Hd.e "short" 510 (.ref 240),Hd.e "_law_at" 520 (.ref 247),Hd.e "_law_left" 532 (.ref 254),Hd.e "_law_digit" 541 (.ref 261),Hd.e "_law_number" 550 (.ref 268),Hd.e "_law_rows" 556 (.ref 273),Hd.e "_law_drawn" 566 (.ref 280),Hd.e "_law_columned" 572 (.ref 285),Hd.e "_law_dot" 578 (.ref 290),Hd.e "_law_own" 594 (.ref 297),Hd.e "_law_short" 608 (.ref 304),Hd.e "_law_product" 614 (.ref 309),Hd.e "_law_unit" 620 (.ref 314),Hd.e "_law_is_rows" 626 (.ref 319),Hd.e "_law_is_told" 638 (.ref 326),Hd.e "law" 644 (.ref 331)]),
 Hd.k 50 (⟨(.type "code"),none,(.fields #[(.str "as_rows" 232),(.str "as_rows" 233),(.str "/claim/cut.py" 234),(.int (10) 0),(.int (1) 0),(.int (0) 0),(.int (0) 0),(.int (3) 0),(.ref 47),(.bool true),(.int (181) 0),(.ref 48),.none,.none,.none,(.ref 49),(.int (235) 0),(.int (10) 0),(.str "/claim/cut.py" 236)]),#[]⟩),
 Hd.k 51 (Hd.fo Row.ff "as_rows" "as_rows" (.str "latticeworks.rows" 230) (.ref 50)),
 Hd.k 55 (⟨(.type "code"),none,(.fields #[(.str "added" 238),(.str "added" 239),(.str "/claim/cut.py" 240),(.int (12) 0),(.int (3) 0),(.int (0) 0),(.int (0) 0),(.int (3) 0),(.ref 52),(.bool true),(.int (181) 0),(.ref 53),.none,.none,.none,(.ref 54),(.int (241) 0),(.int (12) 0),(.str "/claim/cut.py" 242)]),#[]⟩),
 Hd.k 56 (Hd.fo Row.gD "added" "added" (.str "latticeworks.rows" 230) (.ref 55)),
 Hd.k 60 (⟨(.type "code"),none,(.fields #[(.str "column" 244),(.str "column" 245),(.str "/claim/cut.py" 246),(.int (14) 0),(.int (2) 0),(.int (0) 0),(.int (0) 0),(.int (3) 0),(.ref 57),(.bool true),(.int (181) 0),(.ref 58),.none,.none,.none,(.ref 59),(.int (247) 0),(.int (14) 0),(.str "/claim/cut.py" 248)]),#[]⟩),
 Hd.k 61 (Hd.fo Row.fP "column" "column" (.str "latticeworks.rows" 230) (.ref 60)),
 Hd.k 65 (⟨(.type "code"),none,(.fields #[(.str "turned_over" 250),(.str "turned_over" 251),(.str "/claim/cut.py" 252),(.int (16) 0),(.int (2) 0),(.int (0) 0),(.int (0) 0),(.int (3) 0),(.ref 62),(.bool true),(.int (181) 0),(.ref 63),.none,.none,.none,(.ref 64),(.int (253) 0),(.int (16) 0),(.str "/claim/cut.py" 254)]),#[]⟩),
 Hd.k 66 (Hd.fo Row.c_ "turned_over" "turned_over" (.str "latticeworks.rows" 230) (.ref 65)),
 Hd.k 70 (⟨(.type "code"),none,(.fields #[(.str "unit_row" 256),(.str "unit_row" 257),(.str "/claim/cut.py" 258),(.int (18) 0),(.int (2) 0),(.int (0) 0),(.int (0) 0),(.int (3) 0),(.ref 67),(.bool true),(.int (181) 0),(.ref 68),.none,.none,.none,(.ref 69),(.int (259) 0),(.int (18) 0),(.str "/claim/cut.py" 260)]),#[]⟩),
 Hd.k 71 (Hd.fo Row.eJ "unit_row" "unit_row" (.str "latticeworks.rows" 230) (.ref 70)),
 Hd.k 75 (⟨(.type "code"),none,(.fields #[(.str "unit_rows" 262),(.str "unit_rows" 263),(.str "/claim/cut.py" 264),(.int (20) 0),(.int (1) 0),(.int (0) 0),(.int (0) 0),(.int (3) 0),(.ref 72),(.bool true),(.int (181) 0),(.ref 73),.none,.none,.none,(.ref 74),(.int (265) 0),(.int (20) 0),(.str "/claim/cut.py" 266)]),#[]⟩),
 Hd.k 76 (Hd.fo Row.dU "unit_rows" "unit_rows" (.str "latticeworks.rows" 230) (.ref 75)),
 Hd.k 80 (⟨(.type "code"),none,(.fields #[(.str "dot" 268),(.str "dot" 269),(.str "/claim/cut.py" 270),(.int (22) 0),(.int (2) 0),(.int (0) 0),(.int (0) 0),(.int (3) 0),(.ref 77),(.bool true),(.int (181) 0),(.ref 78),.none,.none,.none,(.ref 79),(.int (271) 0),(.int (22) 0),(.str "/claim/cut.py" 272)]),#[]⟩),
 Hd.k 81 (Hd.fo Row.jt "dot" "dot" (.str "latticeworks.rows" 230) (.ref 80)),
 Hd.k 87 (⟨(.type "code"),none,(.fields #[(.str "cleared" 276),(.str "cleared" 277),(.str "/claim/cut.py" 278),(.int (25) 0),(.int (4) 0),(.int (0) 0),(.int (0) 0),(.int (3) 0),(.ref 82),(.bool true),(.int (181) 0),(.ref 83),.none,(.ref 84),(.ref 85),(.ref 86),(.int (287) 0),(.int (25) 0),(.str "/claim/cut.py" 288)]),#[]⟩),
 Hd.k 88 (Hd.fo Row.fG "cleared" "cleared" (.str "latticeworks.shares" 274) (.ref 87)),
 Hd.k 94 (⟨(.type "code"),none,(.fields #[(.str "line_of" 290),(.str "line_of" 291),(.str "/claim/cut.py" 292),(.int (31) 0),(.int (3) 0),(.int (0) 0),(.int (0) 0),(.int (3) 0),(.ref 89),(.bool true),(.int (181) 0),(.ref 90),.none,(.ref 91),(.ref 92),(.ref 93),(.int (299) 0),(.int (31) 0),(.str "/claim/cut.py" 300)]),#[]⟩),
 Hd.k 95 (Hd.fo Row.fF "line_of" "line_of" (.str "latticeworks.shares" 274) (.ref 94)),
 Hd.k 101 (⟨(.type "code"),none,(.fields #[(.str "table_of" 302),(.str "table_of" 303),(.str "/claim/cut.py" 304),(.int (37) 0),(.int (1) 0),(.int (0) 0),(.int (0) 0),(.int (3) 0),(.ref 96),(.bool true),(.int (181) 0),(.ref 97),.none,(.ref 98),(.ref 99),(.ref 100),(.int (309) 0),(.int (37) 0),(.str "/claim/cut.py" 310)]),#[]⟩),
 Hd.k 102 (Hd.fo Row.e_ "table_of" "table_of" (.str "latticeworks.shares" 274) (.ref 101)),
 Hd.k 108 (⟨(.type "code"),none,(.fields #[(.str "nearest_quotient" 314),(.str "nearest_quotient" 315),(.str "/claim/cut.py" 316),(.int (46) 0),(.int (2) 0),(.int (0) 0),(.int (0) 0),(.int (3) 0),(.ref 103),(.bool true),(.int (181) 0),(.ref 104),.none,(.ref 105),(.ref 106),(.ref 107),(.int (319) 0),(.int (46) 0),(.str "/claim/cut.py" 320)]),#[]⟩),
 Hd.k 109 (Hd.fo Row.cu "nearest_quotient" "nearest_quotient" (.str "latticeworks.standing" 312) (.ref 108)),
 Hd.k 115 (⟨(.type "code"),none,(.fields #[(.str "exchanged" 322),(.str "exchanged" 323),(.str "/claim/cut.py" 324),(.int (48) 0),(.int (3) 0),(.int (0) 0),(.int (0) 0),(.int (3) 0),(.ref 110),(.bool true),(.int (181) 0),(.ref 111),.none,(.ref 112),(.ref 113),(.ref 114),(.int (329) 0),(.int (48) 0),(.str "/claim/cut.py" 330)]),#[]⟩),
 Hd.k 116 (Hd.fo Row.eh "exchanged" "exchanged" (.str "latticeworks.standing" 312) (.ref 115)),
 Hd.k 127 (⟨(.type "code"),none,(.fields #[(.str "__init__" 344),(.str "Bench.__init__" 345),(.str "/claim/cut.py" 346),(.int (55) 0),(.int (2) 0),(.int (0) 0),(.int (0) 0),(.int (3) 0),(.ref 124),(.bool true),(.int (181) 0),(.ref 125),.none,.none,.none,(.ref 126),(.int (347) 0),(.int (55) 0),(.str "/claim/cut.py" 348)]),#[]⟩),
 Hd.k 128 (Hd.fo Row.bM "__init__" "Bench.__init__" (.str "latticeworks.standing" 312) (.ref 127)),
 Hd.k 134 (⟨(.type "code"),none,(.fields #[(.str "take" 350),(.str "Bench.take" 351),(.str "/claim/cut.py" 352),(.int (60) 0),(.int (4) 0),(.int (0) 0),(.int (0) 0),(.int (3) 0),(.ref 129),(.bool true),(.int (181) 0),(.ref 130),.none,(.ref 131),(.ref 132),(.ref 133),(.int (357) 0),(.int (60) 0),(.str "/claim/cut.py" 358)]),#[]⟩),
 Hd.k 135 (Hd.fo Row.dW "take" "Bench.take" (.str "latticeworks.standing" 312) (.ref 134)),
 Hd.k 141 (⟨(.type "code"),none,(.fields #[(.str "exchange" 360),(.str "Bench.exchange" 361),(.str "/claim/cut.py" 362),(.int (65) 0),(.int (3) 0),(.int (0) 0),(.int (0) 0),(.int (3) 0),(.ref 136),(.bool true),(.int (181) 0),(.ref 137),.none,(.ref 138),(.ref 139),(.ref 140),(.int (366) 0),(.int (65) 0),(.str "/claim/cut.py" 367)]),#[]⟩),
 Hd.k 142 (Hd.fo Row.cK "exchange" "Bench.exchange" (.str "latticeworks.standing" 312) (.ref 141)),
 Hd.k 172 (Hd.no P 4 [Hd.e "__module__" 339 (.str "latticeworks.standing" 312),Hd.e "__firstlineno__" 343 (.int (53) 342),Hd.e "__init__" 349 (.ref 128),Hd.e "take" 359 (.ref 135),Hd.e "exchange" 368 (.ref 142),Hd.e "change_sign" 376 (.ref 149),Hd.e "live_rows" 385 (.ref 156),Hd.e "gather" 394 (.ref 163),Hd.e "lower_above" 403 (.ref 170),Hd.e "__static_attributes__" 407 (.ref 171),Hd.e "__dict__" 409 (.ref 174),Hd.e "__weakref__" 411 (.ref 175),Hd.e "__doc__" 412 .none]),
 Hd.k 173 (⟨(.type "type"),none,.cls {name:="Bench",bases:=[(.type "object")],mro:=[(.ref 173),(.type "object")],ns:=172,qualname:="Bench",hasDict:=true,subclasses:=[],abstract:=false,hasDel:=false},#[none,none,(some (.str "Bench" 332)),(some (.str "Bench" 340)),(some (.builtin "object.__new__")),(some (.bool true))]⟩),
 Hd.k 190 (⟨(.type "code"),none,(.fields #[(.str "__init__" 429),(.str "Stairs.__init__" 430),(.str "/claim/cut.py" 431),(.int (84) 0),(.int (2) 0),(.int (0) 0),(.int (0) 0),(.int (3) 0),(.ref 185),(.bool true),(.int (181) 0),(.ref 186),.none,(.ref 187),(.ref 188),(.ref 189),(.int (434) 0),(.int (84) 0),(.str "/claim/cut.py" 435)]),#[]⟩),
 Hd.k 191 (Hd.fo Row.cD "__init__" "Stairs.__init__" (.str "latticeworks.short" 415) (.ref 190)),
 Hd.k 197 (⟨(.type "code"),none,(.fields #[(.str "last_of" 437),(.str "Stairs.last_of" 438),(.str "/claim/cut.py" 439),(.int (88) 0),(.int (2) 0),(.int (0) 0),(.int (0) 0),(.int (3) 0),(.ref 192),(.bool true),(.int (181) 0),(.ref 193),.none,(.ref 194),(.ref 195),(.ref 196),(.int (442) 0),(.int (88) 0),(.str "/claim/cut.py" 443)]),#[]⟩),
 Hd.k 198 (Hd.fo Row.cx "last_of" "Stairs.last_of" (.str "latticeworks.short" 415) (.ref 197)),
 Hd.k 204 (⟨(.type "code"),none,(.fields #[(.str "lessen" 445),(.str "Stairs.lessen" 446),(.str "/claim/cut.py" 447),(.int (91) 0),(.int (3) 0),(.int (0) 0),(.int (0) 0),(.int (3) 0),(.ref 199),(.bool true),(.int (181) 0),(.ref 200),.none,(.ref 201),(.ref 202),(.ref 203),(.int (453) 0),(.int (91) 0),(.str "/claim/cut.py" 454)]),#[]⟩),
 Hd.k 205 (Hd.fo Row.cR "lessen" "Stairs.lessen" (.str "latticeworks.short" 415) (.ref 204)),
 Hd.k 211 (⟨(.type "code"),none,(.fields #[(.str "is_steep" 456),(.str "Stairs.is_steep" 457),(.str "/claim/cut.py" 458),(.int (99) 0),(.int (2) 0),(.int (0) 0),(.int (0) 0),(.int (3) 0),(.ref 206),(.bool true),(.int (181) 0),(.ref 207),.none,(.ref 208),(.ref 209),(.ref 210),(.int (463) 0),(.int (99) 0),(.str "/claim/cut.py" 464)]),#[]⟩),
 Hd.k 212 (Hd.fo Row.cE "is_steep" "Stairs.is_steep" (.str "latticeworks.short" 415) (.ref 211)),
 Hd.k 218 (⟨(.type "code"),none,(.fields #[(.str "swap" 466),(.str "Stairs.swap" 467),(.str "/claim/cut.py" 468),(.int (104) 0),(.int (2) 0),(.int (0) 0),(.int (0) 0),(.int (3) 0),(.ref 213),(.bool true),(.int (181) 0),(.ref 214),.none,(.ref 215),(.ref 216),(.ref 217),(.int (480) 0),(.int (104) 0),(.str "/claim/cut.py" 481)]),#[]⟩),
 Hd.k 219 (Hd.fo Row.dy "swap" "Stairs.swap" (.str "latticeworks.short" 415) (.ref 218)),
 Hd.k 225 (⟨(.type "code"),none,(.fields #[(.str "shorten" 483),(.str "Stairs.shorten" 484),(.str "/claim/cut.py" 485),(.int (119) 0),(.int (1) 0),(.int (0) 0),(.int (0) 0),(.int (3) 0),(.ref 220),(.bool true),(.int (181) 0),(.ref 221),.none,(.ref 222),(.ref 223),(.ref 224),(.int (489) 0),(.int (119) 0),(.str "/claim/cut.py" 490)]),#[]⟩),
 Hd.k 226 (Hd.fo Row.cL "shorten" "Stairs.shorten" (.str "latticeworks.short" 415) (.ref 225)),
 Hd.k 228 (Hd.no P 4 [Hd.e "__module__" 424 (.str "latticeworks.short" 415),Hd.e "__firstlineno__" 428 (.int (82) 427),Hd.e "__init__" 436 (.ref 191),Hd.e "last_of" 444 (.ref 198),Hd.e "lessen" 455 (.ref 205),Hd.e "is_steep" 465 (.ref 212),Hd.e "swap" 482 (.ref 219),Hd.e "shorten" 491 (.ref 226),Hd.e "__static_attributes__" 494 (.ref 227),Hd.e "__dict__" 496 (.ref 230),Hd.e "__weakref__" 498 (.ref 231),Hd.e "__doc__" 499 .none]),
 Hd.k 229 (⟨(.type "type"),none,.cls {name:="Stairs",bases:=[(.type "object")],mro:=[(.ref 229),(.type "object")],ns:=228,qualname:="Stairs",hasDict:=true,subclasses:=[],abstract:=false,hasDel:=false},#[none,none,(some (.str "Stairs" 417)),(some (.str "Stairs" 425)),(some (.builtin "object.__new__")),(some (.bool true))]⟩),
 Hd.k 239 (⟨(.type "code"),none,(.fields #[(.str "short" 502),(.str "short" 503),(.str "/claim/cut.py" 504),(.int (130) 0),(.int (1) 0),(.int (0) 0),(.int (0) 0),(.int (3) 0),(.ref 234),(.bool true),(.int (181) 0),(.ref 235),.none,(.ref 236),(.ref 237),(.ref 238),(.int (508) 0),(.int (130) 0),(.str "/claim/cut.py" 509)]),#[]⟩),
 Hd.k 240 (Hd.fo Row.g_ "short" "short" (.str "latticeworks.short" 415) (.ref 239)),
 Hd.k 246 (⟨(.type "code"),none,(.fields #[(.str "_law_at" 513),(.str "_law_at" 514),(.str "/claim/cut.py" 515),(.int (136) 0),(.int (2) 0),(.int (0) 0),(.int (0) 0),(.int (3) 0),(.ref 241),(.bool true),(.int (181) 0),(.ref 242),.none,(.ref 243),(.ref 244),(.ref 245),(.int (518) 0),(.int (136) 0),(.str "/claim/cut.py" 519)]),#[]⟩),
 Hd.k 247 (Hd.fo Row.gw "_law_at" "_law_at" (.str "law_latticeworks_k34_short_steps" 511) (.ref 246)),
 Hd.k 253 (⟨(.type "code"),none,(.fields #[(.str "_law_left" 521),(.str "_law_left" 522),(.str "/claim/cut.py" 523),(.int (140) 0),(.int (2) 0),(.int (0) 0),(.int (0) 0),(.int (3) 0),(.ref 248),(.bool true),(.int (181) 0),(.ref 249),.none,(.ref 250),(.ref 251),(.ref 252),(.int (530) 0),(.int (140) 0),(.str "/claim/cut.py" 531)]),#[]⟩),
 Hd.k 254 (Hd.fo Row.fb "_law_left" "_law_left" (.str "law_latticeworks_k34_short_steps" 511) (.ref 253)),
 Hd.k 260 (⟨(.type "code"),none,(.fields #[(.str "_law_digit" 533),(.str "_law_digit" 534),(.str "/claim/cut.py" 535),(.int (150) 0),(.int (2) 0),(.int (0) 0),(.int (0) 0),(.int (3) 0),(.ref 255),(.bool true),(.int (181) 0),(.ref 256),.none,(.ref 257),(.ref 258),(.ref 259),(.int (539) 0),(.int (150) 0),(.str "/claim/cut.py" 540)]),#[]⟩),
 Hd.k 261 (Hd.fo Row.df "_law_digit" "_law_digit" (.str "law_latticeworks_k34_short_steps" 511) (.ref 260)),
 Hd.k 267 (⟨(.type "code"),none,(.fields #[(.str "_law_number" 542),(.str "_law_number" 543),(.str "/claim/cut.py" 544),(.int (154) 0),(.int (2) 0),(.int (0) 0),(.int (0) 0),(.int (3) 0),(.ref 262),(.bool true),(.int (181) 0),(.ref 263),.none,(.ref 264),(.ref 265),(.ref 266),(.int (548) 0),(.int (154) 0),(.str "/claim/cut.py" 549)]),#[]⟩),
 Hd.k 268 (Hd.fo Row.dv "_law_number" "_law_number" (.str "law_latticeworks_k34_short_steps" 511) (.ref 267)),
 Hd.k 272 (⟨(.type "code"),none,(.fields #[(.str "_law_rows" 551),(.str "_law_rows" 552),(.str "/claim/cut.py" 553),(.int (161) 0),(.int (4) 0),(.int (0) 0),(.int (0) 0),(.int (3) 0),(.ref 269),(.bool true),(.int (181) 0),(.ref 270),.none,.none,.none,(.ref 271),(.int (554) 0),(.int (161) 0),(.str "/claim/cut.py" 555)]),#[]⟩),
 Hd.k 273 (Hd.fo Row.eG "_law_rows" "_law_rows" (.str "law_latticeworks_k34_short_steps" 511) (.ref 272)),
 Hd.k 279 (⟨(.type "code"),none,(.fields #[(.str "_law_drawn" 557),(.str "_law_drawn" 558),(.str "/claim/cut.py" 559),(.int (163) 0),(.int (1) 0),(.int (0) 0),(.int (0) 0),(.int (3) 0),(.ref 274),(.bool true),(.int (181) 0),(.ref 275),.none,(.ref 276),(.ref 277),(.ref 278),(.int (564) 0),(.int (163) 0),(.str "/claim/cut.py" 565)]),#[]⟩),
 Hd.k 280 (Hd.fo Row.dz "_law_drawn" "_law_drawn" (.str "law_latticeworks_k34_short_steps" 511) (.ref 279)),
 Hd.k 284 (⟨(.type "code"),none,(.fields #[(.str "_law_columned" 567),(.str "_law_columned" 568),(.str "/claim/cut.py" 569),(.int (173) 0),(.int (1) 0),(.int (0) 0),(.int (0) 0),(.int (3) 0),(.ref 281),(.bool true),(.int (181) 0),(.ref 282),.none,.none,.none,(.ref 283),(.int (570) 0),(.int (173) 0),(.str "/claim/cut.py" 571)]),#[]⟩),
 Hd.k 285 (Hd.fo Row.cG "_law_columned" "_law_columned" (.str "law_latticeworks_k34_short_steps" 511) (.ref 284)),
 Hd.k 289 (⟨(.type "code"),none,(.fields #[(.str "_law_dot" 573),(.str "_law_dot" 574),(.str "/claim/cut.py" 575),(.int (177) 0),(.int (2) 0),(.int (0) 0),(.int (0) 0),(.int (3) 0),(.ref 286),(.bool true),(.int (181) 0),(.ref 287),.none,.none,.none,(.ref 288),(.int (576) 0),(.int (177) 0),(.str "/claim/cut.py" 577)]),#[]⟩),
 Hd.k 290 (Hd.fo Row.fe "_law_dot" "_law_dot" (.str "law_latticeworks_k34_short_steps" 511) (.ref 289)),
 Hd.k 296 (⟨(.type "code"),none,(.fields #[(.str "_law_own" 579),(.str "_law_own" 580),(.str "/claim/cut.py" 581),(.int (179) 0),(.int (1) 0),(.int (0) 0),(.int (0) 0),(.int (3) 0),(.ref 291),(.bool true),(.int (181) 0),(.ref 292),.none,(.ref 293),(.ref 294),(.ref 295),(.int (592) 0),(.int (179) 0),(.str "/claim/cut.py" 593)]),#[]⟩),
 Hd.k 297 (Hd.fo Row.fh "_law_own" "_law_own" (.str "law_latticeworks_k34_short_steps" 511) (.ref 296)),
 Hd.k 303 (⟨(.type "code"),none,(.fields #[(.str "_law_short" 595),(.str "_law_short" 596),(.str "/claim/cut.py" 597),(.int (196) 0),(.int (1) 0),(.int (0) 0),(.int (0) 0),(.int (3) 0),(.ref 298),(.bool true),(.int (181) 0),(.ref 299),.none,(.ref 300),(.ref 301),(.ref 302),(.int (606) 0),(.int (196) 0),(.str "/claim/cut.py" 607)]),#[]⟩),
 Hd.k 304 (Hd.fo Row.d_ "_law_short" "_law_short" (.str "law_latticeworks_k34_short_steps" 511) (.ref 303)),
 Hd.k 308 (⟨(.type "code"),none,(.fields #[(.str "_law_product" 609),(.str "_law_product" 610),(.str "/claim/cut.py" 611),(.int (211) 0),(.int (2) 0),(.int (0) 0),(.int (0) 0),(.int (3) 0),(.ref 305),(.bool true),(.int (181) 0),(.ref 306),.none,.none,.none,(.ref 307),(.int (612) 0),(.int (211) 0),(.str "/claim/cut.py" 613)]),#[]⟩),
 Hd.k 309 (Hd.fo Row.cZ "_law_product" "_law_product" (.str "law_latticeworks_k34_short_steps" 511) (.ref 308)),
 Hd.k 313 (⟨(.type "code"),none,(.fields #[(.str "_law_unit" 615),(.str "_law_unit" 616),(.str "/claim/cut.py" 617),(.int (219) 0),(.int (1) 0),(.int (0) 0),(.int (0) 0),(.int (3) 0),(.ref 310),(.bool true),(.int (181) 0),(.ref 311),.none,.none,.none,(.ref 312),(.int (618) 0),(.int (219) 0),(.str "/claim/cut.py" 619)]),#[]⟩),
 Hd.k 314 (Hd.fo Row.eF "_law_unit" "_law_unit" (.str "law_latticeworks_k34_short_steps" 511) (.ref 313)),
 Hd.k 318 (⟨(.type "code"),none,(.fields #[(.str "_law_is_rows" 621),(.str "_law_is_rows" 622),(.str "/claim/cut.py" 623),(.int (221) 0),(.int (3) 0),(.int (0) 0),(.int (0) 0),(.int (3) 0),(.ref 315),(.bool true),(.int (181) 0),(.ref 316),.none,.none,.none,(.ref 317),(.int (624) 0),(.int (221) 0),(.str "/claim/cut.py" 625)]),#[]⟩),
 Hd.k 319 (Hd.fo Row.cX "_law_is_rows" "_law_is_rows" (.str "law_latticeworks_k34_short_steps" 511) (.ref 318)),
 Hd.k 325 (⟨(.type "code"),none,(.fields #[(.str "_law_is_told" 627),(.str "_law_is_told" 628),(.str "/claim/cut.py" 629),(.int (230) 0),(.int (2) 0),(.int (0) 0),(.int (0) 0),(.int (3) 0),(.ref 320),(.bool true),(.int (181) 0),(.ref 321),.none,(.ref 322),(.ref 323),(.ref 324),(.int (636) 0),(.int (230) 0),(.str "/claim/cut.py" 637)]),#[]⟩),
 Hd.k 326 (Hd.fo Row.dw "_law_is_told" "_law_is_told" (.str "law_latticeworks_k34_short_steps" 511) (.ref 325)),
 Hd.k 330 (⟨(.type "code"),none,(.fields #[(.str "law" 639),(.str "law" 640),(.str "/claim/cut.py" 641),(.int (240) 0),(.int (1) 0),(.int (0) 0),(.int (0) 0),(.int (3) 0),(.ref 327),(.bool true),(.int (181) 0),(.ref 328),.none,.none,.none,(.ref 329),(.int (642) 0),(.int (240) 0),(.str "/claim/cut.py" 643)]),#[]⟩),
 Hd.k 331 (Hd.fo Row.h_ "law" "law" (.str "law_latticeworks_k34_short_steps" 511) (.ref 330))]
noncomputable def Row.KA:List Addr:=[3,50,51,55,56,60,61,65,66,70,71,75,76,80,81,87,88,94,95,101,102,108,109,115,116,127,128,134,135,141,142,172,173,190,191,197,198,204,205,211,212,218,219,225,226,228,229,239,240,246,247,253,254,260,261,267,268,272,273,279,280,284,285,289,290,296,297,303,304,308,309,313,314,318,319,325,326,330,331]
noncomputable def Row.dL:DefRec:=match Row.top 38 with
 | .FunctionDef n a b _ _ _ sc _ _ pos=>⟨n,a,b,sc,pos⟩
 |_=>⟨"",L2.aW (.Pass ⟨0,0,0,0⟩),[],L2.ah (.Pass ⟨0,0,0,0⟩),⟨0,0,0,0⟩⟩
theorem Row.BW:PySem.Challenge.rw_latticeworks_k34_short_steps.wellSaid=true:=by decide+kernel
set_option maxRecDepth 100000 in
set_option maxHeartbeats 0 in
theorem Row.left:PySem.W.LeftO PySem.Challenge.pw_latticeworks_k34_short_steps (PySem.W.view PySem.Challenge.pw_latticeworks_k34_short_steps [0,2,3,5,6,7,8,9,10,11,13,14,15,17,18,19,21,22,24,25,26,27,28,29,30,31,32,33,34,35,36,37,38]) [] (fun _=>true) (PySem.W.kmHook Row.KX Row.KA (fun _=>rfl) []).obs (PySem.W.kmHook Row.KX Row.KA (fun _=>rfl) []).val 4372:=
 Hd.left (by kernel_rfl) (fun s=>by kernel_rfl) rfl fun w os=>by kernel_rfl
set_option maxRecDepth 100000 in
set_option maxHeartbeats 0 in
theorem PySem.Challenge.cw_latticeworks_k34_short_steps_holds : PySem.Challenge.rw_latticeworks_k34_short_steps.Holds := by
 refine PySem.W.holds_law Row.BW fun BW=>?_
 refine PySem.W.holds_open (r:=PySem.Challenge.rw_latticeworks_k34_short_steps.row) (q:=PySem.W.view PySem.Challenge.pw_latticeworks_k34_short_steps [0,2,3,5,6,7,8,9,10,11,13,14,15,17,18,19,21,22,24,25,26,27,28,29,30,31,32,33,34,35,36,37,38]) (loose:=[]) (Xt:=fun _=>true) (XP:=fun _ _=>True) (YP:=(PySem.W.kmHook Row.KX Row.KA (fun _=>rfl) []).says) (d:=Row.dL) (kwd:=[]) Row.left ((PySem.W.kmHook Row.KX Row.KA (fun _=>rfl) []).of) ((PySem.W.kmHook Row.KX Row.KA (fun _=>rfl) []).keeps) (fun _ _=>trivial) (fun _ _ _ _ _=>trivial) (by kernel_rfl) (by kernel_rfl) (by kernel_rfl) (fun s _=>PySem.W.recFacts_of (R:=[]) rfl) (by kernel_rfl) BW (by decide+kernel) ⟨rfl,rfl,rfl,rfl,rfl,by decide+kernel⟩ ?hw ?hc
 case hw=>w_witness2
 refine Row.walk (l:=PySem.Challenge.rw_latticeworks_k34_short_steps) (K:=Row.KX) rfl (by kernel_rfl) (by kernel_rfl) rfl (fun w h Y=>⟨PySem.W.km_in_of Y,⟨(fun q hq=>by cases hq),(fun q hq=>by cases hq),fun q hq=>by cases hq⟩⟩) ?F
 case F=>
  intro w mg fa h KX G hmg
  exact Row.all_mk (f0:=51) (oc0:= .type "function") (od0:=none) (sl0:= #[]) (kV0:= .none) (dc0:= .none) (pm0:=(.str "latticeworks.rows" 230)) (an0:=none) (cd0:=(.ref 50)) (ct0:= .none) (f1:=56) (oc1:= .type "function") (od1:=none) (sl1:= #[]) (kV1:= .none) (dc1:= .none) (pm1:=(.str "latticeworks.rows" 230)) (an1:=none) (cd1:=(.ref 55)) (ct1:= .none) (f2:=61) (oc2:= .type "function") (od2:=none) (sl2:= #[]) (kV2:= .none) (dc2:= .none) (pm2:=(.str "latticeworks.rows" 230)) (an2:=none) (cd2:=(.ref 60)) (ct2:= .none) (f3:=66) (oc3:= .type "function") (od3:=none) (sl3:= #[]) (kV3:= .none) (dc3:= .none) (pm3:=(.str "latticeworks.rows" 230)) (an3:=none) (cd3:=(.ref 65)) (ct3:= .none) (f4:=71) (oc4:= .type "function") (od4:=none) (sl4:= #[]) (kV4:= .none) (dc4:= .none) (pm4:=(.str "latticeworks.rows" 230)) (an4:=none) (cd4:=(.ref 70)) (ct4:= .none) (f5:=76) (oc5:= .type "function") (od5:=none) (sl5:= #[]) (kV5:= .none) (dc5:= .none) (pm5:=(.str "latticeworks.rows" 230)) (an5:=none) (cd5:=(.ref 75)) (ct5:= .none) (f6:=81) (oc6:= .type "function") (od6:=none) (sl6:= #[]) (kV6:= .none) (dc6:= .none) (pm6:=(.str "latticeworks.rows" 230)) (an6:=none) (cd6:=(.ref 80)) (ct6:= .none) (f7:=88) (oc7:= .type "function") (od7:=none) (sl7:= #[]) (kV7:= .none) (dc7:= .none) (pm7:=(.str "latticeworks.shares" 274)) (an7:=none) (cd7:=(.ref 87)) (ct7:= .none) (f8:=95) (oc8:= .type "function") (od8:=none) (sl8:= #[]) (kV8:= .none) (dc8:= .none) (pm8:=(.str "latticeworks.shares" 274)) (an8:=none) (cd8:=(.ref 94)) (ct8:= .none) (f9:=102) (oc9:= .type "function") (od9:=none) (sl9:= #[]) (kV9:= .none) (dc9:= .none) (pm9:=(.str "latticeworks.shares" 274)) (an9:=none) (cd9:=(.ref 101)) (ct9:= .none) (f10:=109) (oc10:= .type "function") (od10:=none) (sl10:= #[]) (kV10:= .none) (dc10:= .none) (pm10:=(.str "latticeworks.standing" 312)) (an10:=none) (cd10:=(.ref 108)) (ct10:= .none) (f11:=116) (oc11:= .type "function") (od11:=none) (sl11:= #[]) (kV11:= .none) (dc11:= .none) (pm11:=(.str "latticeworks.standing" 312)) (an11:=none) (cd11:=(.ref 115)) (ct11:= .none) (f12:=128) (oc12:= .type "function") (od12:=none) (sl12:= #[]) (kV12:= .none) (dc12:= .none) (pm12:=(.str "latticeworks.standing" 312)) (an12:=none) (cd12:=(.ref 127)) (ct12:= .none) (f13:=135) (oc13:= .type "function") (od13:=none) (sl13:= #[]) (kV13:= .none) (dc13:= .none) (pm13:=(.str "latticeworks.standing" 312)) (an13:=none) (cd13:=(.ref 134)) (ct13:= .none) (f14:=142) (oc14:= .type "function") (od14:=none) (sl14:= #[]) (kV14:= .none) (dc14:= .none) (pm14:=(.str "latticeworks.standing" 312)) (an14:=none) (cd14:=(.ref 141)) (ct14:= .none) (f15:=191) (oc15:= .type "function") (od15:=none) (sl15:= #[]) (kV15:= .none) (dc15:= .none) (pm15:=(.str "latticeworks.short" 415)) (an15:=none) (cd15:=(.ref 190)) (ct15:= .none) (f16:=198) (oc16:= .type "function") (od16:=none) (sl16:= #[]) (kV16:= .none) (dc16:= .none) (pm16:=(.str "latticeworks.short" 415)) (an16:=none) (cd16:=(.ref 197)) (ct16:= .none) (f17:=205) (oc17:= .type "function") (od17:=none) (sl17:= #[]) (kV17:= .none) (dc17:= .none) (pm17:=(.str "latticeworks.short" 415)) (an17:=none) (cd17:=(.ref 204)) (ct17:= .none) (f18:=212) (oc18:= .type "function") (od18:=none) (sl18:= #[]) (kV18:= .none) (dc18:= .none) (pm18:=(.str "latticeworks.short" 415)) (an18:=none) (cd18:=(.ref 211)) (ct18:= .none) (f19:=219) (oc19:= .type "function") (od19:=none) (sl19:= #[]) (kV19:= .none) (dc19:= .none) (pm19:=(.str "latticeworks.short" 415)) (an19:=none) (cd19:=(.ref 218)) (ct19:= .none) (f20:=226) (oc20:= .type "function") (od20:=none) (sl20:= #[]) (kV20:= .none) (dc20:= .none) (pm20:=(.str "latticeworks.short" 415)) (an20:=none) (cd20:=(.ref 225)) (ct20:= .none) (f21:=240) (oc21:= .type "function") (od21:=none) (sl21:= #[]) (kV21:= .none) (dc21:= .none) (pm21:=(.str "latticeworks.short" 415)) (an21:=none) (cd21:=(.ref 239)) (ct21:= .none) (f22:=247) (oc22:= .type "function") (od22:=none) (sl22:= #[]) (kV22:= .none) (dc22:= .none) (pm22:=(.str "law_latticeworks_k34_short_steps" 511)) (an22:=none) (cd22:=(.ref 246)) (ct22:= .none) (f23:=254) (oc23:= .type "function") (od23:=none) (sl23:= #[]) (kV23:= .none) (dc23:= .none) (pm23:=(.str "law_latticeworks_k34_short_steps" 511)) (an23:=none) (cd23:=(.ref 253)) (ct23:= .none) (f24:=261) (oc24:= .type "function") (od24:=none) (sl24:= #[]) (kV24:= .none) (dc24:= .none) (pm24:=(.str "law_latticeworks_k34_short_steps" 511)) (an24:=none) (cd24:=(.ref 260)) (ct24:= .none) (f25:=268) (oc25:= .type "function") (od25:=none) (sl25:= #[]) (kV25:= .none) (dc25:= .none) (pm25:=(.str "law_latticeworks_k34_short_steps" 511)) (an25:=none) (cd25:=(.ref 267)) (ct25:= .none) (f26:=273) (oc26:= .type "function") (od26:=none) (sl26:= #[]) (kV26:= .none) (dc26:= .none) (pm26:=(.str "law_latticeworks_k34_short_steps" 511)) (an26:=none) (cd26:=(.ref 272)) (ct26:= .none) (f27:=280) (oc27:= .type "function") (od27:=none) (sl27:= #[]) (kV27:= .none) (dc27:= .none) (pm27:=(.str "law_latticeworks_k34_short_steps" 511)) (an27:=none) (cd27:=(.ref 279)) (ct27:= .none) (f28:=285) (oc28:= .type "function") (od28:=none) (sl28:= #[]) (kV28:= .none) (dc28:= .none) (pm28:=(.str "law_latticeworks_k34_short_steps" 511)) (an28:=none) (cd28:=(.ref 284)) (ct28:= .none) (f29:=290) (oc29:= .type "function") (od29:=none) (sl29:= #[]) (kV29:= .none) (dc29:= .none) (pm29:=(.str "law_latticeworks_k34_short_steps" 511)) (an29:=none) (cd29:=(.ref 289)) (ct29:= .none) (f30:=297) (oc30:= .type "function") (od30:=none) (sl30:= #[]) (kV30:= .none) (dc30:= .none) (pm30:=(.str "law_latticeworks_k34_short_steps" 511)) (an30:=none) (cd30:=(.ref 296)) (ct30:= .none) (f31:=304) (oc31:= .type "function") (od31:=none) (sl31:= #[]) (kV31:= .none) (dc31:= .none) (pm31:=(.str "law_latticeworks_k34_short_steps" 511)) (an31:=none) (cd31:=(.ref 303)) (ct31:= .none) (f32:=309) (oc32:= .type "function") (od32:=none) (sl32:= #[]) (kV32:= .none) (dc32:= .none) (pm32:=(.str "law_latticeworks_k34_short_steps" 511)) (an32:=none) (cd32:=(.ref 308)) (ct32:= .none) (f33:=314) (oc33:= .type "function") (od33:=none) (sl33:= #[]) (kV33:= .none) (dc33:= .none) (pm33:=(.str "law_latticeworks_k34_short_steps" 511)) (an33:=none) (cd33:=(.ref 313)) (ct33:= .none) (f34:=319) (oc34:= .type "function") (od34:=none) (sl34:= #[]) (kV34:= .none) (dc34:= .none) (pm34:=(.str "law_latticeworks_k34_short_steps" 511)) (an34:=none) (cd34:=(.ref 318)) (ct34:= .none) (f35:=326) (oc35:= .type "function") (od35:=none) (sl35:= #[]) (kV35:= .none) (dc35:= .none) (pm35:=(.str "law_latticeworks_k34_short_steps" 511)) (an35:=none) (cd35:=(.ref 325)) (ct35:= .none) (f36:=331) (oc36:= .type "function") (od36:=none) (sl36:= #[]) (kV36:= .none) (dc36:= .none) (pm36:=(.str "law_latticeworks_k34_short_steps" 511)) (an36:=none) (cd36:=(.ref 330)) (ct36:= .none) KX G hmg (by kernel_rfl) (by kernel_rfl) (by kernel_rfl) (by kernel_rfl) (by kernel_rfl) (by kernel_rfl) (by kernel_rfl) (by kernel_rfl) (by kernel_rfl) (by kernel_rfl) (by kernel_rfl) (by kernel_rfl) (by kernel_rfl) (by kernel_rfl) (by kernel_rfl) (by kernel_rfl) (by kernel_rfl) (by kernel_rfl) (by kernel_rfl) (by kernel_rfl) (by kernel_rfl) (by kernel_rfl) (by kernel_rfl) (by kernel_rfl) (by kernel_rfl) (by kernel_rfl) (by kernel_rfl) (by kernel_rfl) (by kernel_rfl) (by kernel_rfl) (by kernel_rfl) (by kernel_rfl) (by kernel_rfl) (by kernel_rfl) (by kernel_rfl) (by kernel_rfl) (by kernel_rfl) (by kernel_rfl) (by kernel_rfl) (by kernel_rfl) (by kernel_rfl) (by kernel_rfl) (by kernel_rfl) (by kernel_rfl) (by kernel_rfl) (by kernel_rfl) (by kernel_rfl) (by kernel_rfl) (by kernel_rfl) (by kernel_rfl) (by kernel_rfl) (by kernel_rfl) (by kernel_rfl) (by kernel_rfl) (by kernel_rfl) (by kernel_rfl) (by kernel_rfl) (by kernel_rfl) (by kernel_rfl) (by kernel_rfl) (by kernel_rfl) (by kernel_rfl) (by kernel_rfl) (by kernel_rfl) (by kernel_rfl) (by kernel_rfl) (by kernel_rfl) (by kernel_rfl) (by kernel_rfl) (by kernel_rfl) (by kernel_rfl) (by kernel_rfl) (by kernel_rfl) (by kernel_rfl) (by kernel_rfl) (by kernel_rfl) (by kernel_rfl) (by kernel_rfl) (by kernel_rfl) (by kernel_rfl) (by kernel_rfl) (by kernel_rfl) (by kernel_rfl) (by kernel_rfl) (by kernel_rfl) (by kernel_rfl) (by kernel_rfl) (by kernel_rfl) (by kernel_rfl) (by kernel_rfl) (by kernel_rfl) (by kernel_rfl) (by kernel_rfl) (by kernel_rfl) (by kernel_rfl) (by kernel_rfl) (by kernel_rfl) (by kernel_rfl) (by kernel_rfl) (by kernel_rfl) (by kernel_rfl) (by kernel_rfl) (by kernel_rfl) (by kernel_rfl) (by kernel_rfl) (by kernel_rfl) (by kernel_rfl) (by kernel_rfl) (by kernel_rfl) (by kernel_rfl) (by kernel_rfl) (by kernel_rfl) (by kernel_rfl) (by kernel_rfl) (by kernel_rfl) (by kernel_rfl) (by kernel_rfl) (by kernel_rfl) (by kernel_rfl) (by kernel_rfl) (by kernel_rfl) (by kernel_rfl) (by kernel_rfl) (by kernel_rfl) (by kernel_rfl) (by kernel_rfl) (by kernel_rfl) (by kernel_rfl) (by kernel_rfl) (by kernel_rfl) (by kernel_rfl) (by kernel_rfl) (by kernel_rfl) (by kernel_rfl) (by kernel_rfl) (by kernel_rfl) (by kernel_rfl) (by kernel_rfl) (by kernel_rfl) (by kernel_rfl) (by kernel_rfl) (by kernel_rfl) (by kernel_rfl) (by kernel_rfl) (by kernel_rfl) (by kernel_rfl) (by kernel_rfl) (by kernel_rfl) (by kernel_rfl) (by kernel_rfl) (by kernel_rfl) (by kernel_rfl) (by kernel_rfl) (by kernel_rfl) (by kernel_rfl) (by kernel_rfl) (by kernel_rfl) (by kernel_rfl) (by kernel_rfl) (by kernel_rfl) (by kernel_rfl) (by kernel_rfl) (by kernel_rfl) (by kernel_rfl) (by kernel_rfl) (by kernel_rfl) (by kernel_rfl) (by kernel_rfl) (by kernel_rfl) (by kernel_rfl) (by kernel_rfl) (by kernel_rfl) (by kernel_rfl) (by kernel_rfl) (by kernel_rfl) (by kernel_rfl) (by kernel_rfl) (by kernel_rfl) (by kernel_rfl) (by kernel_rfl) (by kernel_rfl) (by kernel_rfl) (by kernel_rfl) (by kernel_rfl) (by kernel_rfl) (by kernel_rfl) (by kernel_rfl) (by kernel_rfl) (by kernel_rfl)
