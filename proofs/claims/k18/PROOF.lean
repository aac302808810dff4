import PyProof.Rows.All
import Wide.All
import OpenK.AllK
import Wide.FinOn
import Lean
import PyProof.EqAt
import PyProof.EqKinds
import PyProof.TupleCall
import PyProof.NeKinds
import KE.KUnpack
import PySem.Challenge.RW_latticeworks_k18_whole_inside_by_the_for
set_option Elab.async false
set_option linter.all false
set_option maxRecDepth 100000
namespace L2
open PySem PySem.Spec PyProof.Rows
noncomputable abbrev Key:=Sum Int Str
noncomputable def FO:Key→Value→Bool
 | .inl k,v=>Value.isInt k v
 | .inr x,v=>Value.isStrOf x v
noncomputable def NL(w:World):Key→Int
 | .inl k=>hashInt k
 | .inr x=>hashStr w x
theorem eh:∀ {k:Key} {v:Value},FO k v=true→(∃i t,k=Sum.inl i∧v=Value.int i t)∨(∃x t,k=Sum.inr x∧v=Value.str x t)
 | .inl i,v,h=>by
   obtain⟨t,e⟩:=Value.isInt_shape (k:=i) (v:=v) h
   exact .inl ⟨i,t,rfl,e⟩
 | .inr x,v,h=>by
   obtain⟨t,e⟩:=Value.isStrOf_shape (x:=x) (v:=v) h
   exact .inr ⟨x,t,rfl,e⟩
theorem IM(a b:Int):decide ((Sum.inl a:Key)=Sum.inl b)=(a==b):=by
 by_cases e:a=b
 · subst e;simp
 · have h:¬(Sum.inl a:Key)=Sum.inl b:=fun q=>e (Sum.inl.inj q)
   rw[decide_eq_false h]
   exact(beq_eq_false_iff_ne.mpr e).symm
theorem Jg(a b:Str):decide ((Sum.inr a:Key)=Sum.inr b)=decide (a=b):=by
 by_cases e:a=b
 · subst e;simp
 · have h:¬(Sum.inr a:Key)=Sum.inr b:=fun q=>e (Sum.inr.inj q)
   rw[decide_eq_false h,decide_eq_false e]
theorem KJ(a:Int)(b:Str):decide ((Sum.inl a:Key)=Sum.inr b)=false:=decide_eq_false (fun q=>nomatch q)
theorem Ja(a:Str)(b:Int):decide ((Sum.inr a:Key)=Sum.inl b)=false:=decide_eq_false (fun q=>nomatch q)
noncomputable def AG(prog:Program)(w:World):PySem.KeyKind prog w Key where
 is:=FO
 hash:=NL w
 inj:=fun v a b ha hb=>by
  rcases eh ha with⟨i,t,rfl,rfl⟩|⟨x,t,rfl,rfl⟩
  · rcases eh hb with⟨j,u,rfl,e⟩|⟨y,u,rfl,e⟩
    · injection e with e1 _;rw[e1]
    · exact nomatch e
  · rcases eh hb with⟨j,u,rfl,e⟩|⟨y,u,rfl,e⟩
    · exact nomatch e
    · injection e with e1 _;rw[e1]
 byValue:=fun k v h=>by
  rcases eh h with⟨i,t,rfl,rfl⟩|⟨x,t,rfl,rfl⟩<;>rfl
 pyHash:=fun hv h=>by
  rcases eh hv with⟨i,t,rfl,rfl⟩|⟨x,t,rfl,rfl⟩
  · exact wpAny_pyHash_int h
  · exact wpAny_pyHash_str h
 eqBool:=fun hu hv h=>by
  rcases eh hu with⟨i,t,rfl,rfl⟩|⟨x,t,rfl,rfl⟩
  · rcases eh hv with⟨j,u,rfl,rfl⟩|⟨y,u,rfl,rfl⟩
    · rw[IM]at h;exact wpAny_eqBool_int h
    · rw[KJ]at h;exact SeqAt.EqAt.int_str i t y u _ _ _ _ h
  · rcases eh hv with⟨j,u,rfl,rfl⟩|⟨y,u,rfl,rfl⟩
    · rw[Ja]at h;exact SeqAt.EqAt.str_int x t j u _ _ _ _ h
    · rw[Jg]at h;exact wpAny_eqBool_str h
 «strs» :=fun k x t v h=>by
  rcases eh h with⟨i,u,rfl,e⟩|⟨y,u,rfl,e⟩
  · exact nomatch e
  · injection e with e1 _
    subst e1
    cases v<;>rfl
end L2
namespace L2
open PySem PySem.Spec PyProof.Rows
inductive V where
 |aE|bl (b:Bool)|int (i:Int)|str (x:Str)|sP (b:Array UInt8)|sV (b:UInt64)|ref (a:Addr)|ty (n:String)
 deriving DecidableEq
noncomputable def RelV:V→Value→Prop
 | .aE,u=>u=Value.none
 | .bl b,u=>u=Value.bool b
 | .int i,u=>∃t,u=Value.int i t
 | .str x,u=>∃t,u=Value.str x t
 | .sP b,u=>∃t,u=Value.bytes b t
 | .sV b,u=>∃t,u=Value.float b t
 | .ref a,u=>u=Value.ref a
 | .ty n,u=>u=Value.type n
noncomputable abbrev Vals:List V→List Value→Prop:=Paired RelV
theorem Vals.length{xs:List V}{us:List Value}(r:Vals xs us):xs.length=us.length:=Paired.length r
theorem Vals.get:∀ {xs:List V} {us:List Value} {i:Nat} {x:V},Vals xs us→xs[i]?=some x→∃u,us[i]?=some u∧RelV x u
 |_,_,_,_,.nil,e=>by simp at e
 |_,_,0,_,.cons r _,e=>by simp at e;subst e;exact⟨_,rfl,r⟩
 |_,_,i+1,x,.cons _ t,e=>by
  obtain⟨u,h1,h2⟩:=Vals.get (i:=i) (x:=x) t (by simpa using e)
  exact⟨u,by simpa using h1,h2⟩
theorem Vals.set{x:V}{u:Value}(r:RelV x u):∀ {xs:List V} {us:List Value} (i:Nat),Vals xs us→Vals (xs.set i x) (us.set i u)
 |_,_,_,.nil=> .nil
 |_,_,0,.cons _ t=> .cons r t
 |_,_,i+1,.cons q t=> .cons q (Vals.set r i t)
theorem Vals.append:∀ {xs ys:List V} {us ws:List Value},Vals xs us→Vals ys ws→Vals (xs++ys) (us++ws)
 |_,_,_,_,.nil,s=>s
 |_,_,_,_,.cons r t,s=> .cons r (Vals.append t s)
theorem Vals.take:∀ {xs:List V} {us:List Value} (n:Nat),Vals xs us→Vals (xs.take n) (us.take n)
 |_,_,0,_=> .nil
 |_,_,_+1,.nil=> .nil
 |_,_,n+1,.cons r t=> .cons r (Vals.take n t)
theorem Vals.drop:∀ {xs:List V} {us:List Value} (n:Nat),Vals xs us→Vals (xs.drop n) (us.drop n)
 |_,_,0,r=>r
 |_,_,_+1,.nil=> .nil
 |_,_,n+1,.cons _ t=>Vals.drop n t
noncomputable def oj:Option V→Option Value→Prop
 |some v,some u=>RelV v u
 |none,none=>True
 |_,_=>False
noncomputable def KV{κ:Type}:List (κ×V)→List (κ×Value)→Prop:=Paired fun(p:κ×V) (q:κ×Value)=>p.1=q.1∧RelV p.2 q.2
noncomputable def kV:Key→V
 | .inl i=> .int i
 | .inr x=> .str x
inductive HO where
 |lst (xs:List V)
 |tup (xs:List V)
 |dK (kvs:List (Key×V))|dT (kvs:List (List Key×V))
 |set (S:Int→Bool) (n:Nat)
 |ins (C dx:Addr) (fs:List (Str×V))
 |own (x:Addr)
 |xd (fs:List (Str×V))
 |met (f x:Addr)
 |IX (lo hi:Int)
 |fN (o:Obj) (u:HO)
 |jw (ps:Array Value)
 |ext (φ:Heap→Prop)
noncomputable abbrev Hp:=Addr→Option HO
noncomputable def upd(H:Hp)(a:Addr)(o:HO):Hp:=fun b=>if b=a then some o else H b
theorem a5{H:Hp}{a:Addr}{o:HO}:upd H a o a=some o:=by unfold upd;rw[if_pos rfl]
theorem ax{H:Hp}{a b:Addr}{o:HO}(h:b≠a):upd H a o b=H b:=by unfold upd;rw[if_neg h]
theorem Hi{H:Hp}{a:Addr}{o u:HO}:upd (upd H a o) a u=upd H a u:=by
 funext b;unfold upd;split<;>rfl
theorem c9{H:Hp}{a b:Addr}{o:HO}(h:H a=some o)(h':H b=none):a≠b:=by
 intro e;subst e;rw[h]at h';cases h'
section
variable (P:Program)(w:World)
noncomputable def dc(H:Hp)(h:Heap)(a:Addr):HO→Prop
 | .lst xs=>xs.length≤sizeLine∧∃(au:List Value) (n:Nat),Vals xs au∧h.get? a=some {cls:= .type "list",data:= .seq au.toArray n}
 | .tup xs=>xs.length≤sizeLine∧∃au:List Value,Vals xs au∧IsTup h a au.toArray
 | .dK kvs=>kvs.length≤sizeLine∧(a==sysModules)=false∧∃vs,KV kvs vs∧h.DictOf (AG P w) a vs
 | .dT kvs=>kvs.length≤sizeLine∧(a==sysModules)=false∧∃xs:List (List Key×Addr×Value),
    Paired (fun(p:List Key×V) (q:List Key×Addr×Value)=>p.1=q.1∧H q.2.1=some (.tup (p.1.map kV))∧RelV p.2 q.2.2) kvs xs∧
    ∃o es ep,h.get? a=some o∧o.ExactDict∧o.data= .dict es ep∧es.toList=xs.map (entryOfKey (tupleKind (AG P w)))∧(xs.map (·.1)).Nodup
 | .set S n=>h.SetOf (intKind P w) a S n
 | .ins C dx fs=>H dx=some (.own a)∧fs.length≤1000∧dx≠a∧h.get? a=some (PySem.W.instObj C dx)∧
    ∃mA,h.Ns1 dx mA∧(∀f,oj (fs.lookup f) (mA f))∧PySem.Within mA (fs.map (·.1))
 | .own _=>∃o,h.get? a=some o
 | .xd fs=>∃mA,h.Ns1 a mA∧∀f,oj (fs.lookup f) (mA f)
 | .IX lo hi=>∃t u v,h.get? a=some {cls:= .type "range",data:= .fields #[.int lo t,.int hi u,.int 1 v]}
 | .fN o u=>h.get? a=some o∧dc H h a u
 | .jw ps=>h.get? a=some {cls:= .none,data:= .fields ps}
 | .met f x=>h.get? a=some (PySem.W.methodObj (.ref f) (.ref x))
 | .ext φ=>φ h∧(∃o,h.get? a=some o)∧∀h1 h2:Heap,φ h1→(∀o,h1.get? a=some o→h2.get? a=some o)→φ h2
noncomputable def gF(H:Hp)(h:Heap):Prop:=∀a o,H a=some o→dc P w H h a o
end
section
variable {P:Program}{w:World}{H H':Hp}{h h':Heap}{a:Addr}{o:HO}
theorem dc.lt(x:dc P w H h a o):a<h.objs.size:=by
 cases o with
 |lst xs=>obtain⟨_,_,_,_,e⟩:=x;exact Heap.lt_size e
 |tup xs=>obtain⟨_,_,_,p⟩:=x;exact p.lt
 |dK kvs=>obtain⟨_,_,_,_,o,_,_,e,_⟩:=x;exact Heap.lt_size e
 |dT kvs=>obtain⟨_,_,_,_,o,_,_,e,_⟩:=x;exact Heap.lt_size e
 |set S n=>obtain⟨o,_,_,_,e,_⟩:=x;exact Heap.lt_size e
 |ins C dx fs=>obtain⟨_,_,_,e,_⟩:=x;exact Heap.lt_size e
 |own y=>obtain⟨_,e⟩:=x;exact Heap.lt_size e
 |xd fs=>obtain⟨_,⟨_,_,_,e,_⟩,_⟩:=x;exact Heap.lt_size e
 |IX lo hi=>obtain⟨_,_,_,e⟩:=x;exact Heap.lt_size e
 |fN ob u=>obtain⟨e,_⟩:=x;exact Heap.lt_size e
 |jw ps=>exact Heap.lt_size (show h.get? a=some _ from x)
 |met f y=>exact Heap.lt_size (show h.get? a=some _ from x)
 |ext φ=>obtain⟨_,⟨_,e⟩,_⟩:=x;exact Heap.lt_size e
theorem Paired.EV{α β:Type}{F G:α→β→Prop}:∀ {l₁:List α} {l₂:List β},Paired F l₁ l₂→(∀a b,F a b→G a b)→Paired G l₁ l₂
 |_,_,.nil,_=> .nil
 |_,_,.cons r t,f=> .cons (f _ _ r) (Paired.EV t f)
theorem dc.oF(x:dc P w H h a o)(k:∀b u,(b=a∨H b=some (.own a))→h.get? b=some u→h'.get? b=some u)
 (ho:∀b,H b=some (.own a)→H' b=some (.own a)) (ht:∀b xs,H b=some (.tup xs)→H' b=some (.tup xs)):dc P w H' h' a o:=by
 induction o with
 |lst xs=>obtain⟨z,au,n,r,e⟩:=x;exact⟨z,au,n,r,k _ _ (.inl rfl) e⟩
 |tup xs=>obtain⟨z,au,r,ob,e,c⟩:=x;exact⟨z,au,r,ob,k _ _ (.inl rfl) e,c⟩
 |dK kvs=>obtain⟨z,y,vs,r,ob,es,ep,e,c⟩:=x;exact⟨z,y,vs,r,ob,es,ep,k _ _ (.inl rfl) e,c⟩
 |dT kvs=>
  obtain⟨z,y,xs,r,ob,es,ep,e,c⟩:=x
  exact⟨z,y,xs,Paired.EV r fun p q z=>⟨z.1,ht _ _ z.2.1,z.2.2⟩,ob,es,ep,k _ _ (.inl rfl) e,c⟩
 |set S n=>obtain⟨ob,es,ep,t,e,c⟩:=x;exact⟨ob,es,ep,t,k _ _ (.inl rfl) e,c⟩
 |ins C dx fs=>
  obtain⟨d,z,ne,e,mA,⟨od,es,ep,e2,c⟩,r⟩:=x
  exact⟨ho _ d,z,ne,k _ _ (.inl rfl) e,mA,⟨od,es,ep,k _ _ (.inr d) e2,c⟩,r⟩
 |own y=>obtain⟨ob,e⟩:=x;exact⟨ob,k _ _ (.inl rfl) e⟩
 |xd fs=>obtain⟨mA,⟨od,es,ep,e,c⟩,r⟩:=x;exact⟨mA,⟨od,es,ep,k _ _ (.inl rfl) e,c⟩,r⟩
 |IX lo hi=>obtain⟨t,u,v,e⟩:=x;exact⟨t,u,v,k _ _ (.inl rfl) e⟩
 |fN ob u ih=>obtain⟨e,q⟩:=x;exact⟨k _ _ (.inl rfl) e,ih q⟩
 |jw ps=>
  have e:h.get? a=some {cls:= .none,data:= .fields ps}:=x
  show h'.get? a=some {cls:= .none,data:= .fields ps}
  exact k a _ (.inl rfl) e
 |met f y=>
  have e:h.get? a=some (PySem.W.methodObj (.ref f) (.ref y)):=x
  show h'.get? a=some (PySem.W.methodObj (.ref f) (.ref y))
  exact k a _ (.inl rfl) e
 |ext φ=>obtain⟨p,⟨o,e⟩,st⟩:=x;exact⟨st _ _ p fun o q=>k _ _ (.inl rfl) q,⟨o,k _ _ (.inl rfl) e⟩,st⟩
theorem gF.lt(x:gF P w H h)(e:H a=some o):a<h.objs.size:=(x a o e).lt
theorem gF.fresh(x:gF P w H h)(e:h.objs.size≤a):H a=none:=by
 cases q:H a with
 |none=>rfl
 |some u=>exact absurd (Nat.lt_of_lt_of_le (x.lt q) e) (Nat.lt_irrefl _)
theorem gF.kept(x:gF P w H h)(k:∀b u,h.get? b=some u→h'.get? b=some u):gF P w H h':=fun a o e=>
 (x a o e).oF (fun b u _ q=>k b u q) (fun _ q=>q) fun _ _ q=>q
theorem gF.laid(x:gF P w H h)(k:∀b u,h.get? b=some u→h'.get? b=some u)(hp:h.objs.size≤a)(new:dc P w (upd H a o) h' a o):gF P w (upd H a o) h':=fun b u e=>by
 have hn:=x.fresh hp
 by_cases hb:b=a
 · subst hb;rw[a5]at e;cases e;exact new
 · rw[ax hb]at e
   exact(x b u e).oF (fun c v _ q=>k c v q) (fun c q=>by rw[ax (c9 q hn)];exact q) fun c xs q=>by rw[ax (c9 q hn)];exact q
end
noncomputable def Rd(H:Hp)(a:Addr)(u:HO):Prop:=H a=some u∨∃o,H a=some (.fN o u)
theorem Rd.of{H:Hp}{a:Addr}{u:HO}(h:H a=some u):Rd H a u:= .inl h
theorem Rd.ok{P:Program}{w:World}{H:Hp}{h:Heap}{a:Addr}{u:HO}(r:Rd H a u)(x:gF P w H h):dc P w H h a u:=by
 rcases r with r|⟨o,r⟩
 · exact x a u r
 · obtain⟨_,q⟩:=x a _ r
   exact q
noncomputable def F5:Option HO→Prop
 |some (.lst _)=>True
 |some (.dK _)=>True
 |some (.dT _)=>True
 |some (.set _ _)=>True
 |some (.ins _ _ _)=>True
 |some (.ext _)=>True
 |_=>False
section
variable {P:Program}{w:World}{H:Hp}{h h':Heap}{x e:Addr}{o':HO}
theorem gF.write(ok:gF P w H h)(mu:F5 (H x))(he:e=x∨H e=some (.own x))(k:∀b u,b≠e→h.get? b=some u→h'.get? b=some u)(heo:∃u,h'.get? e=some u)
 (new:dc P w (upd H x o') h' x o'):gF P w (upd H x o') h':=fun b u q=>by
 have nown:∀c y,H c=some (.own y)→c≠x:=fun c y r z=>by subst z;rw[r]at mu;exact mu
 have ntup:∀c xs,H c=some (.tup xs)→c≠x:=fun c xs r z=>by subst z;rw[r]at mu;exact mu
 by_cases hb:b=x
 · subst hb;rw[a5]at q;cases q;exact new
 · rw[ax hb]at q
   by_cases hbe:b=e
   · have q':H b=some (.own x):=by
      rcases he with z|z
      · exact absurd (hbe.trans z) hb
      · rw[hbe];exact z
     rw[q]at q';cases q'
     obtain⟨v,hv⟩:=heo
     exact⟨v,by rw[hbe];exact hv⟩
   · refine(ok b u q).oF (fun c v hc r=>k c v ?_ r) (fun c r=>by rw[ax (nown c b r)];exact r) fun c xs r=>by rw[ax (ntup c xs r)];exact r
     rcases hc with rfl|hc
     · exact hbe
     · rintro rfl
       rcases he with z|z
       · exact nown c b hc z
       · rw[hc]at z;cases z;exact hb rfl
end
structure Un(fs ex:List Addr)(H H':Hp)(h h':Heap):Prop where
 keep:∀b o,h.get? b=some o→H b=none→b∉fs→b∉ex→h'.get? b=some o
 slot:∀b o,h.get? b=some o→H b=none→b∈fs→b∉ex→∃sl,h'.get? b=some {o with slots:=sl}
 free:∀b o,h.get? b=some o→H b=none→b∉ex→H' b=none
 there:∀b o,h.get? b=some o→b∉ex→∃o',h'.get? b=some o'
 ou:∀b xs,H b=some (.tup xs)→H' b=some (.tup xs)
 m6:∀b o u,H b=some (.fN o u)→H' b=some (.fN o u)
 nr:∀b ps,H b=some (.jw ps)→∃more,H' b=some (.jw (ps++more))
section
variable {fs fs' ex ex':List Addr}{H H1 H2:Hp}{h h1 h2 h':Heap}{a x e:Addr}{o:HO}
theorem Un.any(u:Un fs ex H H1 h h1){b:Addr}{ob:Obj}(q:h.get? b=some ob)(n:H b=none)(hx:b∉ex):∃sl,h1.get? b=some {ob with slots:=sl}:=by
 by_cases hb:b∈fs
 · exact u.slot b ob q n hb hx
 · exact⟨ob.slots,u.keep b ob q n hb hx⟩
theorem Un.kept(k:∀b u,h.get? b=some u→h'.get? b=some u):Un fs ex H H h h':=
 ⟨fun b ob q _ _ _=>k b ob q,fun b ob q _ _ _=>⟨ob.slots,k b ob q⟩,fun _ _ _ n _=>n,fun b ob q _=>⟨ob,k b ob q⟩,fun _ _ q=>q,fun _ _ _ q=>q,fun _ ps q=>⟨#[],by rw[q];simp⟩⟩
theorem Un.refl:Un fs ex H H h h:=Un.kept fun _ _ q=>q
theorem Un.laid(k:∀b u,h.get? b=some u→h'.get? b=some u)(hp:h.objs.size≤a)(hn:H a=none):Un fs ex H (upd H a o) h h' where
 keep:=fun b u q _ _ _=>k b u q
 slot:=fun b u q _ _ _=>⟨u.slots,k b u q⟩
 free:=fun b u q n _=>by rw[ax (Nat.ne_of_lt (Nat.lt_of_lt_of_le (Heap.lt_size q) hp))];exact n
 there:=fun b u q _=>⟨u,k b u q⟩
 ou:=fun b xs q=>by rw[ax (c9 q hn)];exact q
 m6:=fun b u xs q=>by rw[ax (c9 q hn)];exact q
 nr:=fun b ps q=>⟨#[],by rw[ax (c9 q hn),q];simp⟩
theorem Un.write(mu:F5 (H x))(he:e=x∨H e=some (.own x))(k:∀b u,b≠e→h.get? b=some u→h'.get? b=some u)(heo:∃u,h'.get? e=some u):Un fs ex H (upd H x o) h h':=by
 have hx:∀b,H b=none→b≠x:=fun b n z=>by subst z;rw[n]at mu;exact mu
 have hb:∀b,H b=none→b≠e:=fun b n z=>by
  subst z
  rcases he with r|r
  · exact hx b n r
  · rw[n]at r;cases r
 have hm:∀b u,H b=some u→¬F5 (some u)→b≠x:=fun b u q nm z=>by subst z;rw[q]at mu;exact nm mu
 refine⟨fun b u q n _ _=>k b u (hb b n) q,fun b u q n _ _=>⟨u.slots,k b u (hb b n) q⟩,fun b u q n _=>by rw[ax (hx b n)];exact n,fun b u q _=>?_,
  fun b xs q=>by rw[ax (hm b _ q fun z=>z)];exact q,fun b u xs q=>by rw[ax (hm b _ q fun z=>z)];exact q,fun b ps q=>⟨#[],by rw[ax (hm b _ q fun z=>z),q];simp⟩⟩
 by_cases hbe:b=e
 · subst hbe;exact heo
 · exact⟨u,k b u hbe q⟩
end
noncomputable def FP(h:Heap)(H:Hp):List Addr:=(List.range h.objs.size).filter fun a=>(H a).isSome
noncomputable def oo(h:Heap)(H:Hp):Heap:=PySem.W.hideAll h (FP h H)
theorem C6(h:Heap)(H:Hp):(oo h H).objs.size=h.objs.size:=PySem.W.hideAll_size _ _
theorem o8{h:Heap}{H:Hp}{b:Addr}{o:Obj}(e:h.get? b=some o)(n:H b=none):(oo h H).get? b=some o:=
 PySem.W.hideAll_get _ e fun hm=>by
  have q:(H b).isSome=true:=(List.mem_filter.mp hm).2
  rw[n]at q;simp at q
theorem He{h:Heap}{H:Hp}{b:Addr}{o:Obj}(e:(oo h H).get? b=some o):h.get? b=some o∧H b=none:=by
 have e':h.get? b=some o:=PySem.W.of_hideAll (FP h H) e
 refine⟨e',?_⟩
 cases q:H b with
 |none=>rfl
 |some x=>
  have hm:b∈FP h H:=List.mem_filter.mpr ⟨List.mem_range.mpr (Heap.lt_size e'),by simp[q]⟩
  have z:(oo h H).get? b=none:=PySem.W.hideAll_none (FP h H) hm
  rw[z]at e;cases e
noncomputable def HZ(g h:Heap)(L:Addr):List (Addr×Obj):=(List.range h.objs.size).filterMap fun a=>if a=L∨(g.get? a).isSome=true then none else(h.get? a).map fun o=>(a,o)
noncomputable def rest(g h:Heap)(L d:Addr):List (Addr×Obj):=(HZ g h L).filter fun p=>decide (p.1≠d)
end L2
namespace L2
open PySem PySem.Spec PyProof.Rows
structure Mod(K:PySem.W.Frag)(mg:Str→Option Value)(base:Heap):Prop where
 Eb:K.In base
 glob:base.Ns mainGlobals mg
 blt:∃mb,base.Ns builtinsNs mb∧∀x:Str,x≠"__name__"→mb x=bootBuiltins x
 nolimit:base.NoLimit
 seer:base.NoSeer
 bmain:∃bm ob,mg "__builtins__"=some (.ref bm)∧bm≠builtinsNs∧base.get? bm=some ob∧ob.cls= .type "module"∧ob.dict=some builtinsNs∧ob.data= .plain
structure Cx where
 prog:Program
 w:World
 K:PySem.W.Frag
 mg:Str→Option Value
 base:Heap
 A:Around
 N:List Str
 s₀:Shared
 H₀:Hp
 env:Env
 outer:List Env
 stack:List Env
 ex:List Addr
 fn:Str→Bool
 calm:Bool
 pn:List (Addr×Obj)
 xe:Value→Shared→Prop
noncomputable def o7(l:List Env):List Addr:=l.filterMap (·.frame)
noncomputable abbrev Cx.fs(X:Cx):List Addr:=o7 X.outer
noncomputable def xG(sc:Scope)(x:Str):Prop:=sc.names.lookup x=some .local∨sc.names.lookup x=some .cell∨sc.names.lookup x=some .free
noncomputable def Loc(sc:Scope)(x:Str):Prop:=sc.names.lookup x=some .local∨sc.names.lookup x=some .cell
noncomputable def Look(env:Env)(h:Heap)(m:Str→Option Value)(x:Str)(u:Value):Prop:=
 (env.kindOf x=some .local∧m x=some u)∨((env.kindOf x=some .cell∨env.kindOf x=some .free)∧∃c,env.cells.lookup x=some c∧h.IsCell c (some u))
structure Cx.Ok(X:Cx):Prop where
 mod:Mod X.K X.mg X.base
 kind:X.env.scope.kind= .function
 glob:X.env.globals=mainGlobals
 blt:X.env.builtins=builtinsNs
 above:X.s₀.heap.objs.size≤X.env.locals
 inj:∀x y c,X.env.cells.lookup x=some c→X.env.cells.lookup y=some c→x=y
 has:∀x,(X.env.kindOf x=some .cell∨X.env.kindOf x=some .free)→∃c,X.env.cells.lookup x=some c
 yT:∀x c,X.fn x=true→X.env.cells.lookup x=some c→X.s₀.heap.objs.size≤c
 hd:X.calm=true→X.A.handled=none
 frames:X.A.frames=some X.stack
 Ap:X.stack=X.outer∨(X.stack=X.env::X.outer∧X.env.frame=some X.env.locals)
 CK:∀b∈X.ex,b≠X.env.locals∧∀x c,X.env.cells.lookup x=some c→c≠b
 bs:∀b o,X.base.get? b=some o→X.s₀.heap.get? b=some o∧X.H₀ b=none
 qu:X.base.objs.size≤X.s₀.heap.objs.size
 tZ:∀b o,X.base.get? b=some o→b∉X.ex
 tH:∀b∈X.ex,b∉X.fs
 jU:X.s₀.heap.FunFrames X.base X.outer
 vc:∀b∈X.fs,X.H₀ b=none
 gt:X.prog.given.tree=none
structure Inv(X:Cx)(pins:List (Addr×Obj))(σ:List (Option V))(H:Hp)(s:Shared):Prop where
 ok:X.Ok
 os:s.os=X.s₀.os
 bare:AllBare s.gens
 base:Un X.fs X.ex X.H₀ H X.s₀.heap s.heap
 loc:∃m,s.heap.Ns X.env.locals m∧∀(i:Nat) (x:Str) (v:V),X.N[i]?=some x→σ[i]?=some (some v)→xG X.env.scope x→∃u,RelV v u∧Look X.env s.heap m x u
 cell:∀x c,X.env.cells.lookup x=some c→∃v,s.heap.IsCell c v
 free:H X.env.locals=none
 g9:∀x c,X.env.cells.lookup x=some c→H c=none
 pin:∀p∈X.pn++pins,s.heap.get? p.1=some p.2∧H p.1=none∧p.1≠X.env.locals∧p.1∉X.fs∧∀v,p.2.data≠ .cell v
 aL:gF X.prog X.w H s.heap
 len:σ.length=X.N.length
section
variable {X:Cx}{pins:List (Addr×Obj)}{σ:List (Option V)}{H H':Hp}{s:Shared}{h':Heap}
theorem Cx.Ok.NM(ok:X.Ok){b:Addr}{o:Obj}(e:X.base.get? b=some o):b∉X.fs:=fun hb=>by
 have:=(ok.jU.mem hb).1
 rw[e]at this;cases this
theorem Inv.bs(I:Inv X pins σ H s):∀b o,X.base.get? b=some o→s.heap.get? b=some o∧H b=none:=fun b o e=>
 ⟨I.base.keep b o (I.ok.bs b o e).1 (I.ok.bs b o e).2 (I.ok.NM e) (I.ok.tZ b o e),I.base.free b o (I.ok.bs b o e).1 (I.ok.bs b o e).2 (I.ok.tZ b o e)⟩
theorem Inv.bk(I:Inv X pins σ H s):∀b o,X.base.get? b=some o→s.heap.get? b=some o:=fun b o e=>(I.bs b o e).1
theorem Inv.mod(I:Inv X pins σ H s):Mod X.K X.mg X.base:=I.ok.mod
theorem Inv.gm(I:Inv X pins σ H s):X.K.In s.heap:=I.ok.mod.Eb.keeps I.bk
theorem Inv.nolimit(I:Inv X pins σ H s):s.heap.NoLimit:=I.ok.mod.nolimit.keeps I.bk
theorem Inv.lt(I:Inv X pins σ H s):X.env.locals<s.heap.objs.size:=let⟨_,hn,_⟩:=I.loc;hn.lt
theorem Inv.sz(I:Inv X pins σ H s):X.s₀.heap.objs.size≤s.heap.objs.size:=Nat.le_trans I.ok.above (Nat.le_of_lt I.lt)
theorem Inv.Kd(I:Inv X pins σ H s){a:Addr}(h:s.heap.objs.size≤a):a∉X.fs:=fun hb=>by
 obtain⟨_,o,ho,_⟩:=I.ok.jU.mem hb
 exact absurd (Nat.lt_of_lt_of_le (Heap.lt_size ho) (Nat.le_trans I.sz h)) (Nat.lt_irrefl _)
theorem Inv.yS(I:Inv X pins σ H s):∀x c,X.env.cells.lookup x=some c→c≠X.env.locals:=fun x c e z=>by
 obtain⟨v,o,ho,hd⟩:=I.cell x c e
 obtain⟨m,⟨o',es,ep,ho',hd',_⟩,_⟩:=I.loc
 rw[z,ho']at ho;cases ho;rw[hd']at hd;cases hd
theorem Inv.jU(I:Inv X pins σ H s):s.heap.FunFrames X.base X.outer:=by
 have all:∀(l:List Env),(∀b∈o7 l,b∈X.fs)→X.s₀.heap.FunFrames X.base l→s.heap.FunFrames X.base l:=by
  intro l
  induction l with
  |nil=>intro _ _;trivial
  |cons env r ih=>
   intro hs hl
   obtain⟨hk,⟨L,o,hf,hn,ho,hd⟩,hr⟩:=hl
   have hL:L∈X.fs:=hs L (by unfold o7;rw[List.filterMap_cons,hf];exact List.mem_cons_self)
   obtain⟨sl,e⟩:=I.base.slot L o ho (I.ok.vc L hL) hL fun z=>I.ok.tH L z hL
   exact⟨hk,⟨L,_,hf,hn,e,hd⟩,ih (fun b hb=>hs b (by unfold o7;rw[List.filterMap_cons,hf];exact List.mem_cons_of_mem _ hb)) hr⟩
 exact all X.outer (fun _ hb=>hb) I.ok.jU
theorem Inv.stack(I:Inv X pins σ H s):s.heap.FunFrames X.base X.stack:=by
 rcases I.ok.Ap with e|⟨e,hf⟩
 · rw[e];exact I.jU
 · rw[e]
   obtain⟨m,hn,_⟩:=I.loc
   refine .cons (by rw[I.ok.kind];decide) hf hn ?_ I.jU
   exact Heap.get?_none_of_le (Nat.le_trans I.ok.qu I.ok.above)
theorem Inv.yA(I:Inv X pins σ H s):∀b∈o7 X.stack,b∈X.env.locals::X.fs:=fun b hb=>by
 rcases I.ok.Ap with e|⟨e,hf⟩
 · rw[e]at hb;exact List.mem_cons_of_mem _ hb
 · rw[e]at hb
   unfold o7 at hb
   rw[List.filterMap_cons,hf]at hb
   exact hb
theorem Inv.wa(I:Inv X pins σ H s):∀b∈o7 X.stack,H b=none:=fun b hb=>by
 rcases List.mem_cons.mp (I.yA b hb)with e|hb
 · rw[e];exact I.free
 · obtain⟨_,o,ho,_⟩:=I.ok.jU.mem hb
   exact I.base.free b o ho (I.ok.vc b hb) fun z=>I.ok.tH b z hb
theorem Inv.step{g':Array GenState}{t':Nat}{d':Drawn}{ch:List Addr}(I:Inv X pins σ H s)
 (hch:∀b∈ch,(b∈X.ex∨X.s₀.heap.objs.size≤b)∧b≠X.env.locals∧(∀x c,X.env.cells.lookup x=some c→c≠b)∧∀p∈X.pn++pins,p.1≠b)
 (keep:∀b o,b≠X.env.locals→b∉X.fs→b∉ch→s.heap.get? b=some o→H b=none→h'.get? b=some o)
 (slot:∀b o,b≠X.env.locals→b∈X.fs→b∉ch→s.heap.get? b=some o→H b=none→∃sl,h'.get? b=some {o with slots:=sl}) (free:∀b o,b∉ch→s.heap.get? b=some o→H b=none→H' b=none)
 (there:∀b o,b∉ch→s.heap.get? b=some o→∃o',h'.get? b=some o')
 (ou:∀b xs,H b=some (.tup xs)→H' b=some (.tup xs)) (m6:∀b o u,H b=some (.fN o u)→H' b=some (.fN o u)) (nr:∀b ps,H b=some (.jw ps)→∃more,H' b=some (.jw (ps++more)))
 (ns:∀m,s.heap.Ns X.env.locals m→h'.Ns X.env.locals m) (aL:gF X.prog X.w H' h') (hg:AllBare g'):
 Inv X pins σ H' {s with heap:=h',gens:=g',drawn:=d',toks:=t'}:=by
 have neL:∀b o,X.s₀.heap.get? b=some o→b≠X.env.locals:=fun b o e=>Nat.ne_of_lt (Nat.lt_of_lt_of_le (Heap.lt_size e) I.ok.above)
 have neC:∀b o,X.s₀.heap.get? b=some o→b∉X.ex→b∉ch:=fun b o e hx hb=>by
  rcases(hch b hb).1 with z|z
  · exact hx z
  · exact absurd (Nat.lt_of_lt_of_le (Heap.lt_size e) z) (Nat.lt_irrefl _)
 have cellK:∀x c,X.env.cells.lookup x=some c→∀v,s.heap.IsCell c v→h'.IsCell c v:=fun x c e v ⟨o,ho,hd⟩=>by
  have nch:c∉ch:=fun z=>(hch c z).2.2.1 x c e rfl
  by_cases hc:c∈X.fs
  · obtain⟨sl,q⟩:=slot c o (I.yS x c e) hc nch ho (I.g9 x c e)
    exact⟨_,q,hd⟩
  · exact⟨o,keep c o (I.yS x c e) hc nch ho (I.g9 x c e),hd⟩
 refine⟨I.ok,I.os,hg,⟨fun b o e n hb hx=>?_,fun b o e n hb hx=>?_,fun b o e n hx=>?_,fun b o e hx=>?_,fun b xs e=>ou b xs (I.base.ou b xs e),fun b o xs e=>m6 b o xs (I.base.m6 b o xs e),fun b ps e=>?_⟩,?_,fun x c e=>?_,?_,fun x c e=>?_,fun p hp=>?_,aL,I.len⟩
 · exact keep b o (neL b o e) hb (neC b o e hx) (I.base.keep b o e n hb hx) (I.base.free b o e n hx)
 · obtain⟨sl,e1⟩:=I.base.slot b o e n hb hx
   obtain⟨sl',e2⟩:=slot b _ (neL b o e) hb (neC b o e hx) e1 (I.base.free b o e n hx)
   exact⟨sl',e2⟩
 · obtain⟨o',e1⟩:=I.base.there b o e hx
   exact free b o' (neC b o e hx) e1 (I.base.free b o e n hx)
 · obtain⟨o',e1⟩:=I.base.there b o e hx
   exact there b o' (neC b o e hx) e1
 · obtain⟨m1,e1⟩:=I.base.nr b ps e
   obtain⟨m2,e2⟩:=nr b _ e1
   exact⟨m1++m2,by rw[e2,Array.append_assoc]⟩
 · obtain⟨m,hn,hl⟩:=I.loc
   refine⟨m,ns m hn,fun i x v e1 e2 e3=>?_⟩
   obtain⟨u,r,l⟩:=hl i x v e1 e2 e3
   refine⟨u,r,?_⟩
   rcases l with l|⟨k,c,e,z⟩
   · exact .inl l
   · exact .inr ⟨k,c,e,cellK x c e _ z⟩
 · obtain⟨v,z⟩:=I.cell x c e
   exact⟨v,cellK x c e v z⟩
 · obtain⟨m,⟨o,_,_,ho,_⟩,_⟩:=I.loc
   exact free _ o (fun z=>(hch _ z).2.1 rfl) ho I.free
 · obtain⟨v,o,ho,hd⟩:=I.cell x c e
   exact free c o (fun z=>(hch c z).2.2.1 x c e rfl) ho (I.g9 x c e)
 · obtain⟨e,n,ne,nf,d⟩:=I.pin p hp
   have nch:p.1∉ch:=fun z=>(hch p.1 z).2.2.2 p hp rfl
   exact⟨keep p.1 p.2 ne nf nch e n,free p.1 p.2 nch e n,ne,nf,d⟩
theorem Inv.un{t':Nat}(I:Inv X pins σ H s)(u:Un X.fs [] H H' s.heap h')(aL:gF X.prog X.w H' h'):Inv X pins σ H' {s with heap:=h',toks:=t'}:=by
 obtain⟨m,⟨o,es,ep,ho,r⟩,_⟩:=id I.loc
 obtain⟨sl,hL⟩:=u.any ho I.free (by simp)
 exact I.step (g':=s.gens) (d':=s.drawn) (ch:=[]) (fun _ z=>nomatch z) (fun b o _ hb _ e n=>u.keep b o e n hb (by simp)) (fun b o _ hb _ e n=>u.slot b o e n hb (by simp)) (fun b o _ e n=>u.free b o e n (by simp)) (fun b o _ e=>u.there b o e (by simp)) u.ou u.m6 u.nr (fun m' hm=>by
  obtain⟨o',es',ep',ho',r'⟩:=hm
  rw[ho]at ho';cases ho'
  exact⟨_,es',ep',hL,r'⟩) aL I.bare
theorem Inv.call{g':Array GenState}{t':Nat}{d':Drawn}{ch:List Addr}(I:Inv X pins σ H s)(u:Un (o7 X.stack) ch H H' s.heap h')(aL:gF X.prog X.w H' h')(hg:AllBare g')
 (hch:∀b∈ch,(b∈X.ex∨X.s₀.heap.objs.size≤b)∧b≠X.env.locals∧(∀x c,X.env.cells.lookup x=some c→c≠b)∧∀p∈X.pn++pins,p.1≠b):
 Inv X pins σ H' {s with heap:=h',gens:=g',drawn:=d',toks:=t'}:=by
 obtain⟨m,⟨o,es,ep,ho,r⟩,_⟩:=id I.loc
 obtain⟨sl,hL⟩:=u.any ho I.free fun z=>(hch _ z).2.1 rfl
 exact I.step (ch:=ch) hch (fun b o hL hb hc e n=>u.keep b o e n (fun z=>(List.mem_cons.mp (I.yA b z)).elim hL hb) hc) (fun b o _ _ hc e n=>u.any e n hc) (fun b o hc e n=>u.free b o e n hc) (fun b o hc e=>u.there b o e hc) u.ou u.m6 u.nr (fun m' hm=>by
  obtain⟨o',es',ep',ho',r'⟩:=hm
  rw[ho]at ho';cases ho'
  exact⟨_,es',ep',hL,r'⟩) aL hg
theorem Inv.turned{t':Nat}{it:Addr}(I:Inv X pins σ H s)(k:∀b o,b≠it→s.heap.get? b=some o→h'.get? b=some o)(hn:H it=none)(hL:it≠X.env.locals)
 (h1:it∈X.ex∨X.s₀.heap.objs.size≤it) (h2:∀x c,X.env.cells.lookup x=some c→c≠it) (h3:∀p∈X.pn++pins,p.1≠it):Inv X pins σ H {s with heap:=h',toks:=t'}:=by
 have nit:∀b u,H b=some u→b≠it:=fun b u e z=>by rw[z,hn]at e;cases e
 refine I.step (g':=s.gens) (d':=s.drawn) (ch:=[it]) (fun b hb=>?_) (fun b o _ _ hc e _=>k b o (fun z=>hc (by simp[z])) e) (fun b o _ _ hc e _=>⟨o.slots,k b o (fun z=>hc (by simp[z])) e⟩) (fun _ _ _ _ n=>n)
  (fun b o hc e=>⟨o,k b o (fun z=>hc (by simp[z])) e⟩) (fun _ _ e=>e) (fun _ _ _ e=>e) (fun b ps e=>⟨#[],by rw[e];simp⟩) (fun m hm=>?_) (fun b u e=>?_) I.bare
 · have e:b=it:=by simpa using hb
   subst e
   exact⟨h1,hL,h2,h3⟩
 · obtain⟨o,es,ep,ho,r⟩:=hm
   exact⟨o,es,ep,k _ o (Ne.symm hL) ho,r⟩
 · refine(I.aL b u e).oF (fun c v hc q=>k c v ?_ q) (fun _ q=>q) fun _ _ q=>q
   rcases hc with z|z
   · rw[z];exact nit b u e
   · exact nit c _ z
theorem Inv.tok(I:Inv X pins σ H s)(t:Nat):Inv X pins σ H {s with toks:=t}:=I.un (h':=s.heap) (t':=t) Un.refl I.aL
theorem Inv.kept{t':Nat}(I:Inv X pins σ H s)(k:∀b u,s.heap.get? b=some u→h'.get? b=some u):Inv X pins σ H {s with heap:=h',toks:=t'}:=I.un (Un.kept k) (I.aL.kept k)
theorem Inv.laid{a:Addr}{o:HO}{t':Nat}(I:Inv X pins σ H s)(k:∀b u,s.heap.get? b=some u→h'.get? b=some u)(hp:s.heap.objs.size≤a)(new:dc X.prog X.w (upd H a o) h' a o):
 Inv X pins σ (upd H a o) {s with heap:=h',toks:=t'}:=I.un (Un.laid k hp (I.aL.fresh hp)) (I.aL.laid k hp new)
theorem Inv.write{x e:Addr}{o:HO}{t':Nat}(I:Inv X pins σ H s)(mu:F5 (H x))(he:e=x∨H e=some (.own x))(k:∀b u,b≠e→s.heap.get? b=some u→h'.get? b=some u)(heo:∃u,h'.get? e=some u)
 (new:dc X.prog X.w (upd H x o) h' x o):Inv X pins σ (upd H x o) {s with heap:=h',toks:=t'}:=I.un (Un.write mu he k heo) (I.aL.write mu he k heo new)
theorem Inv.rV{pins':List (Addr×Obj)}(I:Inv X pins σ H s)(h:∀p∈pins',s.heap.get? p.1=some p.2∧H p.1=none∧p.1≠X.env.locals∧p.1∉X.fs∧∀v,p.2.data≠ .cell v):Inv X pins' σ H s:=
 ⟨I.ok,I.os,I.bare,I.base,I.loc,I.cell,I.free,I.g9,fun p hp=>(List.mem_append.mp hp).elim (fun z=>I.pin p (List.mem_append_left _ z)) (h p),I.aL,I.len⟩
theorem yf{N:List Str}(hN:N.Nodup){i j:Nat}{x:Str}(a:N[i]?=some x)(b:N[j]?=some x):i=j:=by
 obtain⟨h1,e1⟩:=List.getElem?_eq_some_iff.mp a
 obtain⟨h2,e2⟩:=List.getElem?_eq_some_iff.mp b
 exact(List.getElem_inj hN).mp (e1.trans e2.symm)
theorem wj{M:Model}{A:Around}{E:Value→Shared→Prop}{i:Nat}{x:Str}{v:V}{u:Value}{Q:Unit→Shared→Prop}(I:Inv X pins σ H s)(hN:X.N.Nodup)(hi:X.N[i]?=some x)(hx:Loc X.env.scope x)(r:RelV v u)
 (h:∀s',Inv X pins (σ.set i (some v)) H s'→(∃a,Heap.SameBut a s.heap s'.heap∧(a=X.env.locals∨X.env.cells.lookup x=some a))→Q () s') (hf:X.fn x=true∨X.env.scope.names.lookup x=some .local:=by first|exact .inl rfl|exact .inr rfl|assumption):wpAny M A (storeName X.env x u) Q E s:=by
 obtain⟨m,hn,hl⟩:=id I.loc
 have hcls:(X.env.scope.kind== .class||(X.env.scope.kind== .module&&X.env.locals != X.env.globals))=false:=by rw[I.ok.kind];rfl
 have hiσ:i<σ.length:=by rw[I.len];exact(List.getElem?_eq_some_iff.mp hi).1
 have yS:=I.yS
 have tracked:∀ {a:Addr} {h':Heap},(∃o,s.heap.get? a=some o∧H a=none)→Heap.SameBut a s.heap h'→gF X.prog X.w H h':=fun{a h'} ha hs b ob e=>by
  obtain⟨_,_,hfree⟩:=ha
  refine(I.aL b ob e).oF (fun c w' hc q=>(hs.2 c ?_).trans q) (fun _ q=>q) fun _ _ q=>q
  rintro rfl
  rcases hc with rfl|hc
  · rw[hfree]at e;cases e
  · rw[hfree]at hc;cases hc
 rcases hx with hk|hk
 · refine wpAny_storeName_local hk hn (fun h' hn' hs=>?_) hcls
   obtain⟨oL,_,_,hoL,_⟩:=id hn
   refine h _ ⟨I.ok,I.os,I.bare,⟨fun b o e n hb hx=>?_,fun b o e n hb hx=>?_,I.base.free,fun b o e hx=>?_,I.base.ou,I.base.m6,I.base.nr⟩,⟨_,hn',fun j y v' e1 e2 e3=>?_⟩,fun y c e=>?_,I.free,I.g9,fun p hp=>?_,tracked ⟨oL,hoL,I.free⟩ hs,by simpa using I.len⟩ ⟨_,hs,.inl rfl⟩
   · exact(hs.2 b (Nat.ne_of_lt (Nat.lt_of_lt_of_le (Heap.lt_size e) I.ok.above))).trans (I.base.keep b o e n hb hx)
   · obtain⟨sl,e1⟩:=I.base.slot b o e n hb hx
     exact⟨sl,(hs.2 b (Nat.ne_of_lt (Nat.lt_of_lt_of_le (Heap.lt_size e) I.ok.above))).trans e1⟩
   · obtain⟨o',e1⟩:=I.base.there b o e hx
     exact⟨o',(hs.2 b (Nat.ne_of_lt (Nat.lt_of_lt_of_le (Heap.lt_size e) I.ok.above))).trans e1⟩
   · by_cases hj:j=i
     · subst hj
       rw[hi]at e1;cases e1
       rw[List.getElem?_set_self hiσ]at e2
       cases e2
       exact⟨u,r,.inl ⟨hk,by simp⟩⟩
     · rw[List.getElem?_set_ne (Ne.symm hj)]at e2
       obtain⟨u',r',q⟩:=hl j y v' e1 e2 e3
       refine⟨u',r',?_⟩
       rcases q with⟨k,e⟩|⟨k,c,e,z⟩
       · refine .inl ⟨k,?_⟩
         have:y≠x:=fun e=>hj (yf hN e1 (e▸hi))
         simp[this,e]
       · exact .inr ⟨k,c,e,z.sameBut hs (yS y c e)⟩
   · obtain⟨w',z⟩:=I.cell y c e
     exact⟨w',z.sameBut hs (yS y c e)⟩
   · obtain⟨e,n,ne,nf,d⟩:=I.pin p hp
     exact⟨(hs.2 p.1 ne).trans e,n,ne,nf,d⟩
 · have hfn:X.fn x=true:=by
    rcases hf with z|z
    · exact z
    · rw[z]at hk;cases hk
   obtain⟨c,hc⟩:=I.ok.has x (.inl hk)
   obtain⟨w',z⟩:=I.cell x c hc
   refine wpAny_storeName_cell I.ok.kind hk hc z (fun h' hc' hs=>?_)
   obtain⟨oc,hoc,hocd⟩:=id z
   refine h {s with heap:=h'} ⟨I.ok,I.os,I.bare,⟨fun b o e n hb hx=>?_,fun b o e n hb hx=>?_,I.base.free,fun b o e hx=>?_,I.base.ou,I.base.m6,I.base.nr⟩,⟨m,hn.sameBut hs (Ne.symm (yS x c hc)),fun j y v' e1 e2 e3=>?_⟩,fun y c' e=>?_,I.free,I.g9,fun p hp=>?_,tracked ⟨oc,hoc,I.g9 x c hc⟩ hs,by simpa using I.len⟩ ⟨c,hs,.inr hc⟩
   · exact(hs.2 b (Nat.ne_of_lt (Nat.lt_of_lt_of_le (Heap.lt_size e) (I.ok.yT x c hfn hc)))).trans (I.base.keep b o e n hb hx)
   · obtain⟨sl,e1⟩:=I.base.slot b o e n hb hx
     exact⟨sl,(hs.2 b (Nat.ne_of_lt (Nat.lt_of_lt_of_le (Heap.lt_size e) (I.ok.yT x c hfn hc)))).trans e1⟩
   · obtain⟨o',e1⟩:=I.base.there b o e hx
     exact⟨o',(hs.2 b (Nat.ne_of_lt (Nat.lt_of_lt_of_le (Heap.lt_size e) (I.ok.yT x c hfn hc)))).trans e1⟩
   · by_cases hj:j=i
     · subst hj
       rw[hi]at e1;cases e1
       rw[List.getElem?_set_self hiσ]at e2
       cases e2
       exact⟨u,r,.inr ⟨.inl hk,c,hc,hc'⟩⟩
     · rw[List.getElem?_set_ne (Ne.symm hj)]at e2
       obtain⟨u',r',q⟩:=hl j y v' e1 e2 e3
       refine⟨u',r',?_⟩
       rcases q with q|⟨k,c',e,z'⟩
       · exact .inl q
       · refine .inr ⟨k,c',e,z'.sameBut hs ?_⟩
         rintro rfl
         exact hj (yf hN e1 (I.ok.inj _ _ _ e hc▸hi))
   · by_cases hcc:c'=c
     · subst hcc;exact⟨_,hc'⟩
     · obtain⟨w2,z2⟩:=I.cell y c' e
       exact⟨w2,z2.sameBut hs hcc⟩
   · obtain⟨e,n,ne,nf,d⟩:=I.pin p hp
     refine⟨(hs.2 p.1 ?_).trans e,n,ne,nf,d⟩
     intro q
     rw[q,hoc]at e
     have q':oc=p.2:=Option.some.inj e
     exact d w' (by rw[←q'];exact hocd)
theorem tI{M:Model}{A:Around}{E:Value→Shared→Prop}{i:Nat}{x:Str}{v:V}{u:Value}{Q:Unit→Shared→Prop}(I:Inv X pins σ H s)(hN:X.N.Nodup)(hi:X.N[i]?=some x)(hx:Loc X.env.scope x)(r:RelV v u)
 (h:∀s',Inv X pins (σ.set i (some v)) H s'→Q () s') (hf:X.fn x=true∨X.env.scope.names.lookup x=some .local:=by first|exact .inl rfl|exact .inr rfl|assumption):wpAny M A (storeName X.env x u) Q E s:=
 wj I hN hi hx r (fun s' I' _=>h s' I') hf
theorem Inv.A9{s':Shared}{ch:List Addr}(I:Inv X pins σ H s)(ho:s'.os=s.os)(u:Un (o7 X.stack) ch H H' s.heap s'.heap)(aL:gF X.prog X.w H' s'.heap)(hg:AllBare s'.gens)
 (hch:∀b∈ch,(b∈X.ex∨X.s₀.heap.objs.size≤b)∧b≠X.env.locals∧(∀x c,X.env.cells.lookup x=some c→c≠b)∧∀p∈X.pn++pins,p.1≠b):Inv X pins σ H' s':=by
 obtain⟨h',g',d',t',o'⟩:=s'
 have e:o'=s.os:=ho
 subst e
 exact I.call (g':=g') (t':=t') (d':=d') u aL hg hch
end
noncomputable abbrev XK:=Value→Option Addr→Hp→Prop
noncomputable abbrev St:=List (Option V)
noncomputable abbrev VK:=V→Hp→Prop
noncomputable abbrev TE:=St→Hp→VK→Prop
noncomputable abbrev TT:=St→Hp→(Bool→Hp→Prop)→Prop
noncomputable abbrev TA:=St→Hp→(List V→Hp→Prop)→Prop
structure Ends where
 nx:St→Hp→Prop
 rt:VK
 bk:St→Hp→Prop:=fun _ _=>False
 ct:St→Hp→Prop:=fun _ _=>False
noncomputable abbrev TS:=Ends→St→Hp→Prop
noncomputable def EP(X:Cx)(pins:List (Addr×Obj))(σ:St)(Q:VK)(u:Value)(s':Shared):Prop:=∃v H',Inv X pins σ H' s'∧RelV v u∧Q v H'
noncomputable def TP(X:Cx)(pins:List (Addr×Obj))(σ:St)(Q:Bool→Hp→Prop)(b:Bool)(s':Shared):Prop:=∃H',Inv X pins σ H' s'∧Q b H'
noncomputable def AP(X:Cx)(pins:List (Addr×Obj))(σ:St)(Q:List V→Hp→Prop)(us:List Value)(s':Shared):Prop:=∃vs H',Inv X pins σ H' s'∧Vals vs us∧Q vs H'
noncomputable def SP(X:Cx)(pins:List (Addr×Obj))(D:Ends)(f:Flow)(s':Shared):Prop:=
 match f with
 | .next=>∃σ' H',Inv X pins σ' H' s'∧D.nx σ' H'
 | .brk=>∃σ' H',Inv X pins σ' H' s'∧D.bk σ' H'
 | .cont=>∃σ' H',Inv X pins σ' H' s'∧D.ct σ' H'
 | .ret u=>∃v σ' H',Inv X pins σ' H' s'∧RelV v u∧D.rt v H'
noncomputable def PE(X:Cx)(e:Expr)(t:TE):Prop:=
 ∀(pins:List (Addr×Obj)) (s:Shared) (σ:St) (H:Hp) (Q:VK),Inv X pins σ H s→t σ H Q→wpAny (model X.prog X.w) X.A (eval e X.env) (EP X pins σ Q) X.xe s
noncomputable def PT(X:Cx)(e:Expr)(t:TT):Prop:=
 ∀(pins:List (Addr×Obj)) (s:Shared) (σ:St) (H:Hp) (Q:Bool→Hp→Prop),Inv X pins σ H s→t σ H Q→wpAny (model X.prog X.w) X.A (isTrue e X.env (eval e X.env)) (TP X pins σ Q) X.xe s
noncomputable def PW(X:Cx)(e:Expr)(t:TT):Prop:=
 ∀(whole:Sem Value) (pins:List (Addr×Obj)) (s:Shared) (σ:St) (H:Hp) (Q:Bool→Hp→Prop),Inv X pins σ H s→t σ H Q→wpAny (model X.prog X.w) X.A (isTrue e X.env whole) (TP X pins σ Q) X.xe s
theorem PW.pt{X:Cx}{e:Expr}{t:TT}(h:PW X e t):PT X e t:=h _
noncomputable def PA(X:Cx)(es:List Expr)(t:TA):Prop:=
 ∀(pos:Pos) (pins:List (Addr×Obj)) (s:Shared) (σ:St) (H:Hp) (Q:List V→Hp→Prop),Inv X pins σ H s→t σ H Q→wpAny (model X.prog X.w) X.A (spliced (backTo pos (starEach es X.env))) (AP X pins σ Q) X.xe s
noncomputable def PS(X:Cx)(st:Stmt)(t:TS):Prop:=
 ∀(pins:List (Addr×Obj)) (s:Shared) (σ:St) (H:Hp) (D:Ends),Inv X pins σ H s→t D σ H→wpAny (model X.prog X.w) X.A (exec st X.env) (SP X pins D) X.xe s
noncomputable def gj(X:Cx)(st:List Stmt)(t:TS):Prop:=
 ∀(pins:List (Addr×Obj)) (s:Shared) (σ:St) (H:Hp) (D:Ends),Inv X pins σ H s→t D σ H→wpAny (model X.prog X.w) X.A (execs st X.env) (SP X pins D) X.xe s
theorem bO{α:Type}{t:Sem α}{Q Q':α→Shared→Prop}{M:Model}{A:Around}{E:Value→Shared→Prop}{s:Shared}(h:wpAny M A t Q E s)(hQ:∀a s,Q a s→Q' a s):wpAny M A t Q' E s:=wpAny_mono h hQ fun _ _ x=>x
end L2
namespace L2
open PySem PySem.Spec PyProof.Rows
section
variable {X:Cx}
noncomputable def Kq(i:Nat):TE:=fun σ H Q=>∃v,σ[i]?=some (some v)∧Q v H
noncomputable def tC(v:V):TE:=fun _ H Q=>Q v H
theorem Jq{i:Nat}{x:Str}{pos:Pos}(hN:X.N[i]?=some x)(hv:xG X.env.scope x)(hd:(x==("__debug__":Str))=false:=by decide)(hcd:(x==("__classdict__":Str))=false:=by decide):PE X (.Name x pos) (Kq i):=by
 intro pins s σ H Q I h
 obtain⟨v,e,h⟩:=h
 obtain⟨m,hn,hl⟩:=I.loc
 obtain⟨u,r,l⟩:=hl i x v hN e hv
 have fin:EP X pins σ Q u s:=⟨v,H,I,r,h⟩
 rcases l with⟨hk,hm⟩|⟨hk,c,hc,hcell⟩
 · exact wpAny_Name (wpAny_loadName_local I.ok.kind hk hn hm fin) hd
 · rcases hk with hk|hk
   · exact wpAny_Name (wpAny_loadName_cell I.ok.kind hk hc hcell fin) hd
   · exact wpAny_Name (wpAny_loadName_free I.ok.kind hk hc hcell fin hcd) hd
theorem Ks{i j pos}:PE X (.Constant (.int i) j pos) (tC (.int i)):=fun _ _ _ H _ I h=>wpAny_Constant_int ⟨.int i,H,I.tok _,⟨_,rfl⟩,h⟩
theorem Mj{b j pos}:PE X (.Constant (.bool b) j pos) (tC (.bl b)):=fun _ _ _ H _ I h=>Constant_bool ⟨.bl b,H,I,rfl,h⟩
theorem Jj{j pos}:PE X (.Constant .none j pos) (tC .aE):=fun _ _ _ H _ I h=>Constant_none ⟨.aE,H,I,rfl,h⟩
theorem JV{x j pos}:PE X (.Constant (.str x) j pos) (tC (.str x)):=fun _ _ _ H _ I h=>Calls.Constant_str ⟨.str x,H,I.tok _,⟨_,rfl⟩,h⟩
noncomputable def Gl(X:Cx)(x:Str):Prop:=X.env.kindOf x=some .globalImplicit
theorem AF{E:Value→Shared→Prop}{pins:List (Addr×Obj)}{s:Shared}{σ:St}{H:Hp}{x:Str}{u:Value}{pos:Pos}{Q:Value→Shared→Prop}(I:Inv X pins σ H s)(hg:Gl X x)(hm:X.mg x=some u)(h:Q u s)
 (hd:(x==("__debug__":Str))=false:=by decide):wpAny (model X.prog X.w) X.A (eval (.Name x pos) X.env) Q E s:=
 Calls.Name_function_global I.ok.kind hg (Calls.loadGlobal_global (by rw[I.ok.glob];exact I.mod.glob.keeps I.bk) hm h) hd
theorem jO{E:Value→Shared→Prop}{pins:List (Addr×Obj)}{s:Shared}{σ:St}{H:Hp}{x:Str}{u:Value}{pos:Pos}{Q:Value→Shared→Prop}(I:Inv X pins σ H s)(hg:Gl X x)(hm:X.mg x=none)(hv:bootBuiltins x=some u)(h:Q u s)
 (hn:x≠"__name__":=by decide) (hd:(x==("__debug__":Str))=false:=by decide):wpAny (model X.prog X.w) X.A (eval (.Name x pos) X.env) Q E s:=by
 obtain⟨mb,h1,h2⟩:=I.mod.blt
 exact Calls.Name_function_global I.ok.kind hg (Calls.loadGlobal_builtin (by rw[I.ok.glob];exact I.mod.glob.keeps I.bk) hm (by rw[I.ok.blt];exact h1.keeps I.bk) ((h2 x hn).trans hv) h) hd
theorem GN{x:Str}{v:V}{u:Value}{pos:Pos}(hg:Gl X x)(hm:X.mg x=none)(hv:bootBuiltins x=some u)(r:RelV v u)(hn:x≠"__name__":=by decide)(hd:(x==("__debug__":Str))=false:=by decide):PE X (.Name x pos) (tC v):=
 fun _ _ _ H _ I h=>jO I hg hm hv ⟨v,H,I,r,h⟩ hn hd
variable {a b:Expr}{ta tb:TE}{pos:Pos}
noncomputable def tB(t:TE):TT:=fun σ H Q=>t σ H fun x H1=>∃c,x= .bl c∧Q c H1
theorem JR{e:Expr}{t:TE}(h:PE X e t)(he:∀whole,isTrue e X.env whole=(do let v ←whole;standAt e.pos;holding [v] (truthy v)):=by intro _;rfl):PT X e (tB t):=by
 intro pins s σ H Q I hw
 refine isTrue_plain (bO (h pins s σ H _ I hw) fun v s1 ⟨x,H1,I1,r1,q1⟩=>?_) (he _)
 obtain⟨d,rfl,q⟩:=q1
 cases r1
 exact wpAny_truthy_bool ⟨H1,I1,q⟩
variable {tA tB':TT}{rest:List Expr}
noncomputable def Jf(t u:TT):TT:=fun σ H Q=>t σ H fun c H1=>if c=true then u σ H1 Q else Q false H1
noncomputable def MX(t u:TT):TT:=fun σ H Q=>t σ H fun c H1=>if c=true then Q true H1 else u σ H1 Q
noncomputable def Nn(t:TT):TT:=fun σ H Q=>t σ H fun c H1=>Q (!c) H1
theorem pw_and1(ha:PT X a tA):PW X (.BoolOp .And [a] pos) tA:=by
 intro wh pins s σ H Q I h
 refine isTrue_and (bO (ha pins s σ H Q I h) fun c s1 e=>?_)
 cases c with
 |true=>exact isTrue_and_nil e
 |false=>exact e
theorem pw_or1(ha:PT X a tA):PW X (.BoolOp .Or [a] pos) tA:=by
 intro wh pins s σ H Q I h
 refine isTrue_or (bO (ha pins s σ H Q I h) fun c s1 e=>?_)
 cases c with
 |false=>exact isTrue_or_nil e
 |true=>exact e
theorem pw_and(ha:PT X a tA)(hb:PW X (.BoolOp .And (b::rest) pos) tB'):PW X (.BoolOp .And (a::b::rest) pos) (Jf tA tB'):=by
 intro wh pins s σ H Q I h
 refine isTrue_and (bO (ha pins s σ H _ I h) fun c s1 ⟨H1,I1,q1⟩=>?_)
 cases c with
 |true=>exact hb wh pins s1 σ H1 Q I1 q1
 |false=>exact⟨H1,I1,q1⟩
theorem pw_or(ha:PT X a tA)(hb:PW X (.BoolOp .Or (b::rest) pos) tB'):PW X (.BoolOp .Or (a::b::rest) pos) (MX tA tB'):=by
 intro wh pins s σ H Q I h
 refine isTrue_or (bO (ha pins s σ H _ I h) fun c s1 ⟨H1,I1,q1⟩=>?_)
 cases c with
 |true=>exact⟨H1,I1,q1⟩
 |false=>exact hb wh pins s1 σ H1 Q I1 q1
theorem II(ha:PT X a tA):PT X (.UnaryOp .Not a pos) (Nn tA):=by
 intro pins s σ H Q I h
 exact isTrue_not (ha pins s σ H (fun c H1=>Q (!c) H1) I h)
noncomputable def Lx(ta tb:TE):TE:=fun σ H Q=>ta σ H fun x H1=>∃c,x= .bl c∧if c=true then tb σ H1 Q else Q (.bl false) H1
noncomputable def LQ(ta:TE):TE:=fun σ H Q=>ta σ H fun x H1=>∃c,x= .bl c∧Q (.bl (!c)) H1
theorem J6{op}{t:TE}(h:PE X a t):PE X (.BoolOp op [a] pos) t:=fun pins s σ H Q I hw=>BoolOp_one (h pins s σ H Q I hw)
theorem Kx(ha:PE X a ta)(hb:PE X (.BoolOp .And (b::rest) pos) tb):PE X (.BoolOp .And (a::b::rest) pos) (Lx ta tb):=by
 intro pins s σ H Q I h
 refine BoolOp_and (bO (ha pins s σ H _ I h) fun v s1 ⟨x,H1,I1,r1,q1⟩=>?_)
 obtain⟨c,rfl,q1⟩:=q1
 cases r1
 refine wpAny_truthy_bool ?_
 cases c with
 |true=>exact hb pins s1 σ H1 Q I1 q1
 |false=>exact⟨.bl false,H1,I1,rfl,q1⟩
theorem Ko(ha:PE X a ta):PE X (.UnaryOp .Not a pos) (LQ ta):=by
 intro pins s σ H Q I h
 refine UnaryOp_ (bO (ha pins s σ H _ I h) fun v s1 ⟨x,H1,I1,r1,q1⟩=>?_)
 obtain⟨c,rfl,q1⟩:=q1
 cases r1
 exact not_of (wpAny_truthy_bool ⟨.bl (!c),H1,I1,rfl,q1⟩)
noncomputable def Ox(t:TT)(ta tb:TE):TE:=fun σ H Q=>t σ H fun c H1=>if c=true then ta σ H1 Q else tb σ H1 Q
theorem En{c:Expr}(hc:PT X c tA)(ha:PE X a ta)(hb:PE X b tb):PE X (.IfExp c a b pos) (Ox tA ta tb):=by
 intro pins s σ H Q I h
 refine wpAny_IfExp (bO (hc pins s σ H _ I h) fun d s1 ⟨H1,I1,q1⟩=>?_)
 cases d with
 |true=>exact ha pins s1 σ H1 Q I1 q1
 |false=>exact hb pins s1 σ H1 Q I1 q1
end
end L2
namespace L2
open PySem PySem.Spec PyProof.Rows
noncomputable def lH(K:PySem.W.Frag)(H:Hp)(a:Addr)(xs:List V):Prop:=
 Rd H a (.lst xs)∨
  ∃(o:Obj) (au:Array Value) (n:Nat),K.lookup a=some o∧o.cls= .type "list"∧o.dict=none∧o.data= .seq au n∧au.size≤sizeLine∧Vals xs au.toList
noncomputable def iz(K:PySem.W.Frag)(H:Hp)(a:Addr)(xs:List V):Prop:=
 Rd H a (.tup xs)∨
  ∃(o:Obj) (au:Array Value) (n:Nat),K.lookup a=some o∧o.cls= .type "tuple"∧o.data= .seq au n∧au.size≤sizeLine∧Vals xs au.toList
noncomputable def Nk:Value→Option V
 | .none=>some .aE
 | .bool b=>some (.bl b)
 | .int i _=>some (.int i)
 | .str x _=>some (.str x)
 | .bytes b _=>some (.sP b)
 | .float b _=>some (.sV b)
 | .ref a=>some (.ref a)
 | .type n=>some (.ty n)
 |_=>none
theorem RelV.abs{x:V}{u:Value}(r:RelV x u):Nk u=some x:=by
 cases x with
 |aE=>cases r;rfl
 |bl _=>cases r;rfl
 |int _=>obtain⟨t,rfl⟩:=r;rfl
 |str _=>obtain⟨t,rfl⟩:=r;rfl
 |sP _=>obtain⟨t,rfl⟩:=r;rfl
 |sV _=>obtain⟨t,rfl⟩:=r;rfl
 |ref _=>cases r;rfl
 |ty _=>cases r;rfl
theorem RelV.inj{x y:V}{u:Value}(r:RelV x u)(q:RelV y u):x=y:=Option.some.inj (r.abs.symm.trans q.abs)
theorem Vals.inj:∀ {xs ys:List V} {us:List Value},Vals xs us→Vals ys us→xs=ys
 |_,_,_,.nil,.nil=>rfl
 |_,_,_,.cons r t,.cons r' t'=>by rw[r.inj r',Vals.inj t t']
section
variable {X:Cx}{pins:List (Addr×Obj)}{σ:St}{H:Hp}{s:Shared}{a:Addr}{xs ys:List V}
theorem lH.of{K:PySem.W.Frag}(h:H a=some (.lst xs)):lH K H a xs:= .inl (.inl h)
theorem iz.of{K:PySem.W.Frag}(h:H a=some (.tup xs)):iz K H a xs:= .inl (.inl h)
theorem Inv.list(I:Inv X pins σ H s)(h:lH X.K H a xs):∃au:List Value,Vals xs au∧PlainL s.heap a au.toArray∧xs.length≤sizeLine:=by
 rcases h with h|⟨o,au,n,hk,hc,hd,hs,hz,r⟩
 · obtain⟨z,au,n,r,e⟩:=h.ok I.aL
   exact⟨au,r,⟨_,n,e,rfl,rfl,rfl⟩,z⟩
 · refine⟨au.toList,r,⟨o,n,I.gm a o hk,hc,hd,by simpa using hs⟩,?_⟩
   have e:=r.length
   simp only[Array.length_toList]at e
   omega
theorem Inv.tuple(I:Inv X pins σ H s)(h:iz X.K H a xs):∃au:List Value,Vals xs au∧IsTup s.heap a au.toArray∧xs.length≤sizeLine:=by
 rcases h with h|⟨o,au,n,hk,hc,hs,hz,r⟩
 · obtain⟨z,au,r,p⟩:=h.ok I.aL
   exact⟨au,r,p,z⟩
 · refine⟨au.toList,r,⟨o,I.gm a o hk,hc,n,by simpa using hs⟩,?_⟩
   have e:=r.length
   simp only[Array.length_toList]at e
   omega
theorem Inv.yQ(I:Inv X pins σ H s)(h:lH X.K H a xs)(h':lH X.K H a ys):xs=ys:=by
 obtain⟨au,r,⟨o,n,e,_,_,d⟩,_⟩:=I.list h
 obtain⟨its',r',⟨o',n',e',_,_,d'⟩,_⟩:=I.list h'
 rw[e]at e';cases e'
 rw[d]at d'
 injection d' with d1 _
 have:au=its':=by simpa using congrArg Array.toList d1
 subst this
 exact r.inj r'
theorem Inv.wD(I:Inv X pins σ H s)(h:iz X.K H a xs)(h':iz X.K H a ys):xs=ys:=by
 obtain⟨au,r,⟨o,e,_,n,d⟩,_⟩:=I.tuple h
 obtain⟨its',r',⟨o',e',_,n',d'⟩,_⟩:=I.tuple h'
 rw[e]at e';cases e'
 rw[d]at d'
 injection d' with d1 _
 have:au=its':=by simpa using congrArg Array.toList d1
 subst this
 exact r.inj r'
end
noncomputable abbrev Cx.oE(X:Cx)(E:Value→Shared→Prop):Cx:={X with xe:=E}
noncomputable abbrev Cx.uJ(X:Cx):Cx:=X.oE fun _ _=>False
theorem Cx.Ok.oE{X:Cx}(ok:X.Ok)(E:Value→Shared→Prop):(X.oE E).Ok:=
 ⟨ok.mod,ok.kind,ok.glob,ok.blt,ok.above,ok.inj,ok.has,ok.yT,ok.hd,ok.frames,ok.Ap,ok.CK,ok.bs,ok.qu,ok.tZ,ok.tH,ok.jU,ok.vc,ok.gt⟩
theorem Cx.Ok.lO{X:Cx}{E:Value→Shared→Prop}(ok:(X.oE E).Ok):X.Ok:=
 ⟨ok.mod,ok.kind,ok.glob,ok.blt,ok.above,ok.inj,ok.has,ok.yT,ok.hd,ok.frames,ok.Ap,ok.CK,ok.bs,ok.qu,ok.tZ,ok.tH,ok.jU,ok.vc,ok.gt⟩
section
variable {X:Cx}{pins:List (Addr×Obj)}{σ:St}{H:Hp}{s:Shared}{E:Value→Shared→Prop}
theorem Inv.oE(I:Inv X pins σ H s)(E:Value→Shared→Prop):Inv (X.oE E) pins σ H s:=⟨I.ok.oE E,I.os,I.bare,I.base,I.loc,I.cell,I.free,I.g9,I.pin,I.aL,I.len⟩
theorem Inv.lO(I:Inv (X.oE E) pins σ H s):Inv X pins σ H s:=⟨I.ok.lO,I.os,I.bare,I.base,I.loc,I.cell,I.free,I.g9,I.pin,I.aL,I.len⟩
theorem SP.lO{D:Ends}{f:Flow}{s':Shared}(h:SP (X.oE E) pins D f s'):SP X pins D f s':=by
 cases f with
 |next=>obtain⟨σ',H',I,q⟩:=h;exact⟨σ',H',I.lO,q⟩
 |brk=>obtain⟨σ',H',I,q⟩:=h;exact⟨σ',H',I.lO,q⟩
 |cont=>obtain⟨σ',H',I,q⟩:=h;exact⟨σ',H',I.lO,q⟩
 |ret u=>obtain⟨v,σ',H',I,r,q⟩:=h;exact⟨v,σ',H',I.lO,r,q⟩
theorem gj.uJ{st:List Stmt}{t:TS}(h:gj X.uJ st t):gj X st t:=fun pins s σ H D I hw=>
 wpAny_mono (h pins s σ H D (I.oE _) hw) (fun _ _ q=>q.lO) fun _ _ z=>False.elim z
end
section
variable {X:Cx}{st:Stmt}{rest:List Stmt}{t u:TS}{e:Expr}{te:TE}{pos:Pos}
noncomputable def LU:TS:=fun D σ H=>D.nx σ H
noncomputable def Nr(t u:TS):TS:=fun D σ H=>t {D with nx:=u D} σ H
theorem Hx:gj X [] LU:=fun _ _ σ H _ I h=>wpAny_execs_nil ⟨σ,H,I,h⟩
theorem Ey(h1:PS X st t)(h2:gj X rest u):gj X (st::rest) (Nr t u):=by
 intro pins s σ H D I h
 refine wpAny_execs_cons (bO (h1 pins s σ H {D with nx:=u D} I h) fun f s1 q=>?_)
 cases f with
 |next=>
  obtain⟨σ',H',I',q⟩:=q
  exact h2 pins s1 σ' H' D I' q
 |ret v=>exact q
 |brk=>exact q
 |cont=>exact q
theorem GG(h1:PS X st t):gj X [st] t:=by
 intro pins s σ H D I h
 refine wpAny_execs_cons (bO (h1 pins s σ H D I h) fun f s1 q=>?_)
 cases f with
 |next=>exact wpAny_execs_nil q
 |ret v=>exact q
 |brk=>exact q
 |cont=>exact q
theorem Inv.quiet{pins:List (Addr×Obj)}{σ:St}{H:Hp}{s:Shared}(I:Inv X pins σ H s):interactive X.env=false:=by simp[interactive,I.ok.kind]
noncomputable def L_(te:TE):TS:=fun D σ H=>te σ H fun _ H1=>D.nx σ H1
theorem HB(he:PE X e te)(hs:swapsWith e none pos.line X.env=pure false:=by rfl):PS X (.Expr e pos) (L_ te):=by
 intro pins s σ H D I h
 exact wpAny_Expr_any (bO (he pins s σ H _ I h) fun v s1 ⟨x,H1,I1,r1,q1⟩=>⟨σ,H1,I1,q1⟩) I.quiet hs
noncomputable def Nm(te:TE):TS:=fun D σ H=>te σ H D.rt
theorem IB(he:PE X e te):PS X (.Return (some e) pos) (Nm te):=by
 intro pins s σ H D I h
 exact wpAny_Return_some (bO (he pins s σ H _ I h) fun v s1 ⟨x,H1,I1,r1,q1⟩=>⟨x,σ,H1,I1,r1,q1⟩)
noncomputable def NP(c:TT)(t u:TS):TS:=fun D σ H=>c σ H fun b H1=>if b=true then t D σ H1 else u D σ H1
theorem MH{c:Expr}{a b:List Stmt}{tc:TT}(hc:PT X c tc)(ha:gj X a t)(hb:gj X b u):PS X (.If c a b pos) (NP tc t u):=by
 intro pins s σ H D I h
 refine wpAny_If (bO (hc pins s σ H _ I h) fun d s1 ⟨H1,I1,q1⟩=>?_)
 cases d with
 |true=>exact ha pins s1 σ H1 D I1 q1
 |false=>exact hb pins s1 σ H1 D I1 q1
end
noncomputable abbrev TG:=V→St→Hp→(St→Hp→Prop)→Prop
noncomputable abbrev x3:=List V→St→Hp→(St→Hp→Prop)→Prop
noncomputable def PG(X:Cx)(target:Expr)(t:TG):Prop:=
 ∀(pins:List (Addr×Obj)) (s:Shared) (σ:St) (H:Hp) (v:V) (u:Value) (Q:St→Hp→Prop),Inv X pins σ H s→RelV v u→t v σ H Q→
  wpAny (model X.prog X.w) X.A (assign target X.env u) (fun _ s'=>∃σ' H',Inv X pins σ' H' s'∧Q σ' H') X.xe s
noncomputable def Gp(X:Cx)(ts:List Expr)(t:x3):Prop:=
 ∀(pins:List (Addr×Obj)) (s:Shared) (σ:St) (H:Hp) (vs:List V) (us:List Value) (Q:St→Hp→Prop),Inv X pins σ H s→Vals vs us→t vs σ H Q→
  wpAny (model X.prog X.w) X.A (assignInOrder ((assignEach ts X.env).map (·.2)) us) (fun _ s'=>∃σ' H',Inv X pins σ' H' s'∧Q σ' H') X.xe s
noncomputable abbrev E6:=V→V→V→Hp→(Hp→Prop)→Prop
noncomputable def Jt(X:Cx)(t:E6):Prop:=
 ∀(pins:List (Addr×Obj)) (s:Shared) (σ:St) (H:Hp) (o i v:V) (ov iv u:Value) (Q:Hp→Prop),Inv X pins σ H s→RelV o ov→RelV i iv→RelV v u→t o i v H Q→
  wpAny (model X.prog X.w) X.A (setItem ov iv u) (fun _ s'=>∃H',Inv X pins σ H' s'∧Q H') X.xe s
noncomputable abbrev FZ:=V→V→Hp→VK→Prop
noncomputable def ID(X:Cx)(op:Operator)(t:FZ):Prop:=
 ∀(pins:List (Addr×Obj)) (s:Shared) (σ:St) (H:Hp) (x y:V) (v u:Value) (Q:VK),Inv X pins σ H s→RelV x v→RelV y u→t x y H Q→
  wpAny (model X.prog X.w) X.A (inplaceOp op v u) (EP X pins σ Q) X.xe s
section
variable {X:Cx}{pos:Pos}
noncomputable def mv(i:Nat):TG:=fun v σ H Q=>Q (σ.set i (some v)) H
theorem vL{i:Nat}{x:Str}(hN:X.N.Nodup)(hi:X.N[i]?=some x)(hx:Loc X.env.scope x)(hf:X.fn x=true∨X.env.scope.names.lookup x=some .local:=by first|exact .inl rfl|exact .inr rfl|assumption):PG X (.Name x pos) (mv i):=by
 intro pins s σ H v u Q I r h
 exact wpAny_assign_Name (tI I hN hi hx r (fun s' I'=>⟨_,H,I',h⟩) hf)
noncomputable def Kz:x3:=fun vs σ H Q=>vs=[]∧Q σ H
noncomputable def Bc(t:TG)(u:x3):x3:=fun vs σ H Q=>∃v r,vs=v::r∧t v σ H fun σ' H'=>u r σ' H' Q
theorem GJ:Gp X [] Kz:=by
 intro pins s σ H vs us Q I r h
 obtain⟨e,h⟩:=h
 subst e
 cases r
 exact assignInOrder_nil ⟨σ,H,I,h⟩
theorem zg{e:Expr}{es:List Expr}{t:TG}{u:x3}(h1:PG X e t)(h2:Gp X es u)
 (hs:(assignEach (e::es) X.env).map (·.2)=assign e X.env::(assignEach es X.env).map (·.2):=by rfl):Gp X (e::es) (Bc t u):=by
 intro pins s σ H vs us Q I r h
 obtain⟨v,vr,e1,h⟩:=h
 subst e1
 cases r with
 |cons r rr=>
  rw[hs]
  refine assignInOrder_cons (bO (h1 pins s σ H _ _ _ I r h) fun _ s1 ⟨σ1,H1,I1,q1⟩=>?_)
  exact h2 pins s1 σ1 H1 _ _ Q I1 rr q1
noncomputable def KD(K:PySem.W.Frag)(n:Nat)(t:x3):TG:=fun v σ H Q=>∃a xs,v= .ref a∧iz K H a xs∧xs.length=n∧t xs σ H Q
theorem JK{es:List Expr}{k:Nat}{t:x3}{n:Nat}(hc:X.calm=true)(h:Gp X es t)
 (hn:(assignEach es X.env).length=n:=by rfl) (hst:(assignEach es X.env).findIdx? (·.1)=none:=by rfl):PG X (.Tuple es k pos) (KD X.K n t):=by
 intro pins s σ H v u Q I r hw
 obtain⟨a,xs,e1,hq,hl,hw⟩:=hw
 subst e1
 cases r
 obtain⟨au,rv,ht,hz⟩:=I.tuple hq
 refine assign_Tuple_tuple (I.ok.hd hc) ht (by simp[hn,←hl,rv.length]) hst fun h' hx=>?_
 have I1:Inv X pins σ H {s with heap:=h'}:=I.kept (t':=s.toks) fun b o e=>hx b o (Nat.ne_of_lt (Heap.lt_size e)) e
 exact h pins _ σ H xs _ Q I1 (by simpa using rv) hw
noncomputable def Bi(to ti:TE)(t:E6):TG:=fun v σ H Q=>to σ H fun o H1=>ti σ H1 fun i H2=>t o i v H2 fun H3=>Q σ H3
theorem Ke{o i:Expr}{to ti:TE}{t:E6}(ho:PE X o to)(hi:PE X i ti)(hs:Jt X t)
 (ha:∀v,assign (.Subscript o i pos) X.env v=(do
   let ov ←holding [v] (eval o X.env)
   let iv ←holding [v,ov] (eval i X.env)
   standAt pos
   holding [v,ov,iv] (setItem ov iv v)
   release [v,ov,iv] []):=by intro _;rfl):PG X (.Subscript o i pos) (Bi to ti t):=by
 intro pins s σ H v u Q I r h
 rw[ha]
 refine wpAny_bind (wpAny_holding (bO (ho pins s σ H _ I h) fun ov s1 ⟨x,H1,I1,r1,q1⟩=>?_))
 refine wpAny_bind (wpAny_holding (bO (hi pins s1 σ H1 _ I1 q1) fun iv s2 ⟨y,H2,I2,r2,q2⟩=>?_))
 refine wpAny_bind (wpAny_standAt (wpAny_bind (wpAny_holding (bO (hs pins s2 σ H2 x y v ov iv u _ I2 r1 r2 r q2) fun _ s3 ⟨H3,I3,q3⟩=>?_))))
 exact wpAny_release ⟨σ,H3,I3,q3⟩
noncomputable def ox(te:TE)(g:TG):TS:=fun D σ H=>te σ H fun x H1=>g x σ H1 D.nx
theorem CJ{tg e:Expr}{te:TE}{g:TG}(he:PE X e te)(hg:PG X tg g)(hs:swapsWithSole [tg] e pos.line X.env=pure false:=by rfl)(hw:swappedStores [tg] e X.env=pure none:=by rfl)
 (h1:(assignEach [tg] X.env).map (·.2)=[assign tg X.env]:=by rfl):PS X (.Assign [tg] e pos) (ox te g):=by
 intro pins s σ H D I h
 refine wpAny_Assign_stores (bO (he pins s σ H _ I h) fun v s1 ⟨x,H1,I1,r1,q1⟩=>?_) hs hw
 rw[h1]
 exact bO (hg pins s1 σ H1 x v _ I1 r1 q1) fun _ s2 q=>q
theorem K_{i:Nat}{x:Str}{e:Expr}{te:TE}{pos':Pos}(hN:X.N.Nodup)(hi:X.N[i]?=some x)(hx:Loc X.env.scope x)(he:PE X e te)(hs:swapsWith e (some (.Name x pos')) pos.line X.env=pure false:=by rfl)(hf:X.fn x=true∨X.env.scope.names.lookup x=some .local:=by first|exact .inl rfl|exact .inr rfl|assumption):
 PS X (.Assign [.Name x pos'] e pos) (ox te (mv i)):=by
 intro pins s σ H D I h
 refine wpAny_Assign_Name (bO (he pins s σ H _ I h) fun v s1 ⟨y,H1,I1,r1,q1⟩=>?_) hs
 exact tI I1 hN hi hx r1 (fun s2 I2=>⟨_,H1,I2,q1⟩) hf
noncomputable def KH(i:Nat)(te:TE)(ti:FZ):TS:=fun D σ H=>∃x,σ[i]?=some (some x)∧te σ H fun y H1=>ti x y H1 fun z H2=>D.nx (σ.set i (some z)) H2
theorem Jm{i:Nat}{x:Str}{e:Expr}{te:TE}{op:Operator}{ti:FZ}{pos':Pos}(hN:X.N.Nodup)(hi:X.N[i]?=some x)(hx:Loc X.env.scope x)(he:PE X e te)(ho:ID X op ti)(hf:X.fn x=true∨X.env.scope.names.lookup x=some .local:=by first|exact .inl rfl|exact .inr rfl|assumption):
 PS X (.AugAssign (.Name x pos') op e pos) (KH i te ti):=by
 intro pins s σ H D I h
 obtain⟨v,e1,h⟩:=h
 obtain⟨m,hn,hl⟩:=I.loc
 have vis:xG X.env.scope x:=by rcases hx with k|k;exact .inl k;exact .inr (.inl k)
 obtain⟨u,r,l⟩:=hl i x v hi e1 vis
 refine wpAny_AugAssign_Name ?_
 have go:wpAny (model X.prog X.w) X.A (eval e X.env) (fun w s₂=>wpAny (model X.prog X.w) X.A (inplaceOp op u w) (fun r s₃=>wpAny (model X.prog X.w) X.A (storeName X.env x r) (fun _=>SP X pins D .next) X.xe s₃) X.xe s₂) X.xe s:=by
  refine bO (he pins s σ H _ I h) fun w s1 ⟨y,H1,I1,r1,q1⟩=>?_
  refine bO (ho pins s1 σ H1 v y u w _ I1 r r1 q1) fun z s2 ⟨zv,H2,I2,r2,q2⟩=>?_
  exact tI I2 hN hi hx r2 (fun s3 I3=>⟨_,H2,I3,q2⟩) hf
 rcases l with⟨hk,hm⟩|⟨hk,c,hc,hcell⟩
 · exact wpAny_loadName_local I.ok.kind hk hn hm go
 · rcases hk with hk|hk
   · exact wpAny_loadName_cell I.ok.kind hk hc hcell go
   · rcases hx with k|k
     · have:X.env.scope.names.lookup x=some .free:=hk
       rw[k]at this;cases this
     · have:X.env.scope.names.lookup x=some .free:=hk
       rw[k]at this;cases this
noncomputable def Iz(f:Int→Int→Int):FZ:=fun x y H Q=>∃i j,x= .int i∧y= .int j∧Q (.int (f i j)) H
theorem KR:ID X .Add (Iz fun i j=>i+j):=by
 intro pins s σ H x y v u Q I r1 r2 h
 obtain⟨i,j,e1,e2,q⟩:=h
 subst e1;subst e2
 obtain⟨t,rfl⟩:=r1
 obtain⟨t',rfl⟩:=r2
 exact iadd_int ⟨.int _,H,I.tok _,⟨_,rfl⟩,q⟩
end
section
variable {X:Cx}{pos:Pos}
noncomputable def DV(c:TT)(tb:TS):TS:=fun D σ H=>∃W:Nat→St→Hp→Prop,(∃m,W m σ H)∧∀m σ H,W m σ H→
 c σ H fun b H1=>if b=true then∃N:St→Hp→Prop,(∀σ' H',N σ' H'→∃m',m'<m∧W m' σ' H')∧tb {D with nx:=N,ct:=N,bk:=D.nx} σ H1 else D.nx σ H1
theorem E_{c:Expr}{body:List Stmt}{tc:TT}{tb:TS}(hp:PassesOwn (model X.prog X.w) X.A X.env X.xe)(hc:PT X c tc)(hb:gj X body tb):PS X (.While c body [] pos) (DV tc tb):=by
 intro pins s σ H D I h
 obtain⟨W,⟨m0,w0⟩,turn⟩:=h
 refine wpAny_While (codeAny_whileLoop (fun n s'=>∃σ' H',Inv X pins σ' H' s'∧W n σ' H') ?_ m0 ⟨σ,H,I,w0⟩)
 rintro n s1 ⟨σ1,H1,I1,w1⟩
 refine wpAny_passesOwn hp (bO (hc pins s1 σ1 H1 _ I1 (turn n σ1 H1 w1)) fun b s2 ⟨H2,I2,q2⟩=>?_)
 cases b with
 |true=>
  obtain⟨N,hN,q2⟩:=q2
  rw[if_pos rfl]
  refine wpAny_passesOwn hp (bO (hb pins s2 σ1 H2 _ I2 q2) fun f s3 q3=>?_)
  cases f with
  |next=>
   obtain⟨σ3,H3,I3,n3⟩:=q3
   obtain⟨m',hm,w3⟩:=hN σ3 H3 n3
   exact⟨m',hm,σ3,H3,I3,w3⟩
  |cont=>
   obtain⟨σ3,H3,I3,n3⟩:=q3
   obtain⟨m',hm,w3⟩:=hN σ3 H3 n3
   exact⟨m',hm,σ3,H3,I3,w3⟩
  |brk=>exact q3
  |ret v=>exact q3
 |false=>
  rw[if_neg Bool.false_ne_true]
  exact wpAny_execs_nil ⟨σ1,H2,I2,q2⟩
end
structure It where
 go:Nat→Hp→Prop
 nR:Nat→Hp→V→Hp→Prop
 stop:Nat→Hp→Prop
noncomputable def kn(X:Cx)(pins:List (Addr×Obj))(H:Hp)(b:Addr):Prop:=
 H b=none∧b≠X.env.locals∧b∉X.fs∧(b∈X.ex∨X.s₀.heap.objs.size≤b)∧(∀x c,X.env.cells.lookup x=some c→c≠b)∧∀p∈X.pn++pins,p.1≠b
theorem Inv.tX{X:Cx}{pins:List (Addr×Obj)}{σ:St}{H H':Hp}{s:Shared}{b:Addr}(I:Inv X pins σ H s)(hb:s.heap.objs.size≤b)(hn:H' b=none):kn X pins H' b:=by
 refine⟨hn,Nat.ne_of_gt (Nat.lt_of_lt_of_le I.lt hb),I.Kd hb,.inr (Nat.le_trans I.sz hb),fun x c e z=>?_,fun p hp z=>?_⟩
 · obtain⟨v,q⟩:=I.cell x c e
   exact absurd (Nat.lt_of_lt_of_le q.lt (by rw[z];exact hb)) (Nat.lt_irrefl _)
 · exact absurd (Nat.lt_of_lt_of_le (Heap.lt_size (I.pin p hp).1) (by rw[z];exact hb)) (Nat.lt_irrefl _)
structure Turn(P:Program)(w:World)(K:PySem.W.Frag)(tg:Expr)(J:It)(fp:List Addr)(it:Addr)(tn:Nat→Heap→Prop):Prop where
 mem:it∈fp
 obj:∀i h,tn i h→∀b∈fp,∃o,h.get? b=some o∧∀v,o.data≠ .cell v
 keep:∀i h h',tn i h→(∀b∈fp,∀o,h.get? b=some o→h'.get? b=some o)→tn i h'
 item:∀(X:Cx),X.prog=P→X.w=w→X.K=K→X.calm=true→∀(i:Nat) (pins:List (Addr×Obj)) (s:Shared) (σ:St) (H:Hp) (E:Value→Shared→Prop),Inv X pins σ H s→(∀b∈fp,kn X pins H b)→tn i s.heap→J.go i H→
  wpAny (model P w) X.A (pyNext (.ref it)) (fun r s1=>∃u,r=some u∧
   wpAny (model P w) X.A (letOwnedTupleGo tg (.ref it) u) (fun _ s2=>∃x H',Inv X pins σ H' s2∧RelV x u∧J.nR i H x H'∧tn (i+1) s2.heap∧∀b∈fp,H' b=none) E s1) E s
 done:∀(X:Cx),X.prog=P→X.w=w→X.K=K→X.calm=true→∀(i:Nat) (pins:List (Addr×Obj)) (s:Shared) (σ:St) (H:Hp) (E:Value→Shared→Prop),Inv X pins σ H s→(∀b∈fp,kn X pins H b)→tn i s.heap→J.stop i H→
  wpAny (model P w) X.A (pyNext (.ref it)) (fun r s1=>r=none∧Inv X pins σ H s1) E s
 self:∀(A:Around) (i:Nat) (s:Shared) (Q:Value→Shared→Prop) (E:Value→Shared→Prop),tn i s.heap→Q (.ref it) s→wpAny (model P w) A (pyIter (.ref it)) Q E s
noncomputable abbrev TI:=St→Hp→(It→Hp→Prop)→Prop
noncomputable def FH(X:Cx)(pins:List (Addr×Obj))(σ:St)(tg:Expr)(R:It→Hp→Prop)(itv:Value)(s2:Shared):Prop:=
 ∃(it:Addr) (fp:List Addr) (tn:Nat→Heap→Prop) (J:It) (H':Hp),itv= .ref it∧Inv X pins σ H' s2∧Turn X.prog X.w X.K tg J fp it tn∧tn 0 s2.heap∧(∀b∈fp,kn X pins H' b)∧R J H'
noncomputable def PI(X:Cx)(tg iter:Expr)(wi:TI):Prop:=
 ∀(pins:List (Addr×Obj)) (s:Shared) (σ:St) (H:Hp) (R:It→Hp→Prop),Inv X pins σ H s→wi σ H R→
  wpAny (model X.prog X.w) X.A (eval iter X.env) (fun v s1=>wpAny (model X.prog X.w) X.A (pyIter v) (FH X pins σ tg R) X.xe s1) X.xe s
theorem xn{M:Model}{A:Around}{E:Value→Shared→Prop}{s:Shared}{tg:Expr}{it:Addr}{u:Value}{o:Obj}{n:String}{vs:Array Value}{Q:Unit→Shared→Prop}(ho:s.heap.get? it=some o)(hc:o.cls= .type n)(hd:o.data= .fields vs)
 (hn: ["enumerate","zip","dict_itemiterator","dict_reverseitemiterator","odict_iterator","itertools.zip_longest","itertools.pairwise"].contains n=false) (hQ:Q () s):wpAny M A (letOwnedTupleGo tg (.ref it) u) Q E s:=by
 unfold letOwnedTupleGo
 cases tg<;>first
  |exact wpAny_pure hQ
  |(cases u<;>first
     |exact wpAny_pure hQ
     |(refine wpAny_bind (wpAny_load ho ?_)
       rw[hc,hd]
       show wpAny M A (if(["enumerate","zip","dict_itemiterator","dict_reverseitemiterator","odict_iterator","itertools.zip_longest","itertools.pairwise"].contains n&&vs[0]?==some (rawInt _))=true then _ else _) Q E s
       rw[if_neg (by intro h;rw[hn,Bool.false_and]at h;cases h)]
       exact wpAny_pure hQ))
noncomputable def IE(K:PySem.W.Frag)(a:Addr):It:=
 ⟨fun i H=>∃xs x,lH K H a xs∧xs[i]?=some x,fun i H x H'=>H'=H∧∀xs,lH K H a xs→xs[i]?=some x,fun i H=>∃xs,lH K H a xs∧xs.length≤i⟩
noncomputable def J3(K:PySem.W.Frag)(a:Addr):It:=
 ⟨fun i H=>∃xs x,iz K H a xs∧xs[i]?=some x,fun i H x H'=>H'=H∧∀xs,iz K H a xs→xs[i]?=some x,fun i H=>∃xs,iz K H a xs∧xs.length≤i⟩
noncomputable def wz(lo:Int)(n:Nat):It:=⟨fun i _=>i<n,fun i H x H'=>H'=H∧x= .int (lo+i),fun i _=>n≤i⟩
theorem DM{P:Program}{w:World}{K:PySem.W.Frag}{tg:Expr}(a it:Addr):Turn P w K tg (IE K a) [it] it (fun i h=>h.IsListIter it a i) where
 mem:=by simp
 obj:=fun i h st b hb=>by
  have e:b=it:=by simpa using hb
  subst e
  obtain⟨o,e,c,d⟩:=st
  exact⟨o,e,fun v z=>by rw[d]at z;cases z⟩
 keep:=fun i h h' st k=>st.at fun o e=>k it (by simp) o e
 item:=by
  intro X hP hw hK hc i pins s σ H E I hf st hg
  subst hP hw hK
  obtain⟨xs,x,hq,hx⟩:=hg
  obtain⟨au,rv,p,hz⟩:=I.list hq
  obtain⟨u,hu,ru⟩:=rv.get hx
  obtain⟨f0,f1,f2,f3,f4,f5⟩:=hf it (by simp)
  refine wpAny_pyNext_list_item st p.isList (x:=u) (by simpa using hu) fun h' st' sb=>?_
  have I1:Inv X pins σ H {s with heap:=h'}:=I.turned (t':=s.toks) (fun b o hb e=>(sb.2 b hb).trans e) f0 f1 f3 f4 f5
  obtain⟨o,e,c,d⟩:=id st'
  exact⟨u,rfl,xn (s:={s with heap:=h'}) e c d (by decide) ⟨x,H,I1,ru,⟨rfl,fun ys hy=>by rw[I.yQ hy hq];exact hx⟩,st',fun b hb=>(hf b hb).1⟩⟩
 done:=by
  intro X hP hw hK hc i pins s σ H E I hf st hg
  subst hP hw hK
  obtain⟨xs,hq,hx⟩:=hg
  obtain⟨au,rv,p,hz⟩:=I.list hq
  obtain⟨f0,f1,f2,f3,f4,f5⟩:=hf it (by simp)
  have hl:=rv.length
  exact wpAny_pyNext_list_end (I.ok.hd hc) st p.isList (by simp;omega) fun h' eb=>⟨rfl,I.turned (t':=s.toks) (fun b o hb e=>eb b o hb e) f0 f1 f3 f4 f5⟩
 self:=fun _ _ _ _ _ st h=>wpAny_pyIter_listiter st h
theorem BF{P:Program}{w:World}{K:PySem.W.Frag}{tg:Expr}(a it:Addr):Turn P w K tg (J3 K a) [it] it (fun i h=>h.IsTupleIter it a i) where
 mem:=by simp
 obj:=fun i h st b hb=>by
  have e:b=it:=by simpa using hb
  subst e
  obtain⟨o,e,c,d⟩:=st
  exact⟨o,e,fun v z=>by rw[d]at z;cases z⟩
 keep:=fun i h h' st k=>st.at fun o e=>k it (by simp) o e
 item:=by
  intro X hP hw hK hc i pins s σ H E I hf st hg
  subst hP hw hK
  obtain⟨xs,x,hq,hx⟩:=hg
  obtain⟨au,rv,p,hz⟩:=I.tuple hq
  obtain⟨u,hu,ru⟩:=rv.get hx
  obtain⟨f0,f1,f2,f3,f4,f5⟩:=hf it (by simp)
  refine wpAny_pyNext_tuple_item st (show s.heap.IsTuple a au.toArray from p) (x:=u) (by simpa using hu) fun h' st' sb=>?_
  have I1:Inv X pins σ H {s with heap:=h'}:=I.turned (t':=s.toks) (fun b o hb e=>(sb.2 b hb).trans e) f0 f1 f3 f4 f5
  obtain⟨o,e,c,d⟩:=id st'
  exact⟨u,rfl,xn (s:={s with heap:=h'}) e c d (by decide) ⟨x,H,I1,ru,⟨rfl,fun ys hy=>by rw[I.wD hy hq];exact hx⟩,st',fun b hb=>(hf b hb).1⟩⟩
 done:=by
  intro X hP hw hK hc i pins s σ H E I hf st hg
  subst hP hw hK
  obtain⟨xs,hq,hx⟩:=hg
  obtain⟨au,rv,p,hz⟩:=I.tuple hq
  obtain⟨f0,f1,f2,f3,f4,f5⟩:=hf it (by simp)
  have hl:=rv.length
  exact wpAny_pyNext_tuple_end (I.ok.hd hc) st (show s.heap.IsTuple a au.toArray from p) (by simp;omega) fun h' eb=>⟨rfl,I.turned (t':=s.toks) (fun b o hb e=>eb b o hb e) f0 f1 f3 f4 f5⟩
 self:=fun _ _ _ _ _ st h=>wpAny_pyIter_tupleiter st h
theorem A8{P:Program}{w:World}{K:PySem.W.Frag}{tg:Expr}(it:Addr)(lo:Int)(n:Nat):Turn P w K tg (wz lo n) [it] it (fun i h=>IsRangeIter h it (lo+(i:Nat)*1) ((n:Int)-(i:Nat)) 1) where
 mem:=by simp
 obj:=fun i h st b hb=>by
  have e:b=it:=by simpa using hb
  subst e
  exact⟨_,st,fun v z=>by
   have z':Data.fields _=Data.cell v:=z
   cases z'⟩
 keep:=fun i h h' st k=>k it (by simp) _ st
 item:=by
  intro X hP hw hK hc i pins s σ H E I hf st hg
  subst hP hw hK
  obtain⟨f0,f1,f2,f3,f4,f5⟩:=hf it (by simp)
  have W:=Walks.range (prog:=X.prog) (w:=X.w) (I.ok.hd hc) it lo 1 n
  refine W.item i s _ _ hg st fun v h' tk hv st' kk=>?_
  obtain⟨t,rfl⟩:=hv
  have I1:Inv X pins σ H {s with heap:=h',toks:=tk}:=I.turned (fun b o hb e=>kk b o (by simpa using hb) e) f0 f1 f3 f4 f5
  refine⟨_,rfl,xn (s:={s with heap:=h',toks:=tk}) (n:="range_iterator") st' rfl rfl (by decide) ⟨.int (lo+i),H,I1,⟨t,?_⟩,⟨rfl,rfl⟩,st',fun b hb=>(hf b hb).1⟩⟩
  rw[Int.mul_one]
 done:=by
  intro X hP hw hK hc i pins s σ H E I hf st hg
  subst hP hw hK
  obtain⟨f0,f1,f2,f3,f4,f5⟩:=hf it (by simp)
  exact wpAny_pyNext_range_end (I.ok.hd hc) st (by have:n≤i:=hg;omega) fun h' eb=>⟨rfl,I.turned (t':=s.toks) (fun b o hb e=>eb b o hb e) f0 f1 f3 f4 f5⟩
 self:=fun _ _ _ _ _ st h=>wpAny_pyIter_rangeiter st h
end L2
namespace L2
open PySem PySem.Spec PyProof.Rows
section
variable {X:Cx}{tg:Expr}
theorem yz{pins:List (Addr×Obj)}{σ:St}{H:Hp}{s:Shared}{R:It→Hp→Prop}{E:Value→Shared→Prop}{lo hi:Int}{t u v:Tok}{tk:Nat}(I:Inv X pins σ H s)(h1: -(2^62)≤lo)(h2:lo<2^62)(h3: -(2^62)≤hi)(h4:hi<2^62)
 (q:R (wz lo (hi-lo).toNat) H):wpAny (model X.prog X.w) X.A (pyIter (.ref s.heap.objs.size)) (FH X pins σ tg R) E {s with heap:=s.heap.push {cls:= .type "range",data:= .fields #[.int lo t,.int hi u,.int 1 v]},toks:=tk}:=by
 refine wpAny_pyIter_range (IsRange.new ..) (small_one h1 h2 h3 h4) ?_
 have I1:Inv X pins σ H {s with heap:=s.heap.push {cls:= .type "range",data:= .fields #[.int lo t,.int hi u,.int 1 v]},toks:=tk}:=I.kept fun b o e=>Heap.get?_push_of_some _ e
 refine⟨(s.heap.push {cls:= .type "range",data:= .fields #[.int lo t,.int hi u,.int 1 v]}).objs.size,[(s.heap.push {cls:= .type "range",data:= .fields #[.int lo t,.int hi u,.int 1 v]}).objs.size],_,_,H,rfl,
  I1.kept (t':=tk) fun b o e=>Heap.get?_push_of_some _ e,A8 _ lo (hi-lo).toNat,?_,fun b hb=>?_,q⟩
 · have e1:lo+((0:Nat):Int)*1=lo:=by simp
   have e2:(((hi-lo).toNat:Nat):Int)-((0:Nat):Int)=Builtin.Range.rangeSize lo hi 1:=by rw[rangeSize_one];split<;>omega
   show IsRangeIter _ _ (lo+((0:Nat):Int)*1) ((((hi-lo).toNat:Nat):Int)-((0:Nat):Int)) 1
   rw[e1,e2]
   exact Heap.get?_push_size _ rfl
 · have e:b=(s.heap.push {cls:= .type "range",data:= .fields #[.int lo t,.int hi u,.int 1 v]}).objs.size:=by simpa using hb
   subst e
   exact I1.tX (Nat.le_refl _) (I1.aL.fresh (Nat.le_refl _))
noncomputable def AW(ta:TA):TI:=fun σ H R=>ta σ H fun vs H1=>∃j:Int,vs=[.int j]∧ -(2^62)≤j∧j<2^62∧R (wz 0 j.toNat) H1
noncomputable def A4(ta:TA):TI:=fun σ H R=>ta σ H fun vs H1=>∃i j:Int,vs=[.int i,.int j]∧(-(2^62)≤i∧i<2^62∧ -(2^62)≤j∧j<2^62)∧R (wz i (j-i).toNat) H1
theorem CI{a:Expr}{ta:TA}{p pos:Pos}(hg:Gl X "range")(hm:X.mg "range"=none)(ha:PA X [a] ta)(hs:starEach [a] X.env=[(false,eval a X.env)]:=by rfl):PI X tg (.Call (.Name "range" p) [a] [] pos) (AW ta):=by
 intro pins s σ H R I h
 refine Call_ (jO I hg hm boot_range (PyProof.Rows.callWith_type1 (bO (ha pos pins s σ H _ I h) fun us s1 ⟨vs,H1,I1,r1,q1⟩=>?_) hs rfl))
 obtain⟨j,e,q1,q2,q⟩:=q1
 subst e
 cases r1 with
 |cons r rr=>
  cases rr
  obtain⟨t,rfl⟩:=r
  exact call_range_1 (yz I1 (by omega) (by omega) q1 q2 (by simpa using q))
theorem Cr{a b:Expr}{ta:TA}{p pos:Pos}(hg:Gl X "range")(hm:X.mg "range"=none)(ha:PA X [a,b] ta)(hs:starEach [a,b] X.env=[(false,eval a X.env),(false,eval b X.env)]:=by rfl)(hs2:starEach [b] X.env=[(false,eval b X.env)]:=by rfl):
 PI X tg (.Call (.Name "range" p) [a,b] [] pos) (A4 ta):=by
 intro pins s σ H R I h
 refine Call_ (jO I hg hm boot_range (PyProof.Rows.callWith_type1 (bO (ha pos pins s σ H _ I h) fun us s1 ⟨vs,H1,I1,r1,q1⟩=>?_) (by rw[hs,hs2]) (by rw[hs2];rfl)))
 obtain⟨i,j,e,⟨q1,q2,q3,q4⟩,q⟩:=q1
 subst e
 cases r1 with
 |cons r rr=>
  cases rr with
  |cons r' rr=>
   cases rr
   obtain⟨t,rfl⟩:=r
   obtain⟨t',rfl⟩:=r'
   exact call_range_2 (yz I1 q1 q2 q3 q4 q)
noncomputable def Kb(wi:TI)(g:TG)(tb:TS):TS:=fun D σ H=>wi σ H fun J H1=>∃W:Nat→Nat→St→Hp→Prop,(∃m,W 0 m σ H1)∧∀i m σ H,W i m σ H→
 (J.stop i H∧D.nx σ H)∨(J.go i H∧∃N:St→Hp→Prop,(∀σ' H',N σ' H'→∃m',m'<m∧W (i+1) m' σ' H')∧∀x H',J.nR i H x H'→g x σ H' fun σ2 H2=>tb {D with nx:=N,ct:=N,bk:=D.nx} σ2 H2)
noncomputable def qm(fp:List Addr)(h:Heap):List (Addr×Obj):=fp.filterMap fun b=>(h.get? b).map fun o=>(b,o)
theorem l9{fp:List Addr}{h:Heap}{b:Addr}{o:Obj}(hb:b∈fp)(e:h.get? b=some o):(b,o)∈qm fp h:=List.mem_filterMap.mpr ⟨b,hb,by rw[e];rfl⟩
theorem D3{fp:List Addr}{h:Heap}{p:Addr×Obj}(hp:p∈qm fp h):p.1∈fp∧h.get? p.1=some p.2:=by
 obtain⟨b,hb,e⟩:=List.mem_filterMap.mp hp
 cases q:h.get? b with
 |none=>rw[q]at e;cases e
 |some o=>
  rw[q]at e
  have e':(b,o)=p:=Option.some.inj e
  subst e'
  exact⟨hb,q⟩
theorem Inv.pinned{pins:List (Addr×Obj)}{σ:St}{H:Hp}{s:Shared}{fp:List Addr}(I:Inv X pins σ H s)(hf:∀b∈fp,kn X pins H b)(ho:∀b∈fp,∃o,s.heap.get? b=some o∧∀v,o.data≠ .cell v):Inv X (pins++qm fp s.heap) σ H s:=
 I.rV fun p hp=>(List.mem_append.mp hp).elim (fun z=>I.pin p (List.mem_append_right _ z)) fun z=>by
  obtain⟨hb,e⟩:=D3 z
  obtain⟨f0,f1,f2,_⟩:=hf p.1 hb
  obtain⟨o,e',d⟩:=ho p.1 hb
  rw[e]at e';cases e'
  exact⟨e,f0,f1,f2,d⟩
theorem Inv.gp{pins pl:List (Addr×Obj)}{σ:St}{H:Hp}{s:Shared}(I:Inv X (pins++pl) σ H s):Inv X pins σ H s:=I.rV fun p hp=>I.pin p (List.mem_append_right _ (List.mem_append_left _ hp))
theorem Jk{iter:Expr}{body:List Stmt}{wi:TI}{g:TG}{tb:TS}{pos:Pos}(hp:PassesOwn (model X.prog X.w) X.A X.env X.xe)(hc:X.calm=true)(hi:PI X tg iter wi)(hg:PG X tg g)(hb:gj X body tb)
 (hs:∀x,foldedSetIterable iter X.env x=pure x:=by intro _;rfl):PS X (.For tg iter body [] pos) (Kb wi g tb):=by
 intro pins s σ H D I h
 refine wpAny_For (bO (hi pins s σ H _ I h) fun v s1 h1=>bO h1 fun itv s2 h2=>?_) hs
 obtain⟨it,fp,tn,J,H2,e,I2,T,st2,f2,W,⟨m0,w0⟩,turn⟩:=h2
 subst e
 have stat:∀ {H':Hp},(∀b∈fp,H' b=none)→∀b∈fp,kn X pins H' b:=fun hn b hb=>⟨hn b hb,(f2 b hb).2⟩
 refine codeAny_forLoop_any (fun n s'=>∃i σ' H',Inv X pins σ' H' s'∧tn i s'.heap∧(∀b∈fp,H' b=none)∧W i n σ' H') ?_ m0 ⟨0,σ,H2,I2,st2,fun b hb=>(f2 b hb).1,w0⟩
 rintro n s3 ⟨i,σ3,H3,I3,st3,fr3,w3⟩
 rcases turn i n σ3 H3 w3 with⟨stop,qn⟩|⟨go,N,hN,step⟩
 · refine wpAny_passesOwn hp (bO (T.done X rfl rfl rfl hc i pins s3 σ3 H3 X.xe I3 (stat fr3) st3 stop) fun r s4 ⟨hr,I4⟩=>?_)
   subst hr
   exact wpAny_execs_nil ⟨σ3,H3,I4,qn⟩
 · refine wpAny_passesOwn hp (bO (T.item X rfl rfl rfl hc i pins s3 σ3 H3 X.xe I3 (stat fr3) st3 go) fun r s4 ⟨u,hr,h4⟩=>?_)
   subst hr
   refine wpAny_passesOwn hp (bO h4 fun _ s5 ⟨x,H5,I5,r5,y5,st5,fr5⟩=>?_)
   have I5':=I5.pinned (stat fr5) (T.obj _ _ st5)
   refine wpAny_passesOwn hp (bO (hg _ s5 σ3 H5 x u _ I5' r5 (step x H5 y5)) fun _ s6 ⟨σ6,H6,I6,q6⟩=>?_)
   refine wpAny_passesOwn hp (bO (hb _ s6 σ6 H6 _ I6 q6) fun f s7 q7=>?_)
   have again:∀ {σ7:St} {H7:Hp},Inv X (pins++qm fp s5.heap) σ7 H7 s7→N σ7 H7→∃m,m<n∧∃i σ' H',Inv X pins σ' H' s7∧tn i s7.heap∧(∀b∈fp,H' b=none)∧W i m σ' H':=fun{σ7 H7} I7 n7=>by
    obtain⟨m',hm,w7⟩:=hN σ7 H7 n7
    refine⟨m',hm,i+1,σ7,H7,I7.gp,T.keep _ _ _ st5 fun b hb o e=>(I7.pin (b,o) (List.mem_append_right _ (List.mem_append_right _ (l9 hb e)))).1,fun b hb=>?_,w7⟩
    obtain⟨o,e,d⟩:=T.obj _ _ st5 b hb
    exact(I7.pin (b,o) (List.mem_append_right _ (List.mem_append_right _ (l9 hb e)))).2.1
   cases f with
   |next=>obtain⟨σ7,H7,I7,n7⟩:=q7;exact again I7 n7
   |cont=>obtain⟨σ7,H7,I7,n7⟩:=q7;exact again I7 n7
   |brk=>obtain⟨σ7,H7,I7,q7⟩:=q7;exact⟨σ7,H7,I7.gp,q7⟩
   |ret v=>obtain⟨x7,σ7,H7,I7,r7,q7⟩:=q7;exact⟨x7,σ7,H7,I7.gp,r7,q7⟩
end
theorem og{lo:Int}{n:Nat}{g:TG}{tb:TS}{D:Ends}{σ:St}{H:Hp}(Pv:Nat→St→Hp→Prop)(h0:Pv 0 σ H)
 (hs:∀i σ H,i<n→Pv i σ H→g (.int (lo+i)) σ H fun σ2 H2=>tb {D with nx:=Pv (i+1),ct:=Pv (i+1),bk:=D.nx} σ2 H2) (hd:∀σ H,Pv n σ H→D.nx σ H):
 ∃W:Nat→Nat→St→Hp→Prop,(∃m,W 0 m σ H)∧∀i m σ H,W i m σ H→
  ((wz lo n).stop i H∧D.nx σ H)∨((wz lo n).go i H∧∃N:St→Hp→Prop,(∀σ' H',N σ' H'→∃m',m'<m∧W (i+1) m' σ' H')∧∀x H',(wz lo n).nR i H x H'→g x σ H' fun σ2 H2=>tb {D with nx:=N,ct:=N,bk:=D.nx} σ2 H2):=by
 refine⟨fun i m σ H=>m=n-i∧i≤n∧Pv i σ H,⟨n,by simp,Nat.zero_le _,h0⟩,?_⟩
 rintro i m σ H ⟨rfl,hi,p⟩
 by_cases hlt:i<n
 · refine .inr ⟨hlt,Pv (i+1),fun σ' H' p'=>⟨n-(i+1),by omega,rfl,hlt,p'⟩,fun x H' y=>?_⟩
   obtain⟨e,y⟩:=y
   subst e y
   exact hs i σ _ hlt p
 · have e:i=n:=by omega
   subst e
   exact .inl ⟨Nat.le_refl _,hd σ H p⟩
end L2
namespace L2
open PySem PySem.Spec PyProof.Rows
noncomputable abbrev R2:=V→V→Hp→VK→Prop
noncomputable def bX(X:Cx)(f:Value→Value→Sem Value)(r:R2):Prop:=
 ∀(pins:List (Addr×Obj)) (s:Shared) (σ:St) (H:Hp) (x y:V) (v u:Value) (Q:VK),Inv X pins σ H s→RelV x v→RelV y u→r x y H Q→
  wpAny (model X.prog X.w) X.A (f v u) (EP X pins σ Q) X.xe s
noncomputable def AL(X:Cx)(f:Value→Sem Value)(r:V→Hp→VK→Prop):Prop:=
 ∀(pins:List (Addr×Obj)) (s:Shared) (σ:St) (H:Hp) (x:V) (v:Value) (Q:VK),Inv X pins σ H s→RelV x v→r x H Q→
  wpAny (model X.prog X.w) X.A (f v) (EP X pins σ Q) X.xe s
noncomputable def cx(X:Cx)(f:Value)(r:List V→Hp→VK→Prop):Prop:=
 ∀(pins:List (Addr×Obj)) (s:Shared) (σ:St) (H:Hp) (xs:List V) (us:List Value) (Q:VK),Inv X pins σ H s→Vals xs us→r xs H Q→
  wpAny (model X.prog X.w) X.A (call f us) (EP X pins σ Q) X.xe s
noncomputable def Ds(r:R2)(ta tb:TE):TE:=fun σ H Q=>ta σ H fun x H1=>tb σ H1 fun y H2=>r x y H2 Q
noncomputable def M0(r:V→Hp→VK→Prop)(ta:TE):TE:=fun σ H Q=>ta σ H fun x H1=>r x H1 Q
noncomputable def rI(C:Int→Int→Prop)(g:Int→Int→V):R2:=fun x y H Q=>∃i j,x= .int i∧y= .int j∧C i j∧Q (g i j) H
noncomputable def ym(g:Int→Int→V):R2:=fun x y H Q=>∃i j,x= .int i∧y= .int j∧Q (g i j) H
noncomputable def rU(g:Int→V):V→Hp→VK→Prop:=fun x H Q=>∃i,x= .int i∧Q (g i) H
section
variable {X:Cx}{a b c:Expr}{ta tb tc:TE}{pos:Pos}
theorem ER(ha:PE X a ta)(hb:PE X b tb){pins:List (Addr×Obj)}{s:Shared}{σ:St}{H:Hp}{R:V→V→Hp→Prop}(I:Inv X pins σ H s)
 (h:ta σ H fun x H1=>tb σ H1 fun y H2=>R x y H2) {Q:Value→Shared→Prop} {f:Value→Value→Sem Value}
 (hf:∀v u s2 x y H2,Inv X pins σ H2 s2→RelV x v→RelV y u→R x y H2→wpAny (model X.prog X.w) X.A (f v u) Q X.xe s2):
 wpAny (model X.prog X.w) X.A (eval a X.env) (fun v s₁=>wpAny (model X.prog X.w) X.A (eval b X.env) (fun u s₂=>wpAny (model X.prog X.w) X.A (f v u) Q X.xe s₂) X.xe s₁) X.xe s:=by
 refine bO (ha pins s σ H _ I h) fun v s1 ⟨x,H1,I1,r1,q1⟩=>?_
 refine bO (hb pins s1 σ H1 _ I1 q1) fun u s2 ⟨y,H2,I2,r2,q2⟩=>?_
 exact hf v u s2 x y H2 I2 r1 r2 q2
theorem Ln{op:Operator}{r:R2}(ho:bX X (binaryOp op) r)(ha:PE X a ta)(hb:PE X b tb):PE X (.BinOp a op b pos) (Ds r ta tb):=by
 intro pins s σ H Q I h
 exact wpAny_BinOp (ER ha hb I h fun v u s2 x y H2 I2 rx ry q=>ho pins s2 σ H2 x y v u Q I2 rx ry q)
theorem L9{op:UnaryOp}{r:V→Hp→VK→Prop}(ho:AL X (unaryOp op) r)(ha:PE X a ta):PE X (.UnaryOp op a pos) (M0 r ta):=by
 intro pins s σ H Q I h
 exact UnaryOp_ (bO (ha pins s σ H _ I h) fun v s1 ⟨x,H1,I1,r1,q1⟩=>ho pins s1 σ H1 x v Q I1 r1 q1)
theorem F6{f:Value→Value→Sem Value}{C:Int→Int→Prop}{g:Int→Int→Int}
 (rule:∀(i j:Int) (t u:Tok) (s:Shared) (Q:Value→Shared→Prop) (E:Value→Shared→Prop),C i j→Q (.int (g i j) s.toks) {s with toks:=s.toks+1}→wpAny (model X.prog X.w) X.A (f (.int i t) (.int j u)) Q E s):
 bX X f (rI C fun i j=> .int (g i j)):=by
 intro pins s σ H x y v u Q I rx ry h
 obtain⟨i,j,rfl,rfl,hc,q⟩:=h
 obtain⟨t,rfl⟩:=rx
 obtain⟨t',rfl⟩:=ry
 exact rule i j t t' s _ _ hc ⟨.int (g i j),H,I.tok _,⟨_,rfl⟩,q⟩
theorem Km{f:Value→Value→Sem Value}{g:Int→Int→Int}
 (rule:∀(i j:Int) (t u:Tok) (s:Shared) (Q:Value→Shared→Prop) (E:Value→Shared→Prop),Q (.int (g i j) s.toks) {s with toks:=s.toks+1}→wpAny (model X.prog X.w) X.A (f (.int i t) (.int j u)) Q E s):
 bX X f (ym fun i j=> .int (g i j)):=by
 intro pins s σ H x y v u Q I rx ry h
 obtain⟨i,j,rfl,rfl,q⟩:=h
 obtain⟨t,rfl⟩:=rx
 obtain⟨t',rfl⟩:=ry
 exact rule i j t t' s _ _ ⟨.int (g i j),H,I.tok _,⟨_,rfl⟩,q⟩
theorem IV{f:Value→Value→Sem Value}{g:Int→Int→Bool}
 (rule:∀(i j:Int) (t u:Tok) (s:Shared) (Q:Value→Shared→Prop) (E:Value→Shared→Prop),Q (.bool (g i j)) s→wpAny (model X.prog X.w) X.A (f (.int i t) (.int j u)) Q E s):
 bX X f (ym fun i j=> .bl (g i j)):=by
 intro pins s σ H x y v u Q I rx ry h
 obtain⟨i,j,rfl,rfl,q⟩:=h
 obtain⟨t,rfl⟩:=rx
 obtain⟨t',rfl⟩:=ry
 exact rule i j t t' s _ _ ⟨.bl (g i j),H,I,rfl,q⟩
noncomputable def E5(i j:Int):Prop:=0≤j∧j≤1000000∧i.natAbs<2^64
theorem JZ:bX X (binaryOp .Add) (ym fun i j=> .int (i+j)):=Km fun _ _ _ _ _ _ _ q=>add_int q
theorem K0:bX X (binaryOp .Sub) (ym fun i j=> .int (i-j)):=Km fun _ _ _ _ _ _ _ q=>sub_int q
theorem GX:bX X (binaryOp .Mod) (rI (fun _ j=>j≠0) fun i j=> .int (i.fmod j)):=F6 fun _ _ _ _ _ _ _ hc q=>mod_int' hc q
theorem JF:bX X (binaryOp .Pow) (rI E5 fun i j=> .int (i^j.toNat)):=F6 fun _ _ _ _ _ _ _ hc q=>pow_int_small hc.1 hc.2.1 hc.2.2 q
theorem N4{f:Value→Sem Value}{g:Int→Int}
 (rule:∀(i:Int) (t:Tok) (s:Shared) (Q:Value→Shared→Prop) (E:Value→Shared→Prop),Q (.int (g i) s.toks) {s with toks:=s.toks+1}→wpAny (model X.prog X.w) X.A (f (.int i t)) Q E s):
 AL X f (rU fun i=> .int (g i)):=by
 intro pins s σ H x v Q I rx h
 obtain⟨i,rfl,q⟩:=h
 obtain⟨t,rfl⟩:=rx
 exact rule i t s _ _ ⟨.int (g i),H,I.tok _,⟨_,rfl⟩,q⟩
theorem KI:AL X (unaryOp .USub) (rU fun i=> .int (-i)):=N4 fun _ _ _ _ _ q=>neg_int q
end
noncomputable def NN:V→V→Bool
 | .aE,.aE=>true| .aE,.int _=>true| .int _,.aE=>true| .aE,.bl _=>true| .bl _,.aE=>true| .aE,.str _=>true| .str _,.aE=>true
 | .int _,.int _=>true| .bl _,.bl _=>true| .str _,.str _=>true| .sP _,.sP _=>true
 | .int _,.str _=>true| .str _,.int _=>true| .bl _,.str _=>true| .str _,.bl _=>true
 |_,_=>false
noncomputable def Oq:R2:=fun x y H Q=>NN x y=true∧Q (.bl (!decide (x=y))) H
theorem GQ{i j:Int}:decide (V.int i=V.int j)=(i==j):=by
 rw[Bool.eq_iff_iff]
 simp
theorem IJ{i j:Bool}:decide (V.bl i=V.bl j)=(i==j):=by
 rw[Bool.eq_iff_iff]
 simp
theorem HW{i j:Str}:decide (V.str i=V.str j)=(i==j):=by
 rw[Bool.eq_iff_iff]
 simp
theorem H0{i j:Array UInt8}:decide (V.sP i=V.sP j)=(i.toList==j.toList):=by
 rw[Bool.eq_iff_iff]
 cases i
 cases j
 simp
section
variable {X:Cx}{a b c:Expr}{ta tb tc:TE}{pos:Pos}
theorem eQ{pins:List (Addr×Obj)}{σ:St}{H:Hp}{s:Shared}{Q:VK}{k k':Bool}(I:Inv X pins σ H s)(q:Q (.bl k) H)(e:k=k'):EP X pins σ Q (.bool k') s:=by
 subst e
 exact⟨.bl k,H,I,rfl,q⟩
theorem Mb:bX X (compareOp .NotEq) Oq:=by
 intro pins s σ H x y v u Q I rx ry h
 obtain⟨hs,q⟩:=h
 cases x with
 |aE=>
  cases rx
  cases y with
  |aE=>cases ry;exact PySem.EqNone.ne_none_none (eQ I q (by simp))
  |bl j=>cases ry;exact PySem.EqNone.ne_none_bool (eQ I q (by simp))
  |int j=>obtain⟨t',rfl⟩:=ry;exact PySem.EqNone.ne_none_int (eQ I q (by simp))
  |str j=>obtain⟨t',rfl⟩:=ry;exact PySem.EqNone.ne_none_str (eQ I q (by simp))
  |_=>exact absurd (show false=true from hs) Bool.false_ne_true
 |bl i=>
  cases rx
  cases y with
  |aE=>cases ry;exact PySem.EqNone.ne_bool_none (eQ I q (by simp))
  |bl j=>cases ry;exact ne_bool (eQ I q (congrArg not IJ))
  |str j=>obtain⟨t',rfl⟩:=ry;exact PySem.EqMixed.ne_bool_str (eQ I q (by simp))
  |_=>exact absurd (show false=true from hs) Bool.false_ne_true
 |int i=>
  obtain⟨t,rfl⟩:=rx
  cases y with
  |aE=>cases ry;exact PySem.EqNone.ne_int_none (eQ I q (by simp))
  |int j=>obtain⟨t',rfl⟩:=ry;exact ne_int (eQ I q (congrArg not GQ))
  |str j=>obtain⟨t',rfl⟩:=ry;exact PySem.EqMixed.ne_int_str (eQ I q (by simp))
  |_=>exact absurd (show false=true from hs) Bool.false_ne_true
 |str i=>
  obtain⟨t,rfl⟩:=rx
  cases y with
  |aE=>cases ry;exact PySem.EqNone.ne_str_none (eQ I q (by simp))
  |bl j=>cases ry;exact PySem.EqMixed.ne_str_bool (eQ I q (by simp))
  |int j=>obtain⟨t',rfl⟩:=ry;exact PySem.EqMixed.ne_str_int (eQ I q (by simp))
  |str j=>obtain⟨t',rfl⟩:=ry;exact ne_str (eQ I q (congrArg not HW))
  |_=>exact absurd (show false=true from hs) Bool.false_ne_true
 |sP i=>
  obtain⟨t,rfl⟩:=rx
  cases y with
  |sP j=>obtain⟨t',rfl⟩:=ry;exact PySem.W.ne_bytes (eQ I q (congrArg not H0))
  |_=>exact absurd (show false=true from hs) Bool.false_ne_true
 |_=>cases y<;>exact absurd (show false=true from hs) Bool.false_ne_true
theorem LY:bX X (compareOp .Lt) (ym fun i j=> .bl (decide (i<j))):=IV fun _ _ _ _ _ _ _ q=>lt_int q
theorem LD:bX X (compareOp .Gt) (ym fun i j=> .bl (decide (j<i))):=IV fun _ _ _ _ _ _ _ q=>gt_int q
theorem HY:bX X (compareOp .IsNot) (fun x y H Q=>y= .aE∧Q (.bl (!decide (x= .aE))) H):=by
 intro pins s σ H x y v u Q I rx ry h
 obtain⟨rfl,q⟩:=h
 cases ry
 refine isnot_none_gen (eQ I q ?_)
 cases x<;>first
  |(cases rx;rfl)
  |(obtain⟨t,rfl⟩:=rx;rfl)
theorem bD(b:Expr){op:CmpOp}(h:op≠ .In:=by decide)(h2:op≠ .NotIn:=by decide):behindInMarks op b=false:=by
 have e1:(op==CmpOp.In)=false:=by cases op<;>first|rfl|exact absurd rfl h
 have e2:(op==CmpOp.NotIn)=false:=by cases op<;>first|rfl|exact absurd rfl h2
 cases b<;>simp[behindInMarks,e1,e2]
theorem Ir{op:CmpOp}{r:R2}(ho:bX X (compareOp op) r)(ha:PE X a ta)(hb:PE X b tb)(hm:behindInMarks op b=false):PE X (.Compare a [op] [b] pos) (Ds r ta tb):=by
 intro pins s σ H Q I h
 exact wpAny_Compare1 (ER ha hb I h fun v u s2 x y H2 I2 rx ry q=>ho pins s2 σ H2 x y v u Q I2 rx ry q) hm
noncomputable def MB(t:TE):TT:=fun σ H Q=>t σ H fun x H'=>∃k,x= .bl k∧Q k H'
theorem GB{op:CmpOp}{r:R2}(ho:bX X (compareOp op) r)(ha:PE X a ta)(hb:PE X b tb)(hm:behindInMarks op b=false):PT X (.Compare a [op] [b] pos) (MB (Ds r ta tb)):=by
 intro pins s σ H Q I h
 refine wpAny_isTrue_Compare1 (bO (ha pins s σ H _ I h) fun v s1 ⟨x,H1,I1,r1,q1⟩=>bO (hb pins s1 σ H1 _ I1 q1) fun u s2 ⟨y,H2,I2,r2,q2⟩=>
  bO (ho pins s2 σ H2 x y v u _ I2 r1 r2 q2) fun c s3 ⟨z,H3,I3,r3,k,e,q3⟩=>?_) hm
 subst e
 cases r3
 exact wpAny_truthy_bool ⟨H3,I3,q3⟩
theorem rg:(sizeLine:Nat)<2^63:=by rw[sizeLine_eq];decide
theorem A5:bX X (binaryOp .Add) (fun x y H Q=>∃i j,x= .str i∧y= .str j∧i.length+j.length≤sizeLine∧Q (.str (i++j)) H):=by
 intro pins s σ H x y v u Q I rx ry h
 obtain⟨i,j,rfl,rfl,hz,q⟩:=h
 obtain⟨t,rfl⟩:=rx
 obtain⟨t',rfl⟩:=ry
 exact add_str (fun t' tk=>⟨.str (i++j),H,I.tok _,⟨_,rfl⟩,q⟩) hz
theorem vals1{x:V}{us:List Value}(r:Vals [x] us):∃u,us=[u]∧RelV x u:=by
 cases r with
 |cons r1 r2=>cases r2;exact⟨_,rfl,r1⟩
theorem vals2{x y:V}{us:List Value}(r:Vals [x,y] us):∃u w',us=[u,w']∧RelV x u∧RelV y w':=by
 cases r with
 |cons r1 r2=>
  cases r2 with
  |cons r3 r4=>cases r4;exact⟨_,_,rfl,r1,r3⟩
theorem E1:cx X (.builtin "abs") (fun xs H Q=>∃i,xs=[.int i]∧Q (.int (if i<0 then-i else i)) H):=by
 intro pins s σ H xs us Q I r h
 obtain⟨i,rfl,q⟩:=h
 obtain⟨u,rfl,t,rfl⟩:=vals1 r
 exact call_abs_int fun u tk=>⟨.int (if i<0 then-i else i),H,I.tok _,⟨_,rfl⟩,q⟩
end
end L2
namespace L2
open PySem PySem.Spec PyProof.Rows
structure tD(h:Heap)(x dx C:Addr)(mA:Str→Option Value):Prop where
 obj:h.get? x=some (PySem.W.instObj C dx)
 ns:h.Ns1 dx mA
 ne:dx≠x
theorem D7{h:Heap}{dx:Addr}{mA:Str→Option Value}(n:h.Ns1 dx mA):∃od,h.get? dx=some od∧∀name,PySem.W.lookIn name od=some (mA name):=by
 obtain⟨o,es,ep,ho,hd,hk,_,hm⟩:=n
 refine⟨o,ho,fun name=>?_⟩
 have e:=hm name
 unfold nsFind findBy at e
 rw[←Array.find?_toList]at e
 unfold PySem.W.lookIn
 rw[hd]
 dsimp only
 split
 · rename_i y q
   rw[q]at e
   exact congrArg some e
 · rename_i q
   rw[q]at e
   have a:es.toList.any (·.refKey)=false:=by
    rw[List.any_eq_false]
    intro y hy
    obtain⟨z,t,hkey⟩:=hk y (Array.mem_toList_iff.mp hy)
    simp[DictEntry.refKey,hkey]
   have a':¬es.toList.any (·.refKey)=true:=by rw[a];exact Bool.false_ne_true
   rw[if_neg a']
   exact congrArg some e
theorem tD.look{h:Heap}{x dx C:Addr}{mA:Str→Option Value}(I:tD h x dx C mA):∃od,PySem.W.InstAt h x (PySem.W.instObj C dx) C (some od)∧∀name,PySem.W.lookIn name od=some (mA name):=
 let⟨od,ho,hl⟩:=D7 I.ns
 ⟨od,⟨I.obj,rfl,rfl,ho⟩,hl⟩
section
variable {prog:Program}{w:World}{A:Around}{E:Value→Shared→Prop}{s:Shared}{K:PySem.W.Frag}{x dx C f:Addr}{mA:Str→Option Value}{name:Str}{v:Value}
theorem get_map{expr:Bool}{Q:Value→Shared→Prop}(X:K.In s.heap)(I:tD s.heap x dx C mA)(hg:PySem.W.plainGet K C name=true)(hh:PySem.W.hasDictIn K C=true)
 (ha:PySem.W.findIn K (.ref C) name=some none) (hv:mA name=some v) (hv':PySem.W.handedIn v=true) (h:Q v {s with toks:=s.toks+1}):
 wpAny (model prog w) A (getAttr (.ref x) name expr) Q E s:=by
 obtain⟨od,J,hl⟩:=I.look
 exact PySem.W.get_value X J (PySem.W.plainGet_of hg).1 (PySem.W.findObj_own hh ha rfl (by rw[hl,hv])) hv' h
theorem Fz{pl:Sem Bool}{Q:Value×List Value→Shared→Prop}(X:K.In s.heap)(I:tD s.heap x dx C mA)(hg:PySem.W.plainGet K C name=true)
 (hf:PySem.W.findIn K (.ref C) name=some (some (.ref f))) (ht:PySem.W.isFn K (.ref f)=true) (hv:mA name=none) (h:Q (.ref f,[.ref x]) s):
 wpAny (model prog w) A (getMethod (.ref x) name pl) Q E s:=by
 obtain⟨od,J,hl⟩:=I.look
 exact PySem.W.method_fn X J (PySem.W.plainGet_of hg).1 (PySem.W.plainGet_of hg).2 hf (beq_iff_eq.mp ht) (by show(PySem.W.lookIn name od).map (·.isSome)=some false;rw[hl,hv];rfl) h
theorem gS{ns:List Str}{Q:Unit→Shared→Prop}(X:K.In s.heap)(I:tD s.heap x dx C mA)
 (hs:PySem.W.findIn K (.ref C) "__setattr__"=some (some (.builtin "object.__setattr__"))) (hp:PySem.W.plainOver K C=true) (ht:PySem.W.takerIn K C name=some none) (hh:PySem.W.hasDictIn K C=true)
 (hw:PySem.Within mA ns) (hsz:ns.length≤sizeLine)
 (h:∀h',tD h' x dx C (fun y=>if y=name then some v else mA y)→Heap.SameBut dx s.heap h'→Q () {s with heap:=h',toks:=s.toks+2}):
 wpAny (model prog w) A (setAttr (.ref x) name v) Q E s:=by
 obtain⟨od,J,hl⟩:=I.look
 refine PySem.W.set_plain X J hs (PySem.W.osa_open (s:={s with toks:=s.toks+1}) (r:=none) X J hp ht fun b=>?_)
 obtain⟨cd,hc,hd'⟩:=PySem.W.any_some hh
 have hx:s.heap.get? x=some ⟨.ref C,some dx,.plain,#[]⟩:=I.obj
 refine wpAny_bind (wpAny_pure (wpAny_bind (wpAny_bind (wpAny_loadPart hx (wpAny_bind (PySem.W.Looks.here (s:={s with toks:=s.toks+1}) (PySem.W.looks_clsIn X hc) ?_))))))
 rw[hd']
 refine wpAny_pure (a:=some dx) (wpAny_bind (wpAny_pure (wpAny_bind ?_)))
 refine wpAny_nsSet1 (s:={s with toks:=s.toks+1}) I.ns fun h' hn2 hs2=>?_
 obtain⟨oD,esD,epD,hoD,hdD,hcD⟩:=hn2.count (PySem.Within.cons name v hw)
 refine wpAny_bind (wpAny_lookBehind hoD (by rw[hdD];exact pastItsLine_dict (Nat.le_trans hcD (by rw[List.length_cons];omega))) ?_)
 exact wpAny_pure (h _ ⟨(hs2.2 _ (Ne.symm I.ne)).trans I.obj,hn2,I.ne⟩ hs2)
theorem EC{R:Result→Shared→Prop}{vs:List Value}{kw:List (Str×Value)}(X:K.In s.heap)(hm:PySem.W.makesIn K C=true)
 (hi:PySem.W.findIn K (.ref C) "__init__"=some (some (.ref f))) (hf:PySem.W.typeIn K (.ref f)=some (.type "function"))
 (h:codeAny (model prog w) (A.under (.builtin "type.__call__" ⟨.ref C::vs,kw⟩)) (.call (.ref f) ⟨.ref (s.heap.objs.size+1)::vs,kw⟩) (PySem.W.InitBack (s.heap.objs.size+1) R)
   {s with heap:=(s.heap.push PySem.W.emptyDict).push (PySem.W.instObj C s.heap.objs.size)}):
 codeAny (model prog w) A (.call (.ref C) ⟨vs,kw⟩) R s:=by
 obtain⟨hh,g,d,t,os⟩:=s
 exact PySem.W.make_core (PySem.W.makes_of X hm) (PySem.W.looks_findIn X hi) (fun self=>PySem.W.bind_fn X self hf) (.inl rfl) h
end
noncomputable def f_(f:Str)(v:V):List (Str×V)→List (Str×V)
 | []=>[(f,v)]
 |(g,x)::r=>if g=f then(g,v)::r else(g,x)::f_ f v r
theorem sH(f g:Str)(v:V):∀fs:List (Str×V),(f_ f v fs).lookup g=if g=f then some v else fs.lookup g
 | []=>by
   show List.lookup g [(f,v)]=_
   by_cases h:g=f
   · have hb:(g==f)=true:=beq_iff_eq.mpr h
     simp only[List.lookup,hb,if_pos h]
   · have hb:(g==f)=false:=beq_eq_false_iff_ne.mpr h
     simp only[List.lookup,hb,if_neg h]
 |(k,x)::r=>by
  have ih:=sH f g v r
  rw[show f_ f v ((k,x)::r)=(if k=f then(k,v)::r else(k,x)::f_ f v r)from rfl]
  by_cases hk:k=f
  · rw[if_pos hk]
    by_cases h:g=k
    · have hb:(g==k)=true:=beq_iff_eq.mpr h
      simp only[List.lookup,hb,if_pos (h.trans hk)]
    · have hb:(g==k)=false:=beq_eq_false_iff_ne.mpr h
      simp only[List.lookup,hb,if_neg (fun e:g=f=>h (e.trans hk.symm))]
  · rw[if_neg hk]
    by_cases h:g=k
    · have hb:(g==k)=true:=beq_iff_eq.mpr h
      simp only[List.lookup,hb,if_neg (fun e:g=f=>hk (h.symm.trans e))]
    · have hb:(g==k)=false:=beq_eq_false_iff_ne.mpr h
      simp only[List.lookup,hb]
      exact ih
theorem qt(f:Str)(v:V):∀fs:List (Str×V),f∈(f_ f v fs).map (·.1)∧∀g,g∈fs.map (·.1)→g∈(f_ f v fs).map (·.1)
 | []=>⟨by simp[f_],fun g h=>by simp at h⟩
 |(k,x)::r=>by
  obtain⟨i1,i2⟩:=qt f v r
  rw[show f_ f v ((k,x)::r)=(if k=f then(k,v)::r else(k,x)::f_ f v r)from rfl]
  by_cases hk:k=f
  · rw[if_pos hk]
    subst hk
    exact⟨by simp,fun g h=>by simpa using h⟩
  · rw[if_neg hk]
    refine⟨?_,fun g h=>?_⟩
    · rw[List.map_cons]
      exact List.mem_cons_of_mem _ i1
    · rw[List.map_cons]at h⊢
      rcases List.mem_cons.mp h with e|e
      · exact List.mem_cons.mpr (.inl e)
      · exact List.mem_cons_of_mem _ (i2 g e)
theorem sZ(f:Str)(v:V):∀fs:List (Str×V),(f_ f v fs).length≤fs.length+1
 | []=>by simp[f_]
 |(k,x)::r=>by
  have ih:=sZ f v r
  rw[show f_ f v ((k,x)::r)=(if k=f then(k,v)::r else(k,x)::f_ f v r)from rfl]
  by_cases hk:k=f
  · rw[if_pos hk,List.length_cons,List.length_cons];omega
  · rw[if_neg hk,List.length_cons,List.length_cons];omega
theorem oj.some_of{v:V}{o:Option Value}(r:oj (some v) o):∃u,o=some u∧RelV v u:=by
 cases o with
 |none=>exact(show False from r).elim
 |some u=>exact⟨u,rfl,r⟩
theorem oj.none_of{o:Option Value}(r:oj none o):o=none:=by
 cases o with
 |none=>rfl
 |some u=>exact(show False from r).elim
theorem DX{v:V}{u:Value}(r:RelV v u):PySem.W.handedIn u=true:=by
 cases v with
 |aE=>cases (show u=Value.none from r);rfl
 |bl b=>cases (show u=Value.bool b from r);rfl
 |int i=>obtain⟨t,e⟩:=(show∃t,u=Value.int i t from r);cases e;rfl
 |str x=>obtain⟨t,e⟩:=(show∃t,u=Value.str x t from r);cases e;rfl
 |sP b=>obtain⟨t,e⟩:=(show∃t,u=Value.bytes b t from r);cases e;rfl
 |sV b=>obtain⟨t,e⟩:=(show∃t,u=Value.float b t from r);cases e;rfl
 |ref a=>cases (show u=Value.ref a from r);rfl
 |ty n=>cases (show u=Value.type n from r);rfl
section
variable {P:Program}{w:World}{H H':Hp}{h h':Heap}{a C dx:Addr}{fs fs':List (Str×V)}
theorem oN(aL:gF P w H h)(e:H a=some (.ins C dx fs)):∃mA,tD h a dx C mA∧(∀f,oj (fs.lookup f) (mA f))∧PySem.Within mA (fs.map (·.1))∧fs.length≤1000∧H dx=some (.own a):=by
 obtain⟨d,z,ne,ob,mA,n,r,q⟩:=(show dc P w H h a (.ins C dx fs)from aL a _ e)
 exact⟨mA,⟨ob,n,ne⟩,r,q,z,d⟩
end
structure nz(K:PySem.W.Frag)(C:Addr):Prop where
 pg:PySem.W.plainGet K C Str.empty=true
 hd:PySem.W.hasDictIn K C=true
 po:PySem.W.plainOver K C=true
 sa:PySem.W.findIn K (.ref C) "__setattr__"=some (some (.builtin "object.__setattr__"))
theorem nz.get{K:PySem.W.Frag}{C:Addr}(c:nz K C)(f:Str):PySem.W.plainGet K C f=true:=c.pg
noncomputable def fD(K:PySem.W.Frag)(C:Addr)(f:Str):Prop:=PySem.W.findIn K (.ref C) f=some none
theorem fD.Mp{K:PySem.W.Frag}{C:Addr}{f:Str}(n:fD K C f):PySem.W.takerIn K C f=some none:=by
 unfold PySem.W.takerIn
 rw[show PySem.W.findIn K (.ref C) f=some none from n]
 rfl
structure Meth(K:PySem.W.Frag)(C:Addr)(m:Str)(f:Addr):Prop where
 at_:PySem.W.findIn K (.ref C) m=some (some (.ref f))
 fn:PySem.W.isFn K (.ref f)=true
 kp:PySem.W.keepIn K (.ref f)=true
section
variable {X:Cx}{pins:List (Addr×Obj)}{σ:St}{H:Hp}{s:Shared}{a C dx:Addr}{fs:List (Str×V)}{f:Str}{v:V}{A:Around}{E:Value→Shared→Prop}
theorem Ba{b:Bool}{Q:Value→Shared→Prop}(I:Inv X pins σ H s)(e:H a=some (.ins C dx fs))(c:nz X.K C)(n:fD X.K C f)(l:fs.lookup f=some v)
 (h:∀u s',Inv X pins σ H s'→RelV v u→Q u s'):wpAny (model X.prog X.w) A (getAttr (.ref a) f b) Q E s:=by
 obtain⟨mA,O,r,_,_,_⟩:=oN I.aL e
 obtain⟨u,hu,ru⟩:=oj.some_of (v:=v) (o:=mA f) (by rw[←l];exact r f)
 exact get_map I.gm O (c.get f) c.hd n hu (DX ru) (h u _ (I.tok _) ru)
theorem B_{m:Str}{g:Addr}{pl:Sem Bool}{Q:Value×List Value→Shared→Prop}(I:Inv X pins σ H s)(e:H a=some (.ins C dx fs))(c:nz X.K C)(k:Meth X.K C m g)(l:fs.lookup m=none)
 (h:Q (.ref g,[.ref a]) s):wpAny (model X.prog X.w) A (getMethod (.ref a) m pl) Q E s:=by
 obtain⟨mA,O,r,_,_,_⟩:=oN I.aL e
 have hn:mA m=none:=oj.none_of (by rw[←l];exact r m)
 exact Fz I.gm O (c.get m) k.at_ k.fn hn h
theorem BM{y:V}{u:Value}{Q:Unit→Shared→Prop}(I:Inv X pins σ H s)(e:H a=some (.ins C dx fs))(c:nz X.K C)(n:fD X.K C f)(hl:fs.length<1000)(ry:RelV y u)
 (h:∀s',Inv X pins σ (upd H a (.ins C dx (f_ f y fs))) s'→Q () s'):wpAny (model X.prog X.w) A (setAttr (.ref a) f u) Q E s:=by
 obtain⟨mA,O,r,wi,_,ho⟩:=oN I.aL e
 have hz:(fs.map (·.1)).length≤sizeLine:=by rw[List.length_map,sizeLine_eq];omega
 refine gS I.gm O c.sa c.po n.Mp c.hd wi hz fun h' O' sb=>h _ ?_
 have hd:∃o,h'.get? dx=some o:=let⟨o,_,_,e',_⟩:=O'.ns;⟨o,e'⟩
 refine I.write (x:=a) (e:=dx) (by rw[e];exact True.intro) (.inr ho) (fun b q hb z=>(sb.2 b hb).trans z) hd ?_
 refine⟨by rw[ax O.ne];exact ho,?_,O.ne,O'.obj,_,O'.ns,fun g=>?_,fun g hg=>?_⟩
 · have:=sZ f y fs;omega
 · show oj ((f_ f y fs).lookup g) (if g=f then some u else mA g)
   rw[sH]
   by_cases q:g=f
   · rw[if_pos q,if_pos q];exact ry
   · rw[if_neg q,if_neg q];exact r g
 · by_cases q:g=f
   · rw[q];exact(qt f y fs).1
   · refine(qt f y fs).2 g (wi g fun z=>hg ?_)
     show(if g=f then some u else mA g)=none
     rw[if_neg q];exact z
theorem Inv.made(I:Inv X pins σ H s):Inv X pins σ (upd (upd H s.heap.objs.size (.own (s.heap.objs.size+1))) (s.heap.objs.size+1) (.ins C s.heap.objs.size []))
 {s with heap:=(s.heap.push PySem.W.emptyDict).push (PySem.W.instObj C s.heap.objs.size)}:=by
 have e1:(s.heap.push PySem.W.emptyDict).get? s.heap.objs.size=some PySem.W.emptyDict:=Heap.get?_push_size s.heap rfl
 have e2:((s.heap.push PySem.W.emptyDict).push (PySem.W.instObj C s.heap.objs.size)).get? (s.heap.objs.size+1)=some (PySem.W.instObj C s.heap.objs.size):=by
  have:=Heap.get?_push_size (s.heap.push PySem.W.emptyDict) (o:=PySem.W.instObj C s.heap.objs.size) rfl
  rwa [Heap.size_push]at this
 have e3:(s.heap.push PySem.W.emptyDict).Ns s.heap.objs.size (fun _=>none):=⟨PySem.W.emptyDict,#[],_,e1,rfl,(fun e he=>absurd he (by simp)),fun _=>rfl⟩
 have I1:=I.laid (a:=s.heap.objs.size) (o:= .own (s.heap.objs.size+1)) (h':=s.heap.push PySem.W.emptyDict) (t':=s.toks) (fun b u q=>Heap.get?_push_of_some _ q) (Nat.le_refl _) ⟨_,e1⟩
 refine I1.laid (a:=s.heap.objs.size+1) (o:= .ins C s.heap.objs.size []) (t':=s.toks) (fun b u q=>Heap.get?_push_of_some _ q) (Nat.le_of_eq (Heap.size_push _ _)) ?_
 have ne:s.heap.objs.size≠s.heap.objs.size+1:=Nat.ne_of_lt (Nat.lt_succ_self _)
 refine⟨by rw[ax ne,a5],Nat.zero_le _,ne,e2,fun _=>none,(Heap.Ns1.of_empty e3).at fun o q=>Heap.get?_push_of_some _ q,fun _=>True.intro,fun y hy=>absurd rfl hy⟩
theorem HU{prog:Program}{w:World}{env:Env}{e:Expr}{f:Str}{pos:Pos}{s:Shared}{Q:Value→Shared→Prop}(hb:attributeBase e f env (eval e env)=eval e env)
 (h:wpAny (model prog w) A (eval e env) (fun o s₁=>wpAny (model prog w) A (getAttr o f true) Q E s₁) E s):wpAny (model prog w) A (eval (.Attribute e f pos) env) Q E s:=
 Attribute_any_ h (by rw[arm_eval_Attribute,hb])
end
noncomputable def Nt(K:PySem.W.Frag)(ta:TE)(f:Str):TE:=fun σ H Q=>ta σ H fun x H1=>∃a C dx fs v,x= .ref a∧H1 a=some (.ins C dx fs)∧nz K C∧fD K C f∧fs.lookup f=some v∧Q v H1
noncomputable def Nx(K:PySem.W.Frag)(ta tv:TE)(f:Str):TS:=fun D σ H=>tv σ H fun y H1=>ta σ H1 fun x H2=>∃a C dx fs,x= .ref a∧H2 a=some (.ins C dx fs)∧nz K C∧fD K C f∧fs.length<1000∧
 D.nx σ (upd H2 a (.ins C dx (f_ f y fs)))
section
variable {X:Cx}{o e value:Expr}{f:Str}{pos pos' tpos:Pos}{ta tv:TE}
theorem Jc(he:PE X e ta)(hb:attributeBase e f X.env (eval e X.env)=eval e X.env):PE X (.Attribute e f pos) (Nt X.K ta f):=by
 intro pins s σ H Q I h
 refine HU hb (bO (he pins s σ H _ I h) fun u s1 ⟨x,H1,I1,rx,a,C,dx,fs,v,ex,ea,c,n,l,q⟩=>?_)
 subst ex
 obtain rfl:u=Value.ref a:=rx
 exact Ba I1 ea c n l fun u' s2 I2 ru=>⟨v,H1,I2,ru,q⟩
theorem KW(ha:PE X o ta)(hv:PE X value tv)(hs:swapsWith value (some (.Attribute o f pos')) pos.line X.env=pure false):PS X (.Assign [.Attribute o f pos'] value pos) (Nx X.K ta tv f):=by
 intro pins s σ H D I h
 refine plainObj_wpAny_Assign_Attribute (bO (hv pins s σ H _ I h) fun u s1 ⟨y,H1,I1,ry,q⟩=>bO (ha pins s1 σ H1 _ I1 q) fun ov s2 ⟨x,H2,I2,rx,a,C,dx,fs,ex,ea,c,n,l,q2⟩=>?_) hs
 subst ex
 obtain rfl:ov=Value.ref a:=rx
 exact BM I2 ea c n l ry fun s3 I3=>⟨σ,_,I3,q2⟩
end
section
variable {X:Cx}{pins:List (Addr×Obj)}{σ:St}{H:Hp}{s:Shared}{A:Around}{E:Value→Shared→Prop}{Q:Value→Shared→Prop}{c:Value}{b:Bool}
inductive iS(K:PySem.W.Frag)(H:Hp):V→Value→Prop where
 |aE:iS K H .aE (.type "NoneType")
 |bl (x:Bool):iS K H (.bl x) (.type "bool")
 |int (i:Int):iS K H (.int i) (.type "int")
 |str (x:Str):iS K H (.str x) (.type "str")
 |sV (x:UInt64):iS K H (.sV x) (.type "float")
 |lst {a:Addr} {xs:List V} (e:H a=some (.lst xs)):iS K H (.ref a) (.type "list")
 |fN {a:Addr} {o:Obj} {xs:List V} (e:H a=some (.fN o (.lst xs))):iS K H (.ref a) (.type "list")
 |tup {a:Addr} {xs:List V} (e:H a=some (.tup xs)):iS K H (.ref a) (.type "tuple")
 |dK {a:Addr} {kvs:List (Key×V)} (e:H a=some (.dK kvs)):iS K H (.ref a) (.type "dict")
 |dT {a:Addr} {kvs:List (List Key×V)} (e:H a=some (.dT kvs)):iS K H (.ref a) (.type "dict")
 |ins {a C dx:Addr} {fs:List (Str×V)} (e:H a=some (.ins C dx fs)) (cl:nz K C) (ha:PySem.W.findIn K (.ref C) "__class__"=some (some (.builtin "object.__class__")))
   (hn:PySem.W.specialIn K (.builtin "object.__class__") "__get__"=some (some (.builtin "getset_descriptor.__get__"))) (htk:PySem.W.takesIn K (.builtin "object.__class__")=some true)
   (hm:PySem.W.mroIn K C (.type "object")=some true):iS K H (.ref a) (.ref C)
theorem D0{x:V}{u t:Value}(I:Inv X pins σ H s)(rx:RelV x u)(ty:iS X.K H x t)(e:PySem.W.kitOne X.K t c=some b)(h:∀tk,Q (.bool b) {s with toks:=tk}):
 wpAny (model X.prog X.w) A (call (.builtin "isinstance") [u,c]) Q E s:=by
 cases ty with
 |aE=>cases (show u=Value.none from rx);exact PySem.W.kia_one PySem.W.kitx_none I.gm True.intro e (fun z=>nomatch z) h
 |bl y=>cases (show u=Value.bool y from rx);exact PySem.W.kia_one PySem.W.kitx_bool I.gm True.intro e (fun z=>nomatch z) h
 |int i=>obtain⟨t,q⟩:=(show∃t,u=Value.int i t from rx);cases q;exact PySem.W.kia_one PySem.W.kitx_int I.gm True.intro e (fun z=>nomatch z) h
 |str y=>obtain⟨t,q⟩:=(show∃t,u=Value.str y t from rx);cases q;exact PySem.W.kia_one PySem.W.kitx_str I.gm True.intro e (fun z=>nomatch z) h
 |sV y=>obtain⟨t,q⟩:=(show∃t,u=Value.float y t from rx);cases q;exact PySem.W.kia_one PySem.W.kitx_float I.gm True.intro e (fun z=>nomatch z) h
 | @lst a xs ea=>
   cases (show u=Value.ref a from rx)
   obtain⟨_,_,n,_,h1⟩:=(show dc X.prog X.w H s.heap a (.lst xs)from I.aL a _ ea)
   exact PySem.W.kia_one PySem.W.kitx_list I.gm ⟨_,h1,rfl⟩ e (fun z=>nomatch z) h
 | @fN a ob xs ea=>
   cases (show u=Value.ref a from rx)
   obtain⟨_,_,_,n,_,h1⟩:=(show dc X.prog X.w H s.heap a (.fN ob (.lst xs))from I.aL a _ ea)
   exact PySem.W.kia_one PySem.W.kitx_list I.gm ⟨_,h1,rfl⟩ e (fun z=>nomatch z) h
 | @tup a xs ea=>
   cases (show u=Value.ref a from rx)
   obtain⟨_,_,_,p⟩:=(show dc X.prog X.w H s.heap a (.tup xs)from I.aL a _ ea)
   obtain⟨o,h1,h2,_⟩:=p
   exact PySem.W.kia_one PySem.W.kitx_tuple I.gm ⟨o,h1,h2⟩ e (fun z=>nomatch z) h
 | @dK a kvs ea=>
   cases (show u=Value.ref a from rx)
   obtain⟨_,_,vs,_,p⟩:=(show dc X.prog X.w H s.heap a (.dK kvs)from I.aL a _ ea)
   obtain⟨o,es,ep,h1,h2,_⟩:=p
   exact PySem.W.kia_one PySem.W.kitx_dict I.gm ⟨o,h1,h2.1⟩ e (fun z=>nomatch z) h
 | @dT a kvs ea=>
   cases (show u=Value.ref a from rx)
   obtain⟨_,_,xs,_,o,es,ep,h1,h2,_⟩:=(show dc X.prog X.w H s.heap a (.dT kvs)from I.aL a _ ea)
   exact PySem.W.kia_one PySem.W.kitx_dict I.gm ⟨o,h1,h2.1⟩ e (fun z=>nomatch z) h
 | @ins a C dx fs ea cl ha hn htk hm=>
   cases (show u=Value.ref a from rx)
   obtain⟨mA,O,_⟩:=oN I.aL ea
   obtain⟨od,J,_⟩:=O.look
   exact PySem.W.kia_one (PySem.W.kitx_own (cl.get _) cl.hd ha hn htk hm) I.gm J e (fun z=>nomatch z) h
end
end L2
namespace L2
open PySem PySem.Spec PyProof.Rows
structure cJ(k:Nat)(A:Around):Prop where
 hd:A.handled=none
 dp:A.depth+3*k+105<recursionLimit
 un:A.units+16*k+200<cLine
theorem cJ.mono{j k:Nat}{A:Around}(r:cJ k A)(h:j≤k):cJ j A:=⟨r.hd,by have:=r.dp;omega,by have:=r.un;omega⟩
theorem cJ.deeper{k:Nat}{A:Around}(r:cJ (k+1) A)(env:Env):cJ k (A.deeper env):=
 ⟨r.hd,by have:=r.dp;show A.depth+1+3*k+105<_;omega,by have:=r.un;show A.units+3+16*k+200<_;omega⟩
theorem Bv{A:Around}{C:Addr}{us:List Value}{kw:List (Str×Value)}:(A.under (.builtin "type.__call__" ⟨.ref C::us,kw⟩)).depth=A.depth+1:=by
 first|rfl|simp[Around.under,Code.weight,Code.isCreation,Code.isGuard,Code.isCaller,Code.frames,Code.isFrame,guardIds]
theorem BJ{A:Around}{C:Addr}{us:List Value}{kw:List (Str×Value)}:(A.under (.builtin "type.__call__" ⟨.ref C::us,kw⟩)).units=A.units+1:=by
 first|rfl|simp[Around.under,Code.cUnits,Code.frames,Code.isFrame]
theorem cJ.make{k:Nat}{A:Around}(r:cJ (k+1) A)(C:Addr)(us:List Value)(kw:List (Str×Value)):cJ k (A.under (.builtin "type.__call__" ⟨.ref C::us,kw⟩)):=
 ⟨r.hd,by have:=r.dp;rw[Bv];omega,by have:=r.un;rw[BJ];omega⟩
theorem cJ.depth{k:Nat}{A:Around}(r:cJ k A):A.depth<recursionLimit:=by have:=r.dp;omega
theorem cJ.units{k:Nat}{A:Around}(r:cJ k A):A.units+64<cLine:=by have:=r.un;omega
noncomputable def Ny:TA:=fun _ H Q=>Q [] H
noncomputable def Lp(ta:TE)(tr:TA):TA:=fun σ H Q=>ta σ H fun x H1=>tr σ H1 fun xs H2=>Q (x::xs) H2
section
variable {X:Cx}{e:Expr}{es:List Expr}{te:TE}{t:TA}{pos:Pos}
theorem Ka:PA X [] Ny:=fun _ _ _ _ H Q I h=>Calls.spliced_nil ⟨[],H,I,.nil,h⟩
theorem G8(ha:PE X e te)(hr:PA X es t)(hs:starEach (e::es) X.env=(false,eval e X.env)::starEach es X.env:=by rfl):PA X (e::es) (Lp te t):=by
 intro pos pins s σ H Q I h
 rw[hs]
 show wpAny _ _ (spliced ((false,eval e X.env)::backTo pos (starEach es X.env))) _ _ s
 refine Calls.spliced_cons (bO (ha pins s σ H _ I h) fun u s1 ⟨x,H1,I1,r1,q1⟩=>?_)
 exact bO (hr pos pins s1 σ H1 _ I1 q1) fun us s2 ⟨xs,H2,I2,r2,q2⟩=>⟨x::xs,H2,I2,.cons r1 r2,q2⟩
noncomputable def NB(t:TA):TE:=fun σ H Q=>t σ H fun xs H1=>xs.length≤sizeLine∧∀p,H1 p=none→Q (.ref p) (upd H1 p (.tup xs))
noncomputable def NW(t:TA):TE:=fun σ H Q=>t σ H fun xs H1=>xs.length≤sizeLine∧∀p,H1 p=none→Q (.ref p) (upd H1 p (.lst xs))
theorem IU{x1}(h:PA X es t):PE X (.Tuple es x1 pos) (NB t):=by
 intro pins s σ H Q I hq
 refine wpAny_Tuple_spliced (bO (h pos pins s σ H _ I hq) fun us s1 ⟨xs,H1,I1,r,z,q⟩=>⟨by rw[←r.length];exact z,?_⟩)
 have hf:H1 s1.heap.objs.size=none:=I1.aL.fresh (Nat.le_refl _)
 refine⟨.ref s1.heap.objs.size,upd H1 s1.heap.objs.size (.tup xs),I1.laid (t':=s1.toks) (fun b u e=>Heap.get?_push_of_some _ e) (Nat.le_refl _) ?_,rfl,q _ hf⟩
 exact⟨z,us,r,⟨_,Heap.get?_push_size _ rfl,rfl,_,rfl⟩⟩
theorem Dy(h:PA X es t):PE X (.List es pos) (NW t):=by
 intro pins s σ H Q I hq
 refine wpAny_List_spliced (bO (h pos pins s σ H _ I hq) fun us s1 ⟨xs,H1,I1,r,z,q⟩=>⟨by rw[←r.length];exact z,?_⟩)
 have hf:H1 s1.heap.objs.size=none:=I1.aL.fresh (Nat.le_refl _)
 refine⟨.ref s1.heap.objs.size,upd H1 s1.heap.objs.size (.lst xs),I1.laid (t':=s1.toks) (fun b u e=>Heap.get?_push_of_some _ e) (Nat.le_refl _) ?_,rfl,q _ hf⟩
 exact⟨z,us,0,r,Heap.get?_push_size _ rfl⟩
end
noncomputable abbrev Sp:=List V→Hp→VK→XK→Prop
noncomputable abbrev sR:=List Env→Hp→Shared→XK→Value→Shared→Prop
structure tE(P:Program)(w:World)(K:PySem.W.Frag)(mg:Str→Option Value)(base:Heap)(A:Around)(outer:List Env)(s:Shared)(H:Hp):Prop where
 frames:A.frames=some outer
 mod:Mod K mg base
 bs:∀b o,base.get? b=some o→s.heap.get? b=some o∧H b=none
 qu:base.objs.size≤s.heap.objs.size
 jU:s.heap.FunFrames base outer
 vc:∀b∈o7 outer,H b=none
 aL:gF P w H s.heap
 bare:AllBare s.gens
 gt:P.given.tree=none
noncomputable def CE(outer:List Env)(P:Program)(w:World)(H:Hp)(s:Shared)(Q:VK)(u:Value)(s':Shared):Prop:=
 ∃v H',s'.os=s.os∧AllBare s'.gens∧Un (o7 outer) [] H H' s.heap s'.heap∧gF P w H' s'.heap∧RelV v u∧Q v H'
noncomputable def CR(CX:sR)(outer:List Env)(P:Program)(w:World)(H:Hp)(s:Shared)(Q:VK)(E:XK)(r:Result)(s':Shared):Prop:=
 match r with
 | .ok (.ret u)=>CE outer P w H s Q u s'
 | .ok _=>False
 | .error e=>CX outer H s E e s'
structure a8(P:Program)(w:World)(K:PySem.W.Frag)(mg:Str→Option Value)(base:Heap)(CX:sR)(k:Nat)(f:Addr)(fd:FuncData)(ps:List Str)(sp:Sp):Prop where
 len:∀vs H Q E,sp vs H Q E→vs.length=ps.length
 run:∀(A:Around) (outer:List Env) (s:Shared) (H:Hp) (args:Args) (us:List Value) (vs:List V) (Q:VK) (E:XK),cJ k A→tE P w K mg base A outer s H→BindsTo s fd args (ps.zip us)→Vals vs us→sp vs H Q E→
  codeAny (model P w) A (.call (.ref f) args) (CR CX outer P w H s Q E) s
theorem a8.imp{P:Program}{w:World}{K:PySem.W.Frag}{mg:Str→Option Value}{base:Heap}{CX:sR}{k:Nat}{f:Addr}{fd:FuncData}{ps:List Str}{sp sp':Sp}(F:a8 P w K mg base CX k f fd ps sp)
 (h:∀vs H Q E,sp' vs H Q E→sp vs H Q E):a8 P w K mg base CX k f fd ps sp':=
 ⟨fun vs H Q E q=>F.len vs H Q E (h _ _ _ _ q),fun A outer s H args us vs Q E hr he hb hv hs=>F.run A outer s H args us vs Q E hr he hb hv (h _ _ _ _ hs)⟩
theorem tE.make{P:Program}{w:World}{K:PySem.W.Frag}{mg:Str→Option Value}{base:Heap}{A:Around}{outer:List Env}{s:Shared}{H:Hp}(e:tE P w K mg base A outer s H)(C:Addr)(us:List Value)(kw:List (Str×Value)):
 tE P w K mg base (A.under (.builtin "type.__call__" ⟨.ref C::us,kw⟩)) outer s H:=⟨by first|exact e.frames|(simpa[Around.under,Code.envs,Code.isFrame,pushEnvs]using e.frames),e.mod,e.bs,e.qu,e.jU,e.vc,e.aL,e.bare,e.gt⟩
section
variable {X:Cx}{pins:List (Addr×Obj)}{σ:St}{H:Hp}{s s':Shared}
theorem Inv.Kt(I:Inv X pins σ H s):tE X.prog X.w X.K X.mg X.base X.A X.stack s H:=
 ⟨I.ok.frames,I.ok.mod,I.bs,Nat.le_trans I.ok.qu I.sz,I.stack,I.wa,I.aL,I.bare,I.ok.gt⟩
theorem Inv.after{Q:VK}{u:Value}(I:Inv X pins σ H s)(h:CE X.stack X.prog X.w H s Q u s'):EP X pins σ Q u s':=by
 obtain⟨v,H',os,bare,un,aL,r,q⟩:=h
 obtain⟨hh,g,d,t,os'⟩:=s'
 obtain rfl:os'=s.os:=os
 exact⟨v,H',I.call (h':=hh) (g':=g) (d':=d) (t':=t) (ch:=[]) un aL bare (fun b z=>absurd z (by simp)),r,q⟩
end
noncomputable def FW(sp:Sp)(dvs:List V)(E:XK)(t:TA):TE:=fun σ H Q=>t σ H fun vs H1=>sp (vs++dvs) H1 Q E
noncomputable def Ga(C:Addr)(m:Str)(sp:Sp)(dvs:List V)(E:XK)(ta:TE)(t:TA):TE:=fun σ H Q=>ta σ H fun x H1=>∃a dx fs,x= .ref a∧H1 a=some (.ins C dx fs)∧fs.lookup m=none∧
 t σ H1 fun vs H2=>sp (x::(vs++dvs)) H2 Q E
noncomputable def F1(C:Addr)(sp:Sp)(dvs:List V)(E:XK)(t:TA):TE:=fun σ H Q=>t σ H fun vs H1=>∀x dx,H1 x=none→H1 dx=none→dx≠x→
 sp (.ref x::(vs++dvs)) (upd (upd H1 dx (.own x)) x (.ins C dx [])) (fun v H2=>v= .aE∧Q (.ref x) H2) E
noncomputable def Binds(K:PySem.W.Frag)(fd:FuncData)(ps:List Str)(ds:List Value):Prop:=
 ∀(s:Shared) (us:List Value),K.In s.heap→(us++ds).length=ps.length→BindsTo s fd ⟨us,[]⟩ (ps.zip (us++ds))
theorem Binds.all{K:PySem.W.Frag}{fd:FuncData}{ps:List Str}(h:∀us:List Value,us.length=ps.length→bindArgs fd ⟨us,[]⟩=pure (ps.zip us)):Binds K fd ps []:=fun s us _ hl=>by
 rw[List.append_nil]at hl⊢
 exact .of_eq (h us hl)
noncomputable def Passes(CX:sR)(X:Cx)(E:XK):Prop:=∀(pins:List (Addr×Obj)) (σ:St) (H:Hp) (s:Shared) (e:Value) (s':Shared),Inv X pins σ H s→CX X.stack H s E e s'→X.xe e s'
section
variable {X:Cx}{CX:sR}{k:Nat}{f C:Addr}{fd:FuncData}{ps:List Str}{sp:Sp}{dvs:List V}{ds:List Value}{E:XK}{x m:Str}{p pos apos:Pos}{e o:Expr}{es:List Expr}{ta:TE}{t:TA}
theorem Ct{pins:List (Addr×Obj)}{σ:St}{H:Hp}{s:Shared}{Q:VK}{us:List Value}{vs:List V}(F:a8 X.prog X.w X.K X.mg X.base CX k f fd ps sp)(hr:cJ k X.A)(hb:Binds X.K fd ps ds)(hd:Vals dvs ds)(hx:Passes CX X E)
 (I:Inv X pins σ H s) (r:Vals vs us) (h:sp (vs++dvs) H Q E):wpAny (model X.prog X.w) X.A (call (.ref f) us) (EP X pins σ Q) X.xe s:=by
 have r2:Vals (vs++dvs) (us++ds):=r.append hd
 have hl:(us++ds).length=ps.length:=by rw[←r2.length];exact F.len _ _ _ _ h
 refine wpAny_call (codeAny_mono (F.run X.A X.stack s H ⟨us,[]⟩ (us++ds) (vs++dvs) Q E hr I.Kt (hb s us I.gm hl) r2 h) fun r s' hq=>?_)
 cases r with
 |error e=>exact hx pins σ H s e s' I hq
 |ok fl=>
  cases fl with
  |ret u=>exact I.after hq
  |next=>exact False.elim hq
  |brk=>exact False.elim hq
  |cont=>exact False.elim hq
theorem Hy(F:a8 X.prog X.w X.K X.mg X.base CX k f fd ps sp)(hr:cJ k X.A)(hg:Gl X x)(hm:X.mg x=some (.ref f))(hk:PySem.W.keepIn X.K (.ref f)=true)(hb:Binds X.K fd ps ds)(hd:Vals dvs ds)(hx:Passes CX X E)
 (ha:PA X (e::es) t) (hdb:(x==("__debug__":Str))=false:=by decide) (he:starEach (e::es) X.env=(false,eval e X.env)::starEach es X.env:=by rfl) (hpl:(backTo pos (starEach es X.env)).any (·.1)=false:=by rfl):
 PE X (.Call (.Name x p) (e::es) [] pos) (FW sp dvs E t):=by
 intro pins s σ H Q I h
 refine wpAny_Call_Name_kw (AF I hg hm ?_ hdb)
 refine PySem.W.callWith_K (h₀:=X.base) I.ok.mod.Eb hk (bO (ha pos pins s σ H _ I h) fun us s1 ⟨vs,H1,I1,r,q⟩=>⟨I1.gm,?_⟩) he hpl
 exact Ct F hr hb hd hx I1 r q
theorem Hw{pl:Sem Bool}(he:PE X o ta)(c:nz X.K C)(hm:Meth X.K C m f)(F:a8 X.prog X.w X.K X.mg X.base CX k f fd ps sp)(hr:cJ k X.A)(hb:Binds X.K fd ps ds)(hd:Vals dvs ds)(hx:Passes CX X E)(ha:PA X (e::es) t)
 (hst:starEach (e::es) X.env=(false,eval e X.env)::starEach es X.env:=by rfl) (hpl:(backTo pos (starEach es X.env)).any (·.1)=false:=by rfl)
 (ht:eval (.Call (.Attribute o m apos) (e::es) [] pos) X.env=(do
   let ov ←eval o X.env
   standAt apos.atName
   let(f,first) ←holding [ov] (getMethod ov m pl)
   callWith pos f first (backTo pos (starEach (e::es) X.env)) (backToKw pos (keywordEach [] X.env))):=by rfl):
 PE X (.Call (.Attribute o m apos) (e::es) [] pos) (Ga C m sp dvs E ta t):=by
 intro pins s σ H Q I h
 refine PySem.W.methodCall_KW (pl:=pl) (bO (he pins s σ H _ I h) fun u s1 ⟨x,H1,I1,rx,a,dx,fs,ex,ea,l,q⟩=>?_) ht
 subst ex
 obtain rfl:u=Value.ref a:=rx
 refine B_ I1 ea c hm l ?_
 refine PySem.W.callWith_K (first:=[.ref a]) (h₀:=X.base) I.ok.mod.Eb hm.kp (bO (ha pos pins s1 σ H1 _ I1 q) fun us s2 ⟨vs,H2,I2,r,q2⟩=>⟨I2.gm,?_⟩) hst hpl
 exact Ct (us:= .ref a::us) (vs:= .ref a::vs) F hr hb hd hx I2 (.cons rfl r) q2
structure Mk(K:PySem.W.Frag)(C f:Addr):Prop where
 makes:PySem.W.makesIn K C=true
 init:PySem.W.findIn K (.ref C) "__init__"=some (some (.ref f))
 fn:PySem.W.isFn K (.ref f)=true
 kp:PySem.W.keepIn K (.ref C)=true
theorem EJ{pins:List (Addr×Obj)}{σ:St}{H:Hp}{s:Shared}{Q:VK}{us:List Value}{vs:List V}(M:Mk X.K C f)(F:a8 X.prog X.w X.K X.mg X.base CX k f fd ps sp)(hr:cJ (k+1) X.A)(hb:Binds X.K fd ps ds)(hd:Vals dvs ds)
 (hx:Passes CX X E) (I:Inv X pins σ H s) (r:Vals vs us)
 (h:∀x dx,H x=none→H dx=none→dx≠x→sp (.ref x::(vs++dvs)) (upd (upd H dx (.own x)) x (.ins C dx [])) (fun v H2=>v= .aE∧Q (.ref x) H2) E):
 wpAny (model X.prog X.w) X.A (call (.ref C) us) (EP X pins σ Q) X.xe s:=by
 have hq:=h (s.heap.objs.size+1) s.heap.objs.size (I.aL.fresh (Nat.le_succ _)) (I.aL.fresh (Nat.le_refl _)) (Nat.ne_of_lt (Nat.lt_succ_self _))
 have I2:=Inv.made (C:=C) I
 have r2:Vals (V.ref (s.heap.objs.size+1)::(vs++dvs)) (Value.ref (s.heap.objs.size+1)::(us++ds)):= .cons rfl (r.append hd)
 have hl:(Value.ref (s.heap.objs.size+1)::us++ds).length=ps.length:=by
  have e:=r2.length
  rw[F.len _ _ _ _ hq]at e
  exact e.symm
 refine wpAny_call (EC (f:=f) I.gm M.makes M.init (beq_iff_eq.mp M.fn) (codeAny_mono (F.run _ X.stack _ _ ⟨Value.ref (s.heap.objs.size+1)::us,[]⟩ (Value.ref (s.heap.objs.size+1)::(us++ds)) _ _ E (hr.make C us [])
  (I2.Kt.make C us []) (hb _ (Value.ref (s.heap.objs.size+1)::us) I2.gm hl) r2 hq) fun r s' hq'=>?_))
 cases r with
 |error e=>exact hx pins σ _ _ e s' I2 hq'
 |ok fl=>
  cases fl with
  |ret u=>
   obtain⟨v,H',I3,rv,ev,q3⟩:=I2.after hq'
   subst ev
   exact⟨rv,⟨V.ref (s.heap.objs.size+1),H',I3,rfl,q3⟩⟩
  |next=>exact False.elim hq'
  |brk=>exact False.elim hq'
  |cont=>exact False.elim hq'
theorem GY(M:Mk X.K C f)(F:a8 X.prog X.w X.K X.mg X.base CX k f fd ps sp)(hr:cJ (k+1) X.A)(hg:Gl X x)(hm:X.mg x=some (.ref C))(hb:Binds X.K fd ps ds)(hd:Vals dvs ds)(hx:Passes CX X E)
 (ha:PA X (e::es) t) (hdb:(x==("__debug__":Str))=false:=by decide) (he:starEach (e::es) X.env=(false,eval e X.env)::starEach es X.env:=by rfl) (hpl:(backTo pos (starEach es X.env)).any (·.1)=false:=by rfl):
 PE X (.Call (.Name x p) (e::es) [] pos) (F1 C sp dvs E t):=by
 intro pins s σ H Q I h
 refine wpAny_Call_Name_kw (AF I hg hm ?_ hdb)
 refine PySem.W.callWith_K (h₀:=X.base) I.ok.mod.Eb M.kp (bO (ha pos pins s σ H _ I h) fun us s1 ⟨vs,H1,I1,r,q⟩=>⟨I1.gm,?_⟩) he hpl
 exact EJ M F hr hb hd hx I1 r q
end
section
variable {X:Cx}{CX:sR}{k:Nat}{f C:Addr}{fd:FuncData}{ps ks:List Str}{sp:Sp}{E:XK}{x m:Str}{p pos apos kpos:Pos}{e o:Expr}{es:List Expr}{kws:List Keyword}{te ta:TE}{t tk:TA}{nm:Option Str}
variable {g:List Value→List Value→List Value}{gV:List V→List V→List V}
end
structure aN(N P:List Str)(sc:Scope):Prop where
 kind:sc.kind= .function
 co:sc.isCoroutine=false
 gen:sc.isGenerator=false
 nd:N.Nodup
 pre:N.take P.length=P
 par:∀x∈P,sc.names.lookup x=some .local∨sc.names.lookup x=some .cell
 K4:∀y∈sc.names,y.2≠ .free
theorem wx{kindOf:Str→Option NameKind}{x:Str}:∀ {binds:List (Str×Value)} {m:Str→Option Value},(∀v,(x,v)∉binds)→bindL kindOf binds m x=m x
 | [],_,_=>rfl
 |(n,v)::r,m,h=>by
  unfold bindL
  rw[wx fun w hw=>h w (List.mem_cons_of_mem _ hw)]
  split
  · have:x≠n:=by rintro rfl;exact h v List.mem_cons_self
    simp[this]
  · rfl
theorem wB{kindOf:Str→Option NameKind}{x:Str}:∀ {binds:List (Str×Value)} {m:Str→Option Value},(∀v,(x,v)∉binds)→bindC kindOf binds m x=m x
 | [],_,_=>rfl
 |(n,v)::r,m,h=>by
  unfold bindC
  rw[wB fun w hw=>h w (List.mem_cons_of_mem _ hw)]
  split
  · rfl
  · have:x≠n:=by rintro rfl;exact h v List.mem_cons_self
    simp[this]
theorem wb{kindOf:Str→Option NameKind}{x:Str}{v:Value}:∀ {P:List Str} {vs:List Value} {i:Nat} {m:Str→Option Value},P.Nodup→P[i]?=some x→vs[i]?=some v→kindOf x=some .local→
 bindL kindOf (P.zip vs) m x=some v
 | [],_,_,_,_,h,_,_=>by simp at h
 |_::_,[],_,_,_,_,h,_=>by simp at h
 |p::P,w::vs,0,m,nd,h1,h2,hk=>by
  simp at h1 h2;subst h1;subst h2
  show bindL kindOf ((p,w)::P.zip vs) m p=_
  unfold bindL
  rw[wx fun v hv=>(List.nodup_cons.mp nd).1 (List.of_mem_zip hv).1,if_pos hk]
  simp
 |p::P,w::vs,i+1,m,nd,h1,h2,hk=>by
  show bindL kindOf ((p,w)::P.zip vs) m x=_
  unfold bindL
  exact wb (i:=i) (List.nodup_cons.mp nd).2 (by simpa using h1) (by simpa using h2) hk
theorem wM{kindOf:Str→Option NameKind}{x:Str}{v:Value}:∀ {P:List Str} {vs:List Value} {i:Nat} {m:Str→Option Value},P.Nodup→P[i]?=some x→vs[i]?=some v→kindOf x≠some .local→
 bindC kindOf (P.zip vs) m x=some v
 | [],_,_,_,_,h,_,_=>by simp at h
 |_::_,[],_,_,_,_,h,_=>by simp at h
 |p::P,w::vs,0,m,nd,h1,h2,hk=>by
  simp at h1 h2;subst h1;subst h2
  show bindC kindOf ((p,w)::P.zip vs) m p=_
  unfold bindC
  rw[wB fun v hv=>(List.nodup_cons.mp nd).1 (List.of_mem_zip hv).1,if_neg hk]
  simp
 |p::P,w::vs,i+1,m,nd,h1,h2,hk=>by
  show bindC kindOf ((p,w)::P.zip vs) m x=_
  unfold bindC
  exact wM (i:=i) (List.nodup_cons.mp nd).2 (by simpa using h1) (by simpa using h2) hk
noncomputable def start(N:List Str)(vs:List V):St:=vs.map some++List.replicate (N.length-vs.length) none
noncomputable def pk(CX:sR)(P:Program)(w:World)(K:PySem.W.Frag)(mg:Str→Option Value)(base:Heap)(N:List Str)(qual:Str)(scope:Scope)(f:Addr)(cd:Value)(A:Around)(outer:List Env)(s:Shared)(H:Hp)(E:XK):Cx where
 prog:=P
 w:=w
 K:=K
 mg:=mg
 base:=base
 A:=A.deeper (envOfC qual scope s.heap.objs.size f cd)
 N:=N
 s₀:=s
 H₀:=H
 env:=envOfC qual scope s.heap.objs.size f cd
 outer:=outer
 stack:=envOfC qual scope s.heap.objs.size f cd::outer
 ex:=[]
 calm:=true
 fn:=fun _=>true
 pn:=[]
 xe:=fun e s'=>wpAny (model P w) (A.deeper (envOfC qual scope s.heap.objs.size f cd)) (leaving (envOfC qual scope s.heap.objs.size f cd) e) (fun _ s''=>CX outer H s E e s'') (fun e' s''=>CX outer H s E e' s'') s'
theorem yF{sc:Scope}{n:Nat}{x:Str}(h:sc.names.lookup x=some .cell):∃c,(cellsFrom n sc.names []).lookup x=some c:=by
 have q:=PySem.W.cellsFrom_some sc.names n [] (.inl h)
 exact Option.isSome_iff_exists.mp q
theorem C8{CX:sR}{P:Program}{w:World}{K:PySem.W.Frag}{mg:Str→Option Value}{base:Heap}{N ps:List Str}{qual:Str}{scope:Scope}{f:Addr}{cd:Value}{A:Around}{outer:List Env}{s s1:Shared}{H:Hp}{E:XK}{us:List Value}{vs:List V}
 (S:aN N ps scope) (hd:A.handled=none) (e0:tE P w K mg base A outer s H) (hl:vs.length=ps.length) (r:Vals vs us)
 (x:InCallC s s.heap.objs.size (bindL (envOfC qual scope s.heap.objs.size f cd).kindOf (ps.zip us) fun _=>none) (cellsFrom (s.heap.objs.size+1) scope.names []) (bindC (envOfC qual scope s.heap.objs.size f cd).kindOf (ps.zip us) fun _=>none) s1):
 Inv (pk CX P w K mg base N qual scope f cd A outer s H E) [] (start N vs) H s1:=by
 have hpl:ps.length≤N.length:=by have:=congrArg List.length S.pre;rw[List.length_take]at this;omega
 obtain⟨h1,tk,rfl,hk⟩:=x.done
 have noA:∀b:Addr,b∉(pk CX P w K mg base N qual scope f cd A outer s H E).ex:=fun b z=>absurd (show b∈([]:List Addr)from z) (by simp)
 refine⟨⟨e0.mod,S.kind,rfl,rfl,Nat.le_refl _,fun y z c h1 h2=>?_,fun y hy=>?_,fun y c _ h=>?_,fun _=>hd,Around.frames_deeper e0.frames,.inr ⟨rfl,rfl⟩,fun b z=>absurd z (noA b),e0.bs,e0.qu,fun b _ _=>noA b,fun b z=>absurd z (noA b),e0.jU,e0.vc,e0.gt⟩,
  rfl,e0.bare,Un.kept hk,⟨_,x.toInCall.ns,fun i y v h1 h2 h3=>?_⟩,fun y c h=>⟨_,x.cell y c h⟩,e0.aL.fresh (Nat.le_refl _),fun y c h=>?_,fun p hp=>absurd (show p∈([]:List (Addr×Obj))from hp) (by simp),e0.aL.kept hk,?_⟩
 · exact name_of_addr x.apart (PySem.mem_of_lookup h1) (PySem.mem_of_lookup h2)
 · have hy:scope.names.lookup y=some .cell∨scope.names.lookup y=some .free:=hy
   rcases hy with hy|hy
   · exact yF hy
   · exact absurd rfl (S.K4 _ (PySem.mem_of_lookup hy))
 · exact Nat.le_of_lt (x.above y c (PySem.mem_of_lookup h))
 · have hi:i<vs.length:=by
    unfold start at h2
    by_cases hi:i<vs.length
    · exact hi
    · rw[List.getElem?_append_right (by simpa using hi)]at h2
      rw[List.getElem?_replicate]at h2
      split at h2<;>cases h2
   have ha:vs[i]?=some v:=by
    unfold start at h2
    rw[List.getElem?_append_left (by simpa using hi),List.getElem?_map]at h2
    cases e:vs[i]? with
    |none=>rw[e]at h2;cases h2
    |some a=>rw[e]at h2;cases h2;rfl
   obtain⟨u,hu,rv⟩:=r.get ha
   have hp:ps[i]?=some y:=by
    rw[←S.pre,List.getElem?_take_of_lt (by omega)];exact h1
   have ndP:ps.Nodup:=by rw[←S.pre];exact S.nd.sublist (List.take_sublist _ _)
   refine⟨u,rv,?_⟩
   rcases S.par y (List.mem_of_getElem? hp)with k|k
   · exact .inl ⟨k,wb ndP hp hu k⟩
   · obtain⟨c,e⟩:=yF (n:=s.heap.objs.size+1) k
     refine .inr ⟨.inl k,c,e,?_⟩
     have q:=x.cell y c e
     rw[wM ndP hp hu (by show scope.names.lookup y≠_;rw[k];decide)]at q
     exact q
 · exact e0.aL.fresh (Nat.le_of_lt (x.above y c (PySem.mem_of_lookup h)))
 · unfold start
   show _=N.length
   rw[List.length_append,List.length_map,List.length_replicate]
   omega
theorem FL{CX:sR}{P:Program}{w:World}{K:PySem.W.Frag}{mg:Str→Option Value}{base:Heap}{k:Nat}{f:Addr}{name qual:Str}{params:Arguments}{body:List Stmt}{scope:Scope}{dV kV doc pm cdv ct oc:Value}{an od:Option Addr}
 {osl:Array (Option Value)} {N ps:List Str} {sp:Sp} (lk:K.lookup f=some ⟨oc,od,.func (PySem.W.fnOf name qual params body scope dV kV doc pm an cdv ct),osl⟩) (hcd:PySem.W.codeIn K cdv qual=true) (S:aN N ps scope)
 (len:∀vs H Q E,sp vs H Q E→vs.length=ps.length)
 (hbody:∀(A:Around) (outer:List Env) (s:Shared) (H:Hp) (vs:List V) (Q:VK) (E:XK),cJ k (A.deeper (envOfC qual scope s.heap.objs.size f cdv))→sp vs H Q E→
   ∃t,gj (pk CX P w K mg base N qual scope f cdv A outer s H E) body t∧t {nx:=fun _ H'=>Q .aE H',rt:=Q} (start N vs) H):
 a8 P w K mg base CX (k+1) f (PySem.W.fnOf name qual params body scope dV kV doc pm an cdv ct) ps sp:=by
 refine⟨len,fun A outer s H args us vs Q E hr e0 hb r hsp=>?_⟩
 have hl:=len _ _ _ _ hsp
 have KX:K.In s.heap:=e0.mod.Eb.keeps fun b o e=>(e0.bs b o e).1
 have lim:s.heap.NoLimit:=e0.mod.nolimit.keeps fun b o e=>(e0.bs b o e).1
 have hkind:∀y∈ps.zip us,scope.names.lookup y.1=some .local∨(scope.names.lookup y.1=some .cell∧((cellsFrom (s.heap.objs.size+1) scope.names []).lookup y.1).isSome=true):=fun⟨n,v⟩ hy=>by
  rcases S.par n (List.of_mem_zip hy).1 with q|q
  · exact .inl q
  · exact .inr ⟨q,PySem.W.cellsFrom_some _ _ _ (.inl q)⟩
 refine codeAny_call_function hr.depth (KX _ _ lk) rfl S.co S.gen rfl (PySem.W.codeRec_of KX hcd) (hb _ _ _ _ ?_)
 refine wpAny_newFunctionEnv_cells S.kind hkind fun env he s1 x=>?_
 subst he
 refine⟨lim.keeps x.toInCall.keep,codeAny_func ?_⟩
 obtain⟨t,ht,hq⟩:=hbody A outer s H vs Q E (hr.deeper _) hsp
 have I:Inv (pk CX P w K mg base N qual scope f cdv A outer s H E) [] (start N vs) H s1:=C8 S hr.hd e0 hl r x
 refine wpAny_mono (ht [] s1 (start N vs) H _ I hq) (fun fl s' hs=>?_) fun e s' hs=>hs
 have fin:∀ {σ':St} {H':Hp} {v:V} {u:Value},Inv (pk CX P w K mg base N qual scope f cdv A outer s H E) [] σ' H' s'→RelV v u→Q v H'→CE outer P w H s Q u s':=
  fun{σ' H' v u} J rv q=>⟨v,H',J.os,J.bare,J.base,J.aL,rv,q⟩
 cases fl with
 |ret u=>
  obtain⟨v,σ',H',J,rv,q⟩:=hs
  exact fin J rv q
 |next=>
  obtain⟨σ',H',J,q⟩:=hs
  exact fin (v:=V.aE) (u:=Value.none) J rfl q
 |brk=>
  obtain⟨_,_,_,q⟩:=hs
  exact False.elim q
 |cont=>
  obtain⟨_,_,_,q⟩:=hs
  exact False.elim q
end L2
namespace L2
open PySem PySem.Spec PyProof.Rows
section
variable {X:Cx}{x:Str}{p pos:Pos}{e:Expr}{es:List Expr}{t:TA}{id T:String}{r:List V→Hp→VK→Prop}
noncomputable def Kh(r:List V→Hp→VK→Prop)(t:TA):TE:=fun σ H Q=>t σ H fun vs H1=>r vs H1 Q
theorem EO(hc:cx X (.builtin id) r)(hg:Gl X x)(hm:X.mg x=none)(hv:bootBuiltins x=some (.builtin id))(ha:PA X (e::es) t)(hn:x≠"__name__":=by decide)(hdb:(x==("__debug__":Str))=false:=by decide)
 (he:starEach (e::es) X.env=(false,eval e X.env)::starEach es X.env:=by rfl) (hpl:(backTo pos (starEach es X.env)).any (·.1)=false:=by rfl):PE X (.Call (.Name x p) (e::es) [] pos) (Kh r t):=by
 intro pins s σ H Q I h
 refine wpAny_Call_Name_kw (jO I hg hm hv ?_ hn hdb)
 exact PyProof.Rows.callWith_builtin1 (bO (ha pos pins s σ H _ I h) fun us s1 ⟨vs,H1,I1,r1,q1⟩=>hc pins s1 σ H1 vs us Q I1 r1 q1) he hpl
theorem DF(hc:cx X (.type T) r)(hg:Gl X x)(hm:X.mg x=none)(hv:bootBuiltins x=some (.type T))(ha:PA X (e::es) t)(hn:x≠"__name__":=by decide)(hdb:(x==("__debug__":Str))=false:=by decide)
 (he:starEach (e::es) X.env=(false,eval e X.env)::starEach es X.env:=by rfl) (hpl:(backTo pos (starEach es X.env)).any (·.1)=false:=by rfl):PE X (.Call (.Name x p) (e::es) [] pos) (Kh r t):=by
 intro pins s σ H Q I h
 refine wpAny_Call_Name_kw (jO I hg hm hv ?_ hn hdb)
 exact PyProof.Rows.callWith_type1 (bO (ha pos pins s σ H _ I h) fun us s1 ⟨vs,H1,I1,r1,q1⟩=>hc pins s1 σ H1 vs us Q I1 r1 q1) he hpl
end
end L2
namespace HT
open PySem PyProof.Rows
section
open PySem.SeqAt
open PySem.AutoSeq1 (wpAny_loadPart')
open PySem.MeetsSeq PySem.MeetsSeq2 PySem.MeetsSeq3
end
section
variable {prog:Program}{w:World}{A:Around}{E:Value→Shared→Prop}{s:Shared}
theorem GV{t b:Addr}{vs ws:List Value}{Q:Value→Shared→Prop}(ht:IsTup s.heap t vs.toArray)(hb:IsTup s.heap b ws.toArray)(hv:vs≠ [])
 (h1:ws=[]→Q (.ref t) s) (h2:ws≠ []→Q (.ref s.heap.objs.size) {s with heap:=s.heap.push {cls:= .type "tuple",data:= .seq (vs++ws).toArray}})
 (hsz:vs.length+ws.length≤sizeLine):wpAny (model prog w) A (binaryOp .Add (.ref t) (.ref b)) Q E s:=by
 obtain⟨⟨cls,dd,data,sl⟩,ho,hc,n,hd⟩:=id ht
 obtain⟨⟨cls2,dd2,data2,sl2⟩,ho2,hc2,n2,hd2⟩:=id hb
 simp only at hc hd hc2 hd2
 subst hc hd hc2 hd2
 have e:vs.toArray++ws.toArray=(vs++ws).toArray:=by simp
 by_cases hw:ws=[]
 · exact concat_meets ⟨_,ho,rfl⟩ ⟨_,ho2,rfl⟩ noFill_tuple_add seq_tuple_add PySem.F.slot_tuple_add PySem.F.entry_tuple_add (PySem.F.args_tuple_add_2 _ _)
    (tuple_addW1 t b vs.toArray ws.toArray n n2 dd dd2 sl sl2 (by simpa using hv) (by simp[hw])) ⟨ho,ho2,h1 hw⟩
 · refine concat_meets ⟨_,ho,rfl⟩ ⟨_,ho2,rfl⟩ noFill_tuple_add seq_tuple_add PySem.F.slot_tuple_add PySem.F.entry_tuple_add (PySem.F.args_tuple_add_2 _ _)
    (tuple_addW2 t b vs.toArray ws.toArray n n2 dd dd2 sl sl2 (by simpa using hv) (by simpa using hw) (by rw[List.size_toArray,List.size_toArray];exact hsz)) ⟨ho,ho2,?_⟩
   rw[e]
   exact h2 hw
noncomputable def bK(n d:Nat):Option Int→Nat
 |none=>d
 |some v=>if v<0 then(v+(n:Int)).toNat else min v.toNat n
theorem ze(n d:Nat):bK n d none=d:=rfl
theorem Az(n d k:Nat):bK n d (some (k:Int))=min k n:=by
 show(if(k:Int)<0 then((k:Int)+(n:Int)).toNat else min (k:Int).toNat n)=min k n
 rw[if_neg (by omega),Int.toNat_natCast]
theorem KY(n d:Nat)(hd:d≤n)(o:Option Int):bK n d o≤n:=by
 cases o with
 |none=>exact hd
 |some v=>
  show(if v<0 then(v+(n:Int)).toNat else min v.toNat n)≤n
  by_cases hv:v<0
  · rw[if_pos hv];omega
  · rw[if_neg hv];exact Nat.min_le_right _ _
theorem Ao(v:Int)(n d:Nat):(if v<0 then max (v+(n:Int)) 0 else min v (n:Int))=((bK n d (some v):Nat):Int):=by
 show(if v<0 then max (v+(n:Int)) 0 else min v (n:Int))=(((if v<0 then(v+(n:Int)).toNat else min v.toNat n):Nat):Int)
 by_cases hv:v<0
 · simp only[if_pos hv];omega
 · simp only[if_neg hv];omega
theorem Bp(lo hi:Option Int)(n:Nat):Builtin.Slice.sliceAdjust lo hi 1 (n:Int)=(((bK n 0 lo:Nat):Int),((bK n n hi:Nat):Int)):=by
 have h1:¬((1:Int)<0):=by omega
 unfold Builtin.Slice.sliceAdjust
 simp only[h1,if_false]
 refine Prod.ext ?_ ?_
 · cases lo with
   |none=>rfl
   |some v=>exact Ao v n 0
 · cases hi with
   |none=>rfl
   |some v=>exact Ao v n n
theorem Br(i j:Nat):Builtin.Slice.slicePlaces (i:Int) (j:Int) 1=j-i:=by
 unfold Builtin.Slice.slicePlaces
 have h1:(1:Int)>0:=by omega
 simp only[h1,if_true,Int.ediv_one]
 split<;>omega
theorem uH{v:Value}{o:Option Int}{Q:Option Int→Shared→Prop}(p:IsPart v o)(h:Q o s):wpAny (model prog w) A (Builtin.Slice.slicePartIndex v) Q E s:=by
 cases p with
 |none=>exact slicePart_none h
 |int i t=>exact slicePart_int h
theorem m7{sl:Addr}{vl vu:Value}{lo hi:Option Int}{n:Nat}{Q:Int×Int×Nat→Shared→Prop}(hs:s.heap.IsSliceOf sl vl vu .none)(pl:IsPart vl lo)(pu:IsPart vu hi)
 (h:Q (((bK n 0 lo:Nat):Int),1,bK n n hi-bK n 0 lo) s):wpAny (model prog w) A (Builtin.Slice.sliceApplied (.ref sl) (pure (n:Int))) Q E s:=by
 obtain⟨os,hos,hcs,hds⟩:=id hs
 unfold Builtin.Slice.sliceApplied Builtin.Slice.sliceFields
 refine wpAny_bind (wpAny_bind (wpAny_field hos hds (x:=vl) rfl (wpAny_bind (wpAny_field hos hds (x:=vu) rfl (wpAny_bind (wpAny_field hos hds (x:= .none) rfl (wpAny_pure ?_)))))))
 refine wpAny_bind (slicePart_none ?_)
 show wpAny _ _ (if((1:Int)==0)=true then _ else _) _ _ s
 rw[if_neg (by decide)]
 refine wpAny_bind (uH pl (wpAny_bind (uH pu (wpAny_bind (wpAny_pure ?_)))))
 show wpAny _ _ (match Builtin.Slice.sliceAdjust lo hi 1 (n:Int)with|(lo,hi)=>pure (lo,(1:Int),Builtin.Slice.slicePlaces lo hi 1)) _ _ s
 rw[Bp lo hi n]
 show wpAny _ _ (pure (((bK n 0 lo:Nat):Int),(1:Int),Builtin.Slice.slicePlaces ((bK n 0 lo:Nat):Int) ((bK n n hi:Nat):Int) 1)) _ _ s
 rw[Br]
 exact wpAny_pure h
theorem Fs(xs:Array Value)(i k:Nat):((List.range k).filterMap fun(m:Nat)=>xs[((i:Int)+(m:Int)*1).toNat]?).toArray=((xs.toList.drop i).take k).toArray:=by
 have e:(fun(m:Nat)=>xs[((i:Int)+(m:Int)*1).toNat]?)=fun m=>xs[i+m]?:=by
  funext m
  have:((i:Int)+(m:Int)*1).toNat=i+m:=by omega
  rw[this]
 rw[e]
 have:=pick_run xs i k
 rw[List.filterMap_map]at this
 have e2:((fun x=>xs[x]?)∘fun x=>i+x)=fun m=>xs[i+m]?:=rfl
 rw[e2]at this
 rw[this]
theorem sy{t sl:Addr}{items:Array Value}{vl vu:Value}{lo hi:Option Int}{Q:Value→Shared→Prop}(ht:IsTup s.heap t items)(hs:s.heap.IsSliceOf sl vl vu .none)(pl:IsPart vl lo)(pu:IsPart vu hi)
 (hw:¬(bK items.size 0 lo=0∧bK items.size items.size hi=items.size))
 (h:Q (.ref s.heap.objs.size) {s with heap:=s.heap.push {cls:= .type "tuple",data:= .seq ((items.toList.drop (bK items.size 0 lo)).take (bK items.size items.size hi-bK items.size 0 lo)).toArray}})
 (hsz:items.size≤sizeLine):wpAny (model prog w) A (getItem (.ref t) (.ref sl)) Q E s:=by
 have htake:sizeOk (.seq ((items.toList.drop (bK items.size 0 lo)).take (bK items.size items.size hi-bK items.size 0 lo)).toArray):=by
  show((items.toList.drop (bK items.size 0 lo)).take (bK items.size items.size hi-bK items.size 0 lo)).toArray.size≤sizeLine
  rw[List.size_toArray,List.length_take,List.length_drop,Array.length_toList]
  omega
 have hj:bK items.size items.size hi≤items.size:=KY _ _ (Nat.le_refl _) hi
 obtain⟨os,hos,hcs,hds⟩:=id hs
 have hTs:s.TypeIs (.ref sl) "slice":=⟨os,hos,hcs⟩
 unfold getItem
 try with_reducible refine wpAny_holding ?_
 first|refine wpAny_bind (wpAny_pure ?_)|skip
 refine wpAny_bind (wpAny_sequenceKey ht.typeIs (by decide) ?_)
 refine wpAny_bind (wpAny_callSpecial?_slot (name:=Str.ofString "__getitem__") ht.typeIs PyProof.Rows.slot_tuple_getitem
  (wpAny_call_entry PyProof.Rows.slot_tuple_getitem ht.typeIs entry_tuple_getitem ?_ (args_tuple_getitem _ _)))
 show wpAny _ _ (Builtin.Tuple.tupleItemsOf (.ref t) >>= _) _ _ s
 refine wpAny_bind (tupleItemsOf_ ht ?_)
 refine wpAny_bind (wpAny_typeOf hTs ?_)
 rw[if_pos (by decide)]
 refine wpAny_bind (m7 hs pl pu ?_)
 have hno:¬((((bK items.size 0 lo:Nat):Int)==0&&(1:Int)==1&&(bK items.size items.size hi-bK items.size 0 lo)==items.size)=true):=by
  intro q
  rw[Bool.and_eq_true,Bool.and_eq_true]at q
  have q1:((bK items.size 0 lo:Nat):Int)=0:=eq_of_beq q.1.1
  have q2:bK items.size items.size hi-bK items.size 0 lo=items.size:=eq_of_beq q.2
  exact hw ⟨by omega,by omega⟩
 show wpAny _ _ (if(((bK items.size 0 lo:Nat):Int)==0&&(1:Int)==1&&(bK items.size items.size hi-bK items.size 0 lo)==items.size)=true then _ else _) _ _ s
 rw[if_neg hno,Fs]
 first
  |exact wpAny_bind (m:=Builtin.Tuple.tupleExact _) (wpAny_newObj_type (wpAny_pure ⟨_,rfl,wpAny_pure h⟩) htake)
  |exact wpAny_bind (m:=Builtin.Tuple.tupleExact _) (wpAny_newObj_type (wpAny_bind (wpAny_pure (wpAny_pure ⟨_,rfl,wpAny_pure h⟩))) htake)
  |exact wpAny_bind (wpAny_bind (m:=Builtin.Tuple.tupleExact _) (wpAny_newObj_type (wpAny_pure (wpAny_pure ⟨_,rfl,wpAny_pure h⟩)) htake))
  |exact wpAny_bind (wpAny_bind (m:=Builtin.Tuple.tupleExact _) (wpAny_newObj_type (wpAny_pure ⟨_,rfl,wpAny_pure h⟩) htake))
end
end HT
namespace L2
open PySem PySem.Spec PyProof.Rows
noncomputable abbrev TO:=St→Hp→(Option Int→Hp→Prop)→Prop
noncomputable def PO(X:Cx)(e:Option Expr)(t:TO):Prop:=
 ∀(pins:List (Addr×Obj)) (s:Shared) (σ:St) (H:Hp) (Q:Option Int→Hp→Prop),Inv X pins σ H s→t σ H Q→
  wpAny (model X.prog X.w) X.A (evalPart e X.env) (fun u s'=>∃o H',Inv X pins σ H' s'∧IsPart u o∧Q o H') X.xe s
noncomputable def GR:TO:=fun _ H Q=>Q none H
noncomputable def Lq(t:TE):TO:=fun σ H Q=>t σ H fun x H1=>∃i,x= .int i∧Q (some i) H1
section
variable {X:Cx}{e:Expr}{te:TE}{lo hi:Option Expr}{tl th:TO}{pos p2:Pos}
theorem Ia:PO X none GR:=by
 intro pins s σ H Q I h
 rw[evalPart_none]
 exact wpAny_pure ⟨none,H,I,.none,h⟩
theorem HK(h:PE X e te):PO X (some e) (Lq te):=by
 intro pins s σ H Q I hw
 rw[evalPart_some]
 refine bO (h pins s σ H _ I hw) fun u s1 ⟨x,H1,I1,r1,q1⟩=>?_
 obtain⟨i,rfl,q⟩:=q1
 obtain⟨t,rfl⟩:=r1
 exact⟨some i,H1,I1,.int i t,q⟩
noncomputable def Ci(X:Cx)(r:V→Option Int→Option Int→Hp→VK→Prop):Prop:=
 ∀(pins:List (Addr×Obj)) (s:Shared) (σ:St) (H:Hp) (x:V) (v vl vu:Value) (lo hi:Option Int) (sl:Addr) (Q:VK),Inv X pins σ H s→RelV x v→s.heap.IsSliceOf sl vl vu .none→IsPart vl lo→IsPart vu hi→r x lo hi H Q→
  ∃T id,typeLookup (.type T) "__getitem__"=pure (some (.builtin id))∧s.TypeIs v T∧wpAny (model X.prog X.w) X.A (getItem v (.ref sl)) (EP X pins σ Q) X.xe s
noncomputable def N3(r:V→Option Int→Option Int→Hp→VK→Prop)(te:TE)(tl th:TO):TE:=fun σ H Q=>te σ H fun x H1=>tl σ H1 fun l H2=>th σ H2 fun u H3=>r x l u H3 Q
theorem EN{r:V→Option Int→Option Int→Hp→VK→Prop}(hr:Ci X r)(he:PE X e te)(hl:PO X lo tl)(hu:PO X hi th):PE X (.Subscript e (.Slice lo hi none p2) pos) (N3 r te tl th):=by
 intro pins s σ H Q I h
 refine Subscript_ (bO (he pins s σ H _ I h) fun v s1 ⟨x,H1,I1,r1,q1⟩=>?_)
 refine wpAny_Slice (bO (hl pins s1 σ H1 _ I1 q1) fun vl s2 ⟨l,H2,I2,pl,q2⟩=>bO (hu pins s2 σ H2 _ I2 q2) fun vu s3 ⟨u,H3,I3,pu,q3⟩=>?_)
 rw[evalPart_none]
 refine wpAny_pure ?_
 have I4:Inv X pins σ H3 {s3 with heap:=s3.heap.push {cls:= .type "slice",data:= .fields #[vl,vu,.none]}}:=I3.kept (t':=s3.toks) fun b ob q=>Heap.get?_push_of_some _ q
 obtain⟨T,id,hT,ht,hg⟩:=hr pins {s3 with heap:=s3.heap.push {cls:= .type "slice",data:= .fields #[vl,vu,.none]}} σ H3 x v vl vu l u s3.heap.objs.size Q I4 r1 (Heap.IsSliceOf.new ..) pl pu q3
 show wpAny (model X.prog X.w) X.A (subscriptTail e (.Slice lo hi none p2) v (.ref s3.heap.objs.size)) (EP X pins σ Q) X.xe {s3 with heap:=s3.heap.push {cls:= .type "slice",data:= .fields #[vl,vu,.none]}}
 exact tail_any (ops:=[.ref s3.heap.objs.size,v]) ht hT hg (by with_unfolding_all rfl)
noncomputable def pP(xs:List V)(lo hi:Option Int):List V:=(xs.drop (HT.bK xs.length 0 lo)).take (HT.bK xs.length xs.length hi-HT.bK xs.length 0 lo)
theorem sW(xs:List V)(lo hi:Option Int):(pP xs lo hi).length≤xs.length:=by
 unfold pP
 rw[List.length_take,List.length_drop]
 omega
noncomputable def Nj(K:PySem.W.Frag):V→Option Int→Option Int→Hp→VK→Prop:=fun x lo hi H Q=>∃a xs,x= .ref a∧iz K H a xs∧
 ¬(HT.bK xs.length 0 lo=0∧HT.bK xs.length xs.length hi=xs.length)∧∀p,H p=none→Q (.ref p) (upd H p (.tup (pP xs lo hi)))
theorem JP:Ci X (Nj X.K):=by
 intro pins s σ H x v vl vu lo hi sl Q I rx hs pl pu h
 obtain⟨a,xs,rfl,hx,hw,q⟩:=h
 cases rx
 obtain⟨au,r,ht,hz⟩:=I.tuple hx
 have hlen:au.toArray.size=xs.length:=by rw[List.size_toArray];exact r.length.symm
 refine⟨"tuple",_,PyProof.Rows.slot_tuple_getitem.lookup,ht.typeIs,?_⟩
 refine HT.sy ht hs pl pu (by rw[hlen];exact hw) ?_ (by rw[hlen];exact hz)
 rw[hlen]
 refine⟨.ref s.heap.objs.size,_,I.laid (t':=s.toks) (o:= .tup (pP xs lo hi)) (fun b ob q=>Heap.get?_push_of_some _ q) (Nat.le_refl _) ?_,rfl,q _ (I.aL.fresh (Nat.le_refl _))⟩
 exact⟨Nat.le_trans (sW xs lo hi) hz,_,(r.drop (HT.bK xs.length 0 lo)).take (HT.bK xs.length xs.length hi-HT.bK xs.length 0 lo),IsTup.new _ _⟩
noncomputable def MJ(K:PySem.W.Frag):R2:=fun x y H Q=>∃a b xs ys,x= .ref a∧y= .ref b∧iz K H a xs∧iz K H b ys∧xs≠ []∧xs.length+ys.length≤sizeLine∧
 (ys=[]→Q (.ref a) H)∧(ys≠ []→∀p,H p=none→Q (.ref p) (upd H p (.tup (xs++ys))))
theorem Vals.sf{xs:List V}{us:List Value}(r:Vals xs us):us=[]↔xs=[]:=by
 cases r with
 |nil=>simp
 |cons _ _=>simp
theorem GC:bX X (binaryOp .Add) (MJ X.K):=by
 intro pins s σ H x y v u Q I rx ry h
 obtain⟨a,b,xs,ys,rfl,rfl,ha,hb,hx,hz,q1,q2⟩:=h
 cases rx
 cases ry
 obtain⟨au,r1,p1,_⟩:=I.tuple ha
 obtain⟨its2,r2,p2,_⟩:=I.tuple hb
 refine HT.GV p1 p2 (fun z=>hx (r1.sf.mp z)) (fun z=>⟨.ref a,H,I,rfl,q1 (r2.sf.mp z)⟩) (fun z=>?_) (by rw[←r1.length,←r2.length];exact hz)
 refine⟨.ref s.heap.objs.size,_,I.laid (t':=s.toks) (o:= .tup (xs++ys)) (fun b ob q=>Heap.get?_push_of_some _ q) (Nat.le_refl _) ?_,rfl,q2 (fun w=>z (r2.sf.mpr w)) _ (I.aL.fresh (Nat.le_refl _))⟩
 exact⟨by rw[List.length_append];exact hz,_,r1.append r2,IsTup.new _ _⟩
end
end L2
namespace L2
open PySem PySem.Spec PyProof.Rows
noncomputable def j9(n:Nat)(i:Int):Option Nat:=if 0≤i then(if i<n then some i.toNat else none)else if-(n:Int)≤i then some (i+n).toNat else none
noncomputable def eB{α:Type}(xs:List α)(i:Int):Option α:=(j9 xs.length i).bind fun j=>xs[j]?
theorem Ae{n:Nat}{i:Int}{j:Nat}(h:j9 n i=some j):seqIndex? i n=some j∧j<n∧ -(n:Int)≤i∧i<n:=by
 unfold j9 at h
 by_cases h0:0≤i
 · rw[if_pos h0]at h
   by_cases h1:i<n
   · rw[if_pos h1]at h
     have e:i.toNat=j:=Option.some.inj h
     exact⟨by rw[seqIndex_of h0 h1,e],by omega,by omega,h1⟩
   · rw[if_neg h1]at h;cases h
 · rw[if_neg h0]at h
   by_cases h1: -(n:Int)≤i
   · rw[if_pos h1]at h
     have e:(i+n).toNat=j:=Option.some.inj h
     exact⟨by rw[seqIndex_neg (by omega) h1,e],by omega,h1,by omega⟩
   · rw[if_neg h1]at h;cases h
theorem vM{α:Type}{xs:List α}{i:Int}{v:α}(h:eB xs i=some v):∃j,seqIndex? i xs.length=some j∧xs[j]?=some v∧j<xs.length∧ -(xs.length:Int)≤i∧i<xs.length:=by
 unfold eB at h
 cases e:j9 xs.length i with
 |none=>rw[e]at h;cases h
 |some j=>
  rw[e]at h
  obtain⟨h1,h2,h3,h4⟩:=Ae e
  exact⟨j,h1,h,h2,h3,h4⟩
theorem ki{α:Type}{xs:List α}{j:Nat}{v:α}(h:xs[j]?=some v):eB xs (j:Int)=some v:=by
 have hj:j<xs.length:=(List.getElem?_eq_some_iff.mp h).1
 have e:j9 xs.length (j:Int)=some j:=by
  unfold j9
  rw[if_pos (by omega),if_pos (by omega)];simp
 unfold eB;rw[e];exact h
noncomputable def rM(b:Expr):Prop:=∀o i,subscripted b false o i=operate [o,i] (getItem o i)
noncomputable def F3(X:Cx)(r:R2):Prop:=
 ∀(value slice:Expr) (pins:List (Addr×Obj)) (s:Shared) (σ:St) (H:Hp) (x y:V) (v u:Value) (Q:VK),Inv X pins σ H s→RelV x v→RelV y u→r x y H Q→
  subscripted slice false v u=operate [v,u] (getItem v u)→wpAny (model X.prog X.w) X.A (subscriptTail value slice v u) (EP X pins σ Q) X.xe s
noncomputable def MP(X:Cx)(id:String)(r:V→List V→Hp→VK→Prop):Prop:=
 ∀(pins:List (Addr×Obj)) (s:Shared) (σ:St) (H:Hp) (x:V) (xs:List V) (v:Value) (us:List Value) (Q:VK),Inv X pins σ H s→RelV x v→Vals xs us→r x xs H Q→
  wpAny (model X.prog X.w) X.A (call (.builtin id) (v::us)) (EP X pins σ Q) X.xe s
section
variable {X:Cx}{a b:Expr}{ta tb:TE}{pos:Pos}
theorem Md{r:R2}(hr:F3 X r)(ha:PE X a ta)(hb:PE X b tb)(hs:rM b):PE X (.Subscript a b pos) (Ds r ta tb):=by
 intro pins s σ H Q I h
 exact Subscript_ (ER ha hb I h fun v u s2 x y H2 I2 rx ry q=>hr a b pins s2 σ H2 x y v u Q I2 rx ry q (hs _ _))
noncomputable def NX(K:PySem.W.Frag):R2:=fun x y H Q=>∃p xs i v,x= .ref p∧y= .int i∧lH K H p xs∧eB xs i=some v∧Q v H
noncomputable def Np(K:PySem.W.Frag):R2:=fun x y H Q=>∃p xs i v,x= .ref p∧y= .int i∧iz K H p xs∧eB xs i=some v∧Q v H
theorem As:F3 X (NX X.K):=by
 intro value slice pins s σ H x y v u Q I rx ry h hs
 obtain⟨p,xs,i,z,rfl,rfl,hq,he,q⟩:=h
 cases rx
 obtain⟨t,rfl⟩:=ry
 obtain⟨au,r,pl,hz⟩:=I.list hq
 obtain⟨j,h1,h2,h3,h4,h5⟩:=vM he
 obtain⟨w,ew,rw'⟩:=r.get h2
 have hl:=r.length
 have hn:=rg
 have fin:EP X pins σ Q w s:=⟨z,H,I,rw',q⟩
 by_cases h0:0≤i
 · have hj:i.toNat=j:=by
    rw[seqIndex_of h0 h5]at h1
    exact Option.some.inj h1
   exact item_listR pl.isList h0 (by omega) (by rw[hj];simpa using ew) fin hs
 · have hj:(i+(au.toArray.size:Int)).toNat=j:=by
    rw[seqIndex_neg (by omega) h4]at h1
    rw[List.size_toArray,←hl]
    exact Option.some.inj h1
   exact subscriptTail_builtinR (x:=w) pl.isList.typeIs slot_list_getitem.lookup
    (wpAny_getItem_list_neg (Q:=fun r s'=>r=w∧EP X pins σ Q r s') pl.isList (by omega) (by rw[List.size_toArray]<;>omega) (by omega) (by rw[hj];simpa using ew) ⟨rfl,fin⟩) hs
theorem Iy:F3 X (Np X.K):=by
 intro value slice pins s σ H x y v u Q I rx ry h hs
 obtain⟨p,xs,i,z,rfl,rfl,hq,he,q⟩:=h
 cases rx
 obtain⟨t,rfl⟩:=ry
 obtain⟨au,r,pl,hz⟩:=I.tuple hq
 obtain⟨j,h1,h2,h3,h4,h5⟩:=vM he
 obtain⟨w,ew,rw'⟩:=r.get h2
 have hl:=r.length
 have hn:=rg
 have fin:EP X pins σ Q w s:=⟨z,H,I,rw',q⟩
 exact subscriptTail_builtinR (x:=w) pl.typeIs slot_tuple_getitem.lookup
  (getItem_tuple (j:=j) (Q:=fun r s'=>r=w∧EP X pins σ Q r s') pl (by omega) (by omega) (by rw[List.size_toArray,←hl];exact h1) (by simpa using ew) ⟨rfl,fin⟩) hs
theorem Be(au:List Value)(n j:Nat)(u:Value):Obj.mapSeq (·.setIfInBounds j u) {cls:= .type "list",data:= .seq au.toArray n}= {cls:= .type "list",data:= .seq (au.set j u).toArray n}:=by
 simp[Obj.mapSeq]
theorem Inv.lst{pins:List (Addr×Obj)}{σ:St}{H:Hp}{s:Shared}{p:Addr}{xs:List V}(I:Inv X pins σ H s)(h:H p=some (.lst xs)):
 ∃(au:List Value) (n:Nat),Vals xs au∧s.heap.get? p=some {cls:= .type "list",data:= .seq au.toArray n}∧xs.length≤sizeLine:=by
 obtain⟨z,au,n,r,e⟩:=I.aL p _ h
 exact⟨au,n,r,e,z⟩
theorem Inv.Jr{pins:List (Addr×Obj)}{σ:St}{H:Hp}{s:Shared}{p:Addr}{xs ys:List V}{au its':List Value}{n n':Nat}{f:Obj→Obj}(I:Inv X pins σ H s)(h:H p=some (.lst xs))
 (ho:s.heap.get? p=some {cls:= .type "list",data:= .seq au.toArray n}) (hf:f {cls:= .type "list",data:= .seq au.toArray n}= {cls:= .type "list",data:= .seq its'.toArray n'}) (r:Vals ys its') (hz:ys.length≤sizeLine) (t:Nat):
 Inv X pins σ (upd H p (.lst ys)) {s with heap:=s.heap.update p f,toks:=t}:=by
 have e:(s.heap.update p f).get? p=some {cls:= .type "list",data:= .seq its'.toArray n'}:=by
  rw[Heap.get?_update_self f ho (by rw[hf]<;>rfl),hf]
 refine I.write (x:=p) (e:=p) (by rw[h];trivial) (.inl rfl) (fun b u hb q=>(Heap.get?_update_other _ _ (Ne.symm hb)).trans q) ⟨_,e⟩ ?_
 exact⟨hz,its',n',r,e⟩
noncomputable def xw:V→V→V→Hp→(Hp→Prop)→Prop:=fun o i v H Q=>∃p xs k j,o= .ref p∧i= .int k∧H p=some (.lst xs)∧j9 xs.length k=some j∧Q (upd H p (.lst (xs.set j v)))
theorem set_list:Jt X xw:=by
 intro pins s σ H o i v ov iv u Q I ro ri rv h
 obtain⟨p,xs,k,j,rfl,rfl,hp,hj,q⟩:=h
 cases ro
 obtain⟨t,rfl⟩:=ri
 obtain⟨au,n,r,ho,hz⟩:=I.lst hp
 obtain⟨h1,h2,h3,h4⟩:=Ae hj
 have hl:=r.length
 have hn:=rg
 have I':Inv X pins σ (upd H p (.lst (xs.set j v))) {s with heap:=s.heap.update p (Obj.mapSeq (·.setIfInBounds j u))}:=
  I.Jr hp ho (Be au n j u) (r.set rv j) (by rw[List.length_set];exact hz) s.toks
 by_cases h0:0≤k
 · have hk:k.toNat=j:=by
    rw[seqIndex_of h0 h4]at h1
    exact Option.some.inj h1
   exact PySem.W.ki_setAt ho h0 (by omega) (by rw[List.size_toArray,←hl];exact h4) (by rw[hk];exact⟨_,I',q⟩)
 · have hk:(k+(au.toArray.size:Int)).toNat=j:=by
    rw[seqIndex_neg (by omega) h3]at h1
    rw[List.size_toArray,←hl]
    exact Option.some.inj h1
   exact PySem.W.ki_setBack ho (by omega) (by rw[List.size_toArray,←hl];exact h3) (by omega) (by rw[hk];exact⟨_,I',q⟩)
theorem yy(lo hi:Option Int)(n:Nat):(sliceBounds lo hi none n).1=((HT.bK n 0 lo:Nat):Int)∧(sliceBounds lo hi none n).2.1=((HT.bK n n hi:Nat):Int)∧(sliceBounds lo hi none n).2.2=1:=by
 refine⟨?_,?_,rfl⟩
 · cases lo with
   |none=>simp[sliceBounds,HT.bK]
   |some i=>
    simp only[sliceBounds,HT.bK,Option.getD_none,show(1:Int)>0 by decide,if_true]
    by_cases h:i<0
    · simp only[h,if_true]<;>omega
    · simp only[h,if_false]<;>omega
 · cases hi with
   |none=>simp[sliceBounds,HT.bK]
   |some i=>
    simp only[sliceBounds,HT.bK,Option.getD_none,show(1:Int)>0 by decide,if_true]
    by_cases h:i<0
    · simp only[h,if_true]<;>omega
    · simp only[h,if_false]<;>omega
theorem xg(au:List Value)(lo hi:Option Int):slicePick au.toArray lo hi none=((au.drop (HT.bK au.length 0 lo)).take (HT.bK au.length au.length hi-HT.bK au.length 0 lo)).toArray:=by
 obtain⟨h1,h2,h3⟩:=yy lo hi au.toArray.size
 unfold slicePick
 rw[h1,h2,h3]
 simp only[sliceRange_one,pick_run,List.size_toArray]<;>rfl
noncomputable def NR(K:PySem.W.Frag):V→Option Int→Option Int→Hp→VK→Prop:=fun x lo hi H Q=>∃a xs,x= .ref a∧lH K H a xs∧∀p,H p=none→Q (.ref p) (upd H p (.lst (pP xs lo hi)))
theorem AB:Ci X (NR X.K):=by
 intro pins s σ H x v vl vu lo hi sl Q I rx hs pl pu h
 obtain⟨a,xs,rfl,hx,q⟩:=h
 cases rx
 obtain⟨au,r,ht,hz⟩:=I.list hx
 have hlen:=r.length
 refine⟨"list",_,slot_list_getitem.lookup,ht.isList.typeIs,?_⟩
 refine wpAny_getItem_list_slice ht.isList hs pl pu .none (by simp) ?_ (by rw[List.size_toArray]<;>omega)
 rw[xg,←hlen]
 refine⟨.ref s.heap.objs.size,_,I.laid (t':=s.toks) (o:= .lst (pP xs lo hi)) (fun b ob q=>Heap.get?_push_of_some _ q) (Nat.le_refl _) ?_,rfl,q _ (I.aL.fresh (Nat.le_refl _))⟩
 exact⟨Nat.le_trans (sW xs lo hi) hz,_,0,(r.drop (HT.bK xs.length 0 lo)).take (HT.bK xs.length xs.length hi-HT.bK xs.length 0 lo),Heap.get?_push_size _ rfl⟩
theorem yc:cx X (.builtin "len") (fun xs H Q=>∃p ys,xs=[.ref p]∧(lH X.K H p ys∨iz X.K H p ys)∧Q (.int ys.length) H):=by
 intro pins s σ H xs us Q I r h
 obtain⟨p,ys,rfl,hq,q⟩:=h
 obtain⟨u,rfl,rx⟩:=vals1 r
 cases rx
 have hn:=rg
 rcases hq with hq|hq
 · obtain⟨au,r',pl,hz⟩:=I.list hq
   have hlen:=r'.length
   exact Calls.call_len_list pl.isList (by simp only[List.size_toArray]<;>omega) ⟨.int ys.length,H,I.tok _,⟨s.toks+1,by rw[List.size_toArray,hlen]⟩,q⟩
 · obtain⟨au,r',pl,hz⟩:=I.tuple hq
   have hlen:=r'.length
   exact len_tuple pl (by simp only[List.size_toArray]<;>omega) ⟨.int ys.length,H,I.tok _,⟨s.toks+1,by rw[List.size_toArray,hlen]⟩,q⟩
theorem xT:cx X (.builtin "len") (fun xs H Q=>∃z,xs=[.str z]∧z.length≤sizeLine∧Q (.int z.length) H):=by
 intro pins s σ H xs us Q I r h
 obtain⟨z,rfl,hz,q⟩:=h
 obtain⟨u,rfl,t,rfl⟩:=vals1 r
 have hn:=rg
 exact len_str (by omega) ⟨.int z.length,H,I.tok _,⟨_,rfl⟩,q⟩
theorem qK:cx X (.type "list") (fun xs H Q=>∃p ys,xs=[.ref p]∧(lH X.K H p ys∨iz X.K H p ys)∧∀l,H l=none→Q (.ref l) (upd H l (.lst ys))):=by
 intro pins s σ H xs us Q I r h
 obtain⟨p,ys,rfl,hq,q⟩:=h
 obtain⟨u,rfl,rx⟩:=vals1 r
 cases rx
 have fin:∀(au:List Value),Vals ys au→ys.length≤sizeLine→∀(h':Heap) (c':Nat),(∀b o',s.heap.get? b=some o'→h'.get? b=some o')→
  h'.get? s.heap.objs.size=some {cls:= .type "list",dict:=none,data:= .seq au.toArray c',slots:= #[]}→EP X pins σ Q (.ref s.heap.objs.size) {s with heap:=h'}:=fun au r' hz h' c' kp e=>
  ⟨.ref s.heap.objs.size,_,I.laid (t':=s.toks) kp (Nat.le_refl _) (show dc X.prog X.w _ h' _ (.lst ys)from⟨hz,au,c',r',e⟩),rfl,q _ (I.aL.fresh (Nat.le_refl _))⟩
 rcases hq with hq|hq
 · obtain⟨au,r',pl,hz⟩:=I.list hq
   have hlen:=r'.length
   obtain⟨o,ho,hc,n,hd⟩:=pl.isList
   exact call_list_seq p (.inl rfl) ho hc hd (fun h' c' kp e=>fin au r' hz h' c' kp e) (by simp only[List.size_toArray]<;>omega)
 · obtain⟨au,r',pl,hz⟩:=I.tuple hq
   have hlen:=r'.length
   obtain⟨o,ho,hc,n,hd⟩:=pl
   exact call_list_seq p (.inr rfl) ho hc hd (fun h' c' kp e=>fin au r' hz h' c' kp e) (by simp only[List.size_toArray]<;>omega)
theorem w9:cx X (.type "tuple") (fun xs H Q=>∃p ys,xs=[.ref p]∧((lH X.K H p ys∧∀l,H l=none→Q (.ref l) (upd H l (.tup ys)))∨(iz X.K H p ys∧Q (.ref p) H))):=by
 intro pins s σ H xs us Q I r h
 obtain⟨p,ys,rfl,h⟩:=h
 obtain⟨u,rfl,rx⟩:=vals1 r
 cases rx
 rcases h with⟨hq,q⟩|⟨hq,q⟩
 · obtain⟨au,r',pl,hz⟩:=I.list hq
   have hlen:=r'.length
   refine call_tuple_list pl.isList (fun h' kp=>?_) (by simp only[List.size_toArray]<;>omega)
   have I1:Inv X pins σ H {s with heap:=h'}:=I.kept (t':=s.toks) kp
   have I2:Inv X pins σ (upd H h'.objs.size (.tup ys)) {s with heap:=h'.push {cls:= .type "tuple",data:= .seq au.toArray}}:=
    I1.laid (t':=s.toks) (fun b o e=>Heap.get?_push_of_some _ e) (Nat.le_refl _) (show dc X.prog X.w _ _ _ (.tup ys)from⟨hz,au,r',IsTup.new _ _⟩)
   exact⟨.ref h'.objs.size,_,I2,rfl,q _ (I1.aL.fresh (Nat.le_refl _))⟩
 · obtain⟨au,r',pl,hz⟩:=I.tuple hq
   exact call_tuple_same pl ⟨.ref p,H,I,rfl,q⟩
noncomputable def Nh(K:PySem.W.Frag)(T:String)(x:V)(H:Hp):Prop:=match x with
 | .str _=>T="str"
 | .int _=>T="int"
 | .ref p=>(T="list"∧∃xs,lH K H p xs)∨(T="tuple"∧∃o,K.lookup p=some o∧o.cls= .type "tuple"∧o.dict=none)∨
    (T="dict"∧((∃kvs,H p=some (.dK kvs))∨∃kvs,H p=some (.dT kvs)))∨(T="set"∧∃S n,H p=some (.set S n))
 |_=>False
theorem JQ{pins:List (Addr×Obj)}{σ:St}{H:Hp}{s:Shared}{T:String}{x:V}{v:Value}(I:Inv X pins σ H s)(r:RelV x v)(ty:Nh X.K T x H):
 s.TypeIs v T∧∀a,v= .ref a→∃ob,s.heap.get? a=some ob∧ob.dict=none:=by
 cases x with
 |str z=>
  obtain⟨t,rfl⟩:=r
  cases (show T="str" from ty)
  exact⟨typeIs_str s z t,fun _ e=>nomatch e⟩
 |int i=>
  obtain⟨t,rfl⟩:=r
  cases (show T="int" from ty)
  exact⟨typeIs_int s i t,fun _ e=>nomatch e⟩
 |ref p=>
  cases r
  rcases ty with⟨rfl,xs,hq⟩|⟨rfl,o,hk,hc,hd⟩|⟨rfl,hk⟩|⟨rfl,S,n,hk⟩
  · obtain⟨au,_,pl,_⟩:=I.list hq
    refine⟨pl.isList.typeIs,fun a e=>?_⟩
    cases e
    obtain⟨o,n,e,c,hd,_⟩:=pl
    exact⟨o,e,hd⟩
  · refine⟨⟨o,I.gm p o hk,hc⟩,fun a e=>?_⟩
    cases e
    exact⟨o,I.gm _ o hk,hd⟩
  · have z:∃o,s.heap.get? p=some o∧o.ExactDict:=by
     rcases hk with⟨kvs,hk⟩|⟨kvs,hk⟩
     · obtain⟨_,_,_,_,o,_,_,e,ex,_⟩:=I.aL p _ hk
       exact⟨o,e,ex⟩
     · obtain⟨_,_,_,_,o,_,_,e,ex,_⟩:=I.aL p _ hk
       exact⟨o,e,ex⟩
    obtain⟨o,e,ex⟩:=z
    refine⟨⟨o,e,ex.1⟩,fun a e2=>?_⟩
    cases e2
    exact⟨o,e,ex.2.1⟩
  · obtain⟨o,_,_,_,e,ex,_⟩:=I.aL p _ hk
    refine⟨⟨o,e,ex.1⟩,fun a e2=>?_⟩
    cases e2
    exact⟨o,e,ex.2.1⟩
 |_=>exact False.elim ty
noncomputable def M7(K:PySem.W.Frag)(T:String)(r:V→List V→Hp→VK→Prop)(to:TE)(t:TA):TE:=fun σ H Q=>to σ H fun x H1=>Nh K T x H1∧t σ H1 fun xs H2=>r x xs H2 Q
variable {o e:Expr}{es:List Expr}{to:TE}{t:TA}{name:Str}{apos cpos:Pos}{T id:String}{r:V→List V→Hp→VK→Prop}
theorem L5(pa:PlainAttrs T)(slot:Slot T name id)(hty:typeOf (.builtin id)=pure (.type "method_descriptor"))(hm:MP X id r)(ho:PE X o to)(ha:PA X (e::es) t)
 (hbase:attributeBase o name X.env (eval o X.env)=eval o X.env:=by rfl)
 (hfew:((backTo cpos (starEach (e::es) X.env)).all (fun x=> !x.1)&&(backToKw cpos (keywordEach [] X.env)).all (fun x=>x.1.isSome)
   &&decide ((e::es).length+([]:List Keyword).length+(if([]:List Keyword).isEmpty then 0 else 1)<30))=true:=by rfl)
 (hline:(apos.endLine==cpos.line)=true:=by rfl) (hs:starEach (e::es) X.env=(false,eval e X.env)::starEach es X.env:=by rfl) (hplain:(backTo cpos (starEach es X.env)).any (·.1)=false:=by rfl):
 PE X (.Call (.Attribute o name apos) (e::es) [] cpos) (M7 X.K T r to t):=by
 intro pins s σ H Q I h
 refine wpAny_Call_method_late hbase hfew hline rfl (bO (ho pins s σ H _ I h) fun v s1 ⟨x,H1,I1,r1,ty,q1⟩=>?_)
 obtain⟨h1,h2⟩:=JQ I1 r1 ty
 refine⟨T,id,pa,slot,hty,h1,h2,?_⟩
 have hA:=ha cpos pins s1 σ H1 _ I1 q1
 rw[hs]at hA⊢
 refine Calls.callWith_builtin (by show(false||(backTo cpos (starEach es X.env)).any (·.1))=false;rw[hplain]<;>rfl) (Calls.evalArgs_plain ?_)
 exact bO hA fun us s2 ⟨vs,H2,I2,r2,q2⟩=>hm pins s2 σ H2 x vs v us Q I2 r1 r2 q2
/-xs.append(e),list.index on a module's tuple .. are MP facts of 06m-/
end
end L2
namespace L2
open PySem PySem.Spec PyProof.Rows
noncomputable def Oj(X:Cx)(id:String)(r:V→List V→Hp→VK→Prop):Prop:=
 ∀(pins:List (Addr×Obj)) (s:Shared) (σ:St) (H:Hp) (x:V) (xs:List V) (v:Value) (us:List Value) (Q:VK),Inv X pins σ H s→RelV x v→Vals xs us→r x xs H Q→
  wpAny (model X.prog X.w) X.A (call (.builtin id) (v::us)) (EP X pins σ Q) X.xe s
theorem Vals.one:∀ {x:V} {us:List Value},Vals [x] us→∃u,us=[u]∧RelV x u
 |_,_,.cons r .nil=>⟨_,rfl,r⟩
theorem Vals.rep{xs:List V}{us:List Value}(h:Vals xs us):∀k:Nat,Vals (List.replicate k xs).flatten (List.replicate k us).flatten
 |0=> .nil
 |k+1=>by
  rw[List.replicate_succ,List.replicate_succ,List.flatten_cons,List.flatten_cons]
  exact Vals.append h (Vals.rep h k)
theorem foldl_rep(au:List Value):∀(k:Nat) (acc:List Value),
 List.foldl (fun x1 x2=>x1++x2) acc.toArray (List.replicate k au.toArray)=(acc++(List.replicate k au).flatten).toArray
 |0,acc=>by simp
 |k+1,acc=>by
  have e:acc.toArray++au.toArray=(acc++au).toArray:=by simp
  have e2:(acc++au)++(List.replicate k au).flatten=acc++(List.replicate (k+1) au).flatten:=by
   rw[List.replicate_succ,List.flatten_cons,List.append_assoc]
  rw[←e2,←foldl_rep au k (acc++au),←e,List.replicate_succ,List.foldl_cons]
section
variable {X:Cx}{pins:List (Addr×Obj)}{σ:St}{H:Hp}{s:Shared}{l b:Addr}{xs ys zs:List V}
theorem Inv.N2{au its':List Value}{n:Nat}{f:Array Value→Array Value}{t':Nat}(I:Inv X pins σ H s)(hH:H l=some (.lst xs))
 (e:s.heap.get? l=some {cls:= .type "list",data:= .seq au.toArray n}) (hf:f au.toArray=its'.toArray) (hv:Vals ys its') (hz:ys.length≤sizeLine):
 Inv X pins σ (upd H l (.lst ys)) {s with heap:=s.heap.update l (Obj.mapSeq f),toks:=t'}:=by
 have q:=PySem.IsL.update e f
 rw[hf]at q
 refine I.write (x:=l) (e:=l) (by rw[hH];exact trivial) (.inl rfl) (fun b' u hb hu=>(Heap.get?_update_other s.heap (Obj.mapSeq f) (Ne.symm hb)).trans hu) ⟨_,q⟩ ?_
 exact⟨hz,its',_,hv,q⟩
theorem Inv.Ef{au:List Value}{t':Nat}(I:Inv X pins σ H s)(hv:Vals ys au)(hz:ys.length≤sizeLine):
 Inv X pins σ (upd H s.heap.objs.size (.lst ys)) {s with heap:=s.heap.push {cls:= .type "list",data:= .seq au.toArray},toks:=t'}:=
 I.laid (fun _ _ q=>Heap.get?_push_of_some _ q) (Nat.le_refl _) ⟨hz,au,0,hv,Heap.get?_push_size _ rfl⟩
theorem Inv.fresh(I:Inv X pins σ H s):H s.heap.objs.size=none:=I.aL.fresh (Nat.le_refl _)
theorem Inv.NC(I:Inv X pins σ H s)(hH:H l=some (.lst xs)):xs.length≤sizeLine∧∃(au:List Value) (n:Nat),Vals xs au∧xs.length=au.length∧s.heap.get? l=some {cls:= .type "list",data:= .seq au.toArray n}:=by
 obtain⟨z,au,n,r,e⟩:=I.aL l _ hH
 exact⟨z,au,n,r,r.length,e⟩
theorem ED{n:Nat}(h:n≤sizeLine):Builtin.List.listTooLong n=false:=by
 unfold Builtin.List.listTooLong
 exact decide_eq_false (by omega)
end
section
variable {X:Cx}
noncomputable def Ah:V→List V→Hp→VK→Prop:=fun x vs H Q=>∃l xs y,x= .ref l∧vs=[y]∧H l=some (.lst xs)∧xs.length<sizeLine∧Q .aE (upd H l (.lst (xs++[y])))
theorem wW:Oj X "list.append" Ah:=by
 intro pins s σ H x vs v us Q I rx rv h
 obtain⟨l,xs,y,rfl,rfl,hH,hz,q⟩:=h
 cases rx
 obtain⟨u,rfl,ru⟩:=rv.one
 obtain⟨z,au,n,r,hl,e⟩:=I.NC hH
 refine call_meets F.slot_list_append ⟨_,e,rfl⟩ F.entry_list_append (F.args_list_append_2 _ _) (PySem.list_append l au.toArray n u (by rw[List.size_toArray];omega)) ⟨e,?_⟩
 refine⟨.aE,_,I.N2 (its':=au++[u]) hH e (by simp) (r.append (.cons ru .nil)) ?_,rfl,q⟩
 rw[List.length_append,List.length_singleton]
 omega
theorem len_rep{α:Type}(xs:List α)(k:Nat):(List.replicate k xs).flatten.length=k*xs.length:=by
 induction k with
 |zero=>simp
 |succ k ih=>rw[List.replicate_succ,List.flatten_cons,List.length_append,ih,Nat.succ_mul,Nat.add_comm]
end
section
variable {prog:Program}{w:World}{A:Around}{E:Value→Shared→Prop}{s:Shared}
set_option maxRecDepth 100000 in
end
section
variable {X:Cx}
end
end L2
namespace Att
open PySem PySem.W PySem.Calls PyProof.Rows
theorem uS{P:Params}{h:Heap}:∀(ns:List Int) (vs:List Value),WellAll P h vs (ns.map WData.int)→IntsAre vs ns:=by
 intro ns
 induction ns with
 |nil=>
  intro vs w
  rw[List.map_nil]at w
  cases w
  exact .nil
 |cons n ns ih=>
  intro vs w
  rw[List.map_cons]at w
  cases w with
  |cons a b=>
   cases a
   exact .cons _ _ (ih _ b)
theorem Dt{l:OpenLaw}{n:Nat}(hn:l.most=some n){P:Params}{h:Heap}{args:List WData}{vals:List Value}
 (hpre:l.row.toRowW.claim.pre args=true) (hwl:WellAll P h vals args):
 ∃a vs ns,vals=[Value.ref a]∧args=[WData.list (ns.map WData.int)]∧h.get? a=some {cls:= .type "list",data:= .seq vs.toArray}∧IntsAre vs ns∧ns.length≤n:=by
 have hsh:WShape.hasAll [] args [.list .int]=true:=(pre_splitW hpre).1
 have hc:l.pre.holds [] {args:=args}=true:=(pre_splitW hpre).2
 obtain⟨d,r,rfl,h1,h2⟩:=hasAllW_cons hsh
 obtain rfl:=hasAllW_nil h2
 obtain⟨xs,rfl,h3⟩:=hasW_list h1
 obtain⟨ns,rfl⟩:=items_int h3
 have hlen:ns.length≤n:=by
  unfold OpenLaw.pre at hc
  have h4:(WTm.not (.lt (.lit (.int (n:Int))) (.len (.arg 0)))).holds [] {args:=[.list (ns.map .int)]}=true:=by
   have h4:=(holds_andW hc).1
   rw[hn]at h4
   exact h4
  have h5:=condW_of h4 (w_not (w_lt w_lit (w_len_list (w_arg rfl))))
  rw[List.length_map]at h5
  refine Nat.le_of_not_lt fun q=>?_
  have q':(n:Int)<((ns.length:Nat):Int):=by omega
  first
   |(rw[decide_eq_true q']at h5;exact absurd h5 (by decide))
   |(simp at h5;omega)
 cases hwl with
 |cons w1 w2=>
  cases w2
  cases w1 with
  |list ho hall=>exact⟨_,_,ns,rfl,rfl,ho,uS ns _ hall,hlen⟩
theorem Dg(l:OpenLaw)(args:List WData):l.row.toRowW.claim.post args (.bool true) args=true:=
 postW_of (r:=l.row.toRowW) (X:=(true==true))
  (show WShape.has [] (.bool true) .bool=true by first|rfl|decide|simp[WShape.has,WShape.arms,WShape.armsAll])
  (show(WTm.eq .res (.lit (.bool true))).value [] {args:=args,res:=some (.bool true),after:=args}=some (.bool (true==true))from w_eq_bool (w_res rfl) w_lit) rfl
theorem zJ{l:OpenLaw}{n:Nat}{q:Program}{loose:List Str}{XP:(Str→Option Value)→Heap→Prop}{YP:World→Heap→Prop}{d:DefRec}
 (hn:l.most=some n) (hdf:d.params.defaults=[])
 (call:∀(w:World) (s₀ s₁:Shared) (mg mb:Str→Option Value) (fa:Addr) (o:Obj) (pm cd doc:Value) (a:Addr) (vs:List Value) (ns:List Int),
   Ground q loose [] XP w s₀ mg mb s₁.heap→YP w s₁.heap→
   s₁.heap.get? fa=some o→o.data= .func (docDef d.name d.params d.body d.scope pm cd doc)→s₁.heap.CodeRec cd d.name→mg d.name=some (.ref fa)→
   s₁.heap.get? a=some {cls:= .type "list",data:= .seq vs.toArray}→IntsAre vs ns→ns.length≤n→s₁.gens= #[]→
   codeAny (model l.prog w) callerA (.call (.ref fa) ⟨[.ref a],[]⟩) (fun r s'=>r= .ok (.ret (.bool true))∧OldK s₁.heap s'.heap∧s'.os=s₁.os∧AllBare s'.gens) s₁):
 WalkO q loose XP YP l.row.toRowW d [] (fun f vs=>PySem.call f vs):=by
 intro w s₀ s₁ mg mb G Y fa o pm cd doc dV kV ho hd hcd hD hmg hg args vals as hpre hlay hrd hwl hlo
 obtain rfl:dV= .none:=Dflts.none hD hdf
 obtain rfl:kV= .none:=Dflts.noKw hD
 obtain⟨a,vs,ns,rfl,rfl,hobj,hints,hlen⟩:=Dt hn hpre hwl
 refine enter_call (codeAny_mono (call w s₀ s₁ mg mb fa o pm cd doc a vs ns G Y ho (fd_plain hd) hcd hmg hobj hints hlen hg) fun r s' hq=>?_)
 obtain⟨rfl,h2,h3,h4⟩:=hq
 exact⟨.inl ⟨.bool true,.bool true,[],rfl,fun _=>rfl,.bool true,Dg l _,fun _=>⟨List.Pairwise.nil,fun _ hm=>(nomatch hm)⟩⟩,h2,h3,h4⟩
section
variable {prog:Program}{w:World}{A:Around}{E:Value→Shared→Prop}{s:Shared}{K:Frag}
end
end Att
namespace L2
open PySem PySem.Spec PyProof.Rows
end L2
/-THE LAST THEOREM (shape;LID,My.*are yours):
 My.Adr:a structure of the addresses that your layer names (classes,functions);My.Txt K t:a structure (Prop) of the equations over K;
 My.txt_mk:{K} {implicit addresses ..} (e1:nsIn K mainGlobals "law"=some (some (.ref f))) (e2:K.lookup f=some ⟨oc,od,.func (fnOf "law" "law" params body scope dV kV doc pm an cdv ct),sl⟩) (e3:codeIn K cdv "law"=true) .. :∃t,My.Txt K t
set_option maxRecDepth 100000 in
set_option maxHeartbeats 0 in
(the tactic k_is has no namespace:write k_is)-/
namespace L2
open PySem PySem.Spec PyProof.Rows
noncomputable def inClass(s:Stmt)(j:Nat):Stmt:=match s with
 | .ClassDef _ _ _ body _ _ _ _ _ _ _=>body.getD j (.Pass ⟨0,0,0,0⟩)
 |_=> .Pass ⟨0,0,0,0⟩
noncomputable def js(s:Stmt):Arguments:=match s with
 | .FunctionDef _ a _ _ _ _ _ _ _ _=>a
 |_=>{posonlyargs:=[],args:=[],vararg:=none,kwonlyargs:=[],kw_defaults:=[],kwarg:=none,defaults:=[]}
noncomputable def gf(s:Stmt):List Stmt:=match s with
 | .FunctionDef _ _ b _ _ _ _ _ _ _=>b
 |_=>[]
noncomputable def ai(s:Stmt):Scope:=match s with
 | .FunctionDef _ _ _ _ _ _ sc _ _ _=>sc
 |_=>{kind:= .function,names:=[],isGenerator:=false,isCoroutine:=false}
noncomputable abbrev cf:sR:=fun _ _ _ _ _ _=>False
noncomputable abbrev E0:XK:=fun _ _ _=>False
theorem Bg{X:Cx}:Passes cf X E0:=fun _ _ _ _ _ _ _ h=>h.elim
structure m_(K:PySem.W.Frag)(x qual:Str)(st:Stmt)(f:Addr)(fd:FuncData):Prop where
 ex:∃(oc:Value) (od:Option Addr) (kV doc pm:Value) (an:Option Addr) (cdv ct:Value) (osl:Array (Option Value)),
  fd=PySem.W.fnOf x qual (js st) (gf st) (ai st) .none kV doc pm an cdv ct∧K.lookup f=some ⟨oc,od,.func fd,osl⟩∧PySem.W.codeIn K cdv qual=true
 kp:PySem.W.keepIn K (.ref f)=true
section
variable {P:Program}{w:World}{K:PySem.W.Frag}{mg:Str→Option Value}{base:Heap}
theorem m_.ok{x qual:Str}{st:Stmt}{f:Addr}{fd:FuncData}{N ps:List Str}{k:Nat}{sp:Sp}(F:m_ K x qual st f fd)(S:aN N ps (ai st))(len:∀vs H Q E,sp vs H Q E→vs.length=ps.length)
 (hbody:∀(cdv:Value) (A:Around) (outer:List Env) (s:Shared) (H:Hp) (vs:List V) (Q:VK) (E:XK),cJ k (A.deeper (envOfC qual (ai st) s.heap.objs.size f cdv))→sp vs H Q E→
   ∃t,gj (pk cf P w K mg base N qual (ai st) f cdv A outer s H E).uJ (gf st) t∧t {nx:=fun _ H'=>Q .aE H',rt:=Q} (start N vs) H):a8 P w K mg base cf (k+1) f fd ps sp:=by
 obtain⟨oc,od,kV,doc,pm,an,cdv,ct,osl,rfl,lk,hcd⟩:=F.ex
 refine FL lk hcd S len fun A outer s H vs Q E hr hsp=>?_
 obtain⟨t,h,q⟩:=hbody cdv A outer s H vs Q E hr hsp
 exact⟨t,h.uJ,q⟩
theorem m_.binds{x qual:Str}{st:Stmt}{f:Addr}{fd:FuncData}{ps:List Str}(F:m_ K x qual st f fd)
 (h:∀(kV doc pm:Value) (an:Option Addr) (cdv ct:Value) (us:List Value),us.length=ps.length→bindArgs (PySem.W.fnOf x qual (js st) (gf st) (ai st) .none kV doc pm an cdv ct) ⟨us,[]⟩=pure (ps.zip us)):Binds K fd ps []:=by
 obtain⟨oc,od,kV,doc,pm,an,cdv,ct,osl,rfl,lk,hcd⟩:=F.ex
 exact .all (h kV doc pm an cdv ct)
theorem D9{x qual:Str}{st:Stmt}{f:Addr}{oc:Value}{od an:Option Addr}{osl:Array (Option Value)}{kV doc pm cdv ct:Value}(l:K.lookup f=some ⟨oc,od,.func (PySem.W.fnOf x qual (js st) (gf st) (ai st) .none kV doc pm an cdv ct),osl⟩)
 (c:PySem.W.codeIn K cdv qual=true) (k:PySem.W.keepIn K (.ref f)=true):m_ K x qual st f (PySem.W.fnOf x qual (js st) (gf st) (ai st) .none kV doc pm an cdv ct):=⟨⟨oc,od,kV,doc,pm,an,cdv,ct,osl,rfl,l,c⟩,k⟩
end
section
variable {X:Cx}
end
theorem eO{A B:Prop}(h:A):if true=true then A else B:=by
 rw[if_pos rfl]
 exact h
noncomputable def Er(H H':Hp):Prop:=∀b o,H b=some o→H' b=some o
end L2
set_option maxHeartbeats 4000000
namespace Hd
open PySem PySem.W PySem.Calls PyProof.Rows
noncomputable def bt (P:Params):BT:=(.node (boot_o_0 P) (.node (boot_o_1 P) (.node (boot_o_3 P) (.node (boot_o_7 P) .nil .nil) .nil) (.node (boot_o_5 P) (.node (boot_o_9 P) .nil .nil) .nil)) (.node (boot_o_2 P) (.node (boot_o_4 P) (.node (boot_o_8 P) .nil .nil) .nil) (.node (boot_o_6 P) (.node (boot_o_10 P) .nil .nil) .nil)))
theorem Kr(P:Params):absHeap (bt P) 11 (boot_heap P).life=boot_heap P:=by kernel_rfl
noncomputable def run (p:Program) (w:World) (n:Nat) (ann:Option Value):Nat→SharedT→Thread→Option SharedT
 |0,_,_=>none
 |k+1,s,t=>match through t with
  |true=>some s
  |false=>match Fast.tw6613529449190102663 n ann t with
   |false=>none
   |true=>match Fast.tw10156331382660048174 (Fast.tw11892475500146522536 Fast.tw14364793385576792824) p w s t with
    |some (s',t')=>run p w n ann k s' t'
    |none=>none
theorem DZ{p:Program}{w:World}{n:Nat}{ann:Option Value}:∀ {k:Nat} {s s':SharedT} {t:Thread},run p w n ann k s t=some s'→topRun treeTable p w n ann k s.abs t=some s'.abs
 |0,_,_,_,h=>by cases h
 |k+1,s,s',t,h=>by
  unfold run at h
  unfold topRun
  cases he:through t with
  |true=>rw[he]at h;cases h;rfl
  |false=>
   rw[he]at h
   rw[←Fast.te6613529449190102663,←Fast.te10156331382660048174,←Fast.te11892475500146522536,←Fast.te14364793385576792824]at h
   cases hk:stepOk n ann t with
   |false=>simp only[hk]at h;cases h
   |true=>
    simp only[hk]at h
    cases hs:stepT (denote treeTable) p w s t with
    |none=>rw[hs]at h;cases h
    |some r=>obtain⟨s2,t2⟩:=r;rw[hs]at h;rw[stepT_spec hs];exact DZ h
noncomputable def b0 (w:World) (os:OsState):SharedT:=⟨bt w.params,11,(boot_heap w.params).life,⟨[]⟩,boot_drawn,boot_toks,os⟩
theorem Kc(w:World)(os:OsState):(b0 w os).abs=⟨boot_heap w.params,⟨[]⟩,boot_drawn,boot_toks,os⟩:=by
 unfold b0 SharedT.abs
 dsimp only
 rw[Kr]
theorem left{p q:Program}{loose:List Str}{α:Type}{Yf:Shared→α}{Ya:World→α}{N:Nat}
 (e:opening p=plainProg p.main.scope.names) (f:∀s,fenceModules? p s=some s) (hN:Nat.ble 600 N=true)
 (h:∀(w:World) (os:OsState),(run p w 11 (some (.ref 6)) N (b0 w os) (topStub p)).bind (fun s=>match staticsOk (importedModules p.main.body) (boot_heap w.params) s.abs.heap&&namesBound p s.abs.heap&&gensDone s.abs&&laidKept (boot_heap w.params) s.abs.heap with
   |true=>some (Fast.tw4187177175401517315 q loose (importedModules p.main.body) (fun _=>true) true s.abs,Yf s.abs)
   |false=>none)=some (openGood q loose,Ya w)):LeftO p q loose (fun _=>true) Yf Ya N:=fun w=>by
 obtain⟨⟨hp,gs,d,k,os⟩,e1,e2⟩:=Option.map_eq_some_iff.mp (boot_open e hN f w)
 obtain⟨rfl,rfl,rfl,rfl⟩:hp=boot_heap w.params∧gs=⟨[]⟩∧d=boot_drawn∧k=boot_toks:=by simpa using e2
 obtain⟨s,r1,r2⟩:=Option.bind_eq_some_iff.mp (h w os)
 have r3:=DZ r1
 rw[Kc]at r3
 rw[←Fast.te4187177175401517315]at r2
 unfold openEnds
 rw[e1]
 show(topFrom treeTable p w N _).map _=_
 unfold topFrom
 rw[show((boot_heap w.params).isNs mainGlobals&&(⟨[]⟩:Array GenState).size==0)=true from by kernel_rfl]
 dsimp only
 rw[show(boot_heap w.params).objs.size=11 from by kernel_rfl,show(boot_heap w.params).nsMap mainGlobals "__annotations__"=some (.ref 6)from by kernel_rfl,r3]
 show((match staticsOk (importedModules p.main.body) (boot_heap w.params) s.abs.heap&&namesBound p s.abs.heap&&gensDone s.abs&&laidKept (boot_heap w.params) s.abs.heap with|true=>some s.abs|false=>none):Option Shared).map _=_
 cases z:(staticsOk (importedModules p.main.body) (boot_heap w.params) s.abs.heap&&namesBound p s.abs.heap&&gensDone s.abs&&laidKept (boot_heap w.params) s.abs.heap)with
 |false=>rw[z]at r2;cases r2
 |true=>rw[z]at r2;exact r2
noncomputable abbrev e(x:Str)(t:Nat)(v:Value):Str×Nat×Value:=(x,t,v)
noncomputable abbrev k(a:Addr)(o:Obj):Addr×Obj:=(a,o)
noncomputable def no(P:Params)(n:Nat)(l:List (Str×Nat×Value)):Obj:=⟨.type "dict",none,.dict (l.map fun e=>⟨PyData.keyHash P e.1,.str e.1 e.2.1,e.2.2⟩).toArray n,#[]⟩
noncomputable def fd(st:Stmt)(x q:Str)(pm:Value)(c:Addr):FuncData:=fnOf x q (L2.js st) (L2.gf st) (L2.ai st) .none .none .none pm none (.ref c) .none
noncomputable def fq(st:Stmt)(x q:Str)(pm:Value)(c:Addr):Obj:=⟨.type "function",none,.func (fd st x q pm c),#[]⟩
noncomputable def co(x q:Str)(t:Nat)(line argc:Int)(a b:Addr)(u v:Value)(d:Addr)(i:Int)(z:Nat):Obj:=⟨.type "code",none,.fields #[.str x t,.str q (t+1),.str "/claim/cut.py" (t+2),.int line 0,.int argc 0,.int 0 0,.int 0 0,.int 3 0,.ref a,.bool true,.int 181 0,.ref b,.none,u,v,.ref d,.int i 0,.int line 0,.str "/claim/cut.py" z],#[]⟩
end Hd
namespace Row
open PySem L2
open PySem.Spec hiding items?
open PyProof.Rows hiding St
noncomputable def top(i:Nat):Stmt:=PySem.Challenge.pw_latticeworks_k18_whole_inside_by_the_for.main.body.getD i (.Pass ⟨0,0,0,0⟩)
noncomputable abbrev PW:Program:=PySem.Challenge.pw_latticeworks_k18_whole_inside_by_the_for
noncomputable abbrev gN:Stmt:=top 1
noncomputable abbrev gJ:Stmt:=top 2
noncomputable abbrev e_:Stmt:=top 3
noncomputable abbrev eN:Stmt:=top 4
noncomputable abbrev kH:Stmt:=top 6
noncomputable abbrev oW:Stmt:=top 7
noncomputable abbrev oY:Stmt:=top 8
noncomputable abbrev mN:Stmt:=top 9
noncomputable abbrev mV:Stmt:=top 10
noncomputable abbrev oV:Stmt:=top 11
noncomputable abbrev mT:Stmt:=top 12
noncomputable abbrev jz:Stmt:=top 13
noncomputable abbrev iq:Stmt:=top 15
noncomputable abbrev kq:Stmt:=top 16
noncomputable abbrev kj:Stmt:=top 17
noncomputable abbrev jn:Stmt:=top 18
noncomputable abbrev eK:Stmt:=top 19
noncomputable abbrev gw:Stmt:=top 20
noncomputable abbrev fM:Stmt:=top 21
noncomputable abbrev jF:Stmt:=top 23
noncomputable abbrev dF:Stmt:=top 24
noncomputable abbrev gQ:Stmt:=top 25
noncomputable abbrev iB:Stmt:=top 26
noncomputable abbrev cL:Stmt:=inClass (top 27) 0
noncomputable abbrev f6:Stmt:=inClass (top 27) 1
noncomputable abbrev eg:Stmt:=inClass (top 27) 2
noncomputable abbrev dv:Stmt:=inClass (top 27) 3
noncomputable abbrev cR:Stmt:=inClass (top 27) 4
noncomputable abbrev ff:Stmt:=inClass (top 27) 5
noncomputable abbrev dm:Stmt:=inClass (top 27) 6
noncomputable abbrev iM:Stmt:=top 28
noncomputable abbrev jI:Stmt:=top 29
noncomputable abbrev mW:Stmt:=top 30
noncomputable abbrev gT:Stmt:=top 32
noncomputable abbrev gO:Stmt:=top 33
noncomputable abbrev eH:Stmt:=top 34
noncomputable abbrev ko:Stmt:=top 35
noncomputable abbrev fL:Stmt:=top 36
noncomputable abbrev iH:Stmt:=top 37
noncomputable abbrev fi:Stmt:=top 38
noncomputable abbrev fg:Stmt:=top 39
noncomputable abbrev fe:Stmt:=top 40
noncomputable abbrev gB:Stmt:=top 42
noncomputable abbrev iC:Stmt:=top 43
noncomputable abbrev gc:Stmt:=top 44
noncomputable abbrev e8:Stmt:=top 45
noncomputable abbrev gL:Stmt:=top 46
noncomputable abbrev eJ:Stmt:=top 47
noncomputable abbrev e9:Stmt:=top 48
noncomputable abbrev mf:Stmt:=top 49
noncomputable def qb:Value:=(.str "latticeworks.kinds" 187)
noncomputable def hJ:Value:=(.str "latticeworks.fractions" 217)
noncomputable def i0:Value:=(.str "latticeworks.rows" 285)
noncomputable def dA:Value:=(.str "latticeworks.standing" 335)
noncomputable def fX:Value:=(.str "latticeworks.inside" 486)
noncomputable def gG:Value:=(.str "law_latticeworks_k18_whole_inside_by_the_for" 570)
noncomputable def KX(P:Params):PySem.W.Frag:=[Hd.k 3 (Hd.no P 53 [Hd.e "__name__" 165 (.str "law_latticeworks_k18_whole_inside_by_the_for" 570),Hd.e "__doc__" 166 .none,Hd.e "__package__" 167 .none,Hd.e "__loader__" 168 (.builtin "__main__.__loader__#opaque"),Hd.e "__spec__" 169 .none,Hd.e "__annotations__" 170 (.ref 6),Hd.e "__builtins__" 171 (.ref 4),Hd.e "__file__" 173 (.str "/claim/cut.py" 172),Hd.e "__cached__" 174 .none,Hd.e "is_number" 195 (.ref 21),Hd.e "is_listed" 202 (.ref 28),Hd.e "is_listed_of" 210 (.ref 35),Hd.e "are_numbers" 216 (.ref 40),Hd.e "common" 229 (.ref 47),Hd.e "part" 238 (.ref 54),Hd.e "plus" 246 (.ref 61),Hd.e "minus" 254 (.ref 68),Hd.e "times" 262 (.ref 75),Hd.e "over" 270 (.ref 82),Hd.e "whole" 277 (.ref 89),Hd.e "is_part" 284 (.ref 96),Hd.e "as_rows" 292 (.ref 101),Hd.e "added" 298 (.ref 106),Hd.e "sum_by" 310 (.ref 113),Hd.e "column" 316 (.ref 118),Hd.e "turned_over" 322 (.ref 123),Hd.e "unit_row" 328 (.ref 128),Hd.e "unit_rows" 334 (.ref 133),Hd.e "lead_of" 345 (.ref 140),Hd.e "nearest_quotient" 353 (.ref 147),Hd.e "exchanged" 363 (.ref 154),Hd.e "negated" 369 (.ref 159),Hd.e "Bench" 453 (.ref 214),Hd.e "standing" 464 (.ref 225),Hd.e "weighed" 477 (.ref 232),Hd.e "falls" 485 (.ref 239),Hd.e "parts_dot" 498 (.ref 246),Hd.e "bottom_at" 508 (.ref 253),Hd.e "parts_against" 521 (.ref 260),Hd.e "inside" 532 (.ref 267),Hd.e "are_parts" 538 (.ref 272),Hd.e "is_whole" 545 (.ref 279),Hd.e "parts_show" 551 (.ref 284),Hd.e "weights_show" 560 (.ref 291),Hd.e "shows_inside" 569 (.ref 298),Hd.e "_law_hand" 577 (.ref 303),Hd.e "_law_draw" 589 (.ref 310),Hd.e "_law_number" 598 (.ref 317),Hd.e "_law_rows" 604 (.ref 322),Hd.e "_law_sizes" 611 (.ref 329),Hd.e "_law_some_rows" 621 (.ref 336),Hd.e "_law_cases" 627 (.ref 341),Hd.e "law" 633 (.ref 346)]),
 Hd.k 20 (Hd.co "is_number" "is_number" 189 2 1 15 16 (.ref 17) (.ref 18) 19 193 194),
 Hd.k 21 (Hd.fq gN "is_number" "is_number" qb 20),
 Hd.k 27 (Hd.co "is_listed" "is_listed" 196 4 1 22 23 (.ref 24) (.ref 25) 26 200 201),
 Hd.k 28 (Hd.fq gJ "is_listed" "is_listed" qb 27),
 Hd.k 34 (Hd.co "is_listed_of" "is_listed_of" 203 6 2 29 30 (.ref 31) (.ref 32) 33 208 209),
 Hd.k 35 (Hd.fq e_ "is_listed_of" "is_listed_of" qb 34),
 Hd.k 39 (Hd.co "are_numbers" "are_numbers" 211 8 2 36 37 .none .none 38 214 215),
 Hd.k 40 (Hd.fq eN "are_numbers" "are_numbers" qb 39),
 Hd.k 46 (Hd.co "common" "common" 219 11 2 41 42 (.ref 43) (.ref 44) 45 227 228),
 Hd.k 47 (Hd.fq kH "common" "common" hJ 46),
 Hd.k 53 (Hd.co "part" "part" 230 19 2 48 49 (.ref 50) (.ref 51) 52 236 237),
 Hd.k 54 (Hd.fq oW "part" "part" hJ 53),
 Hd.k 60 (Hd.co "plus" "plus" 239 24 2 55 56 (.ref 57) (.ref 58) 59 244 245),
 Hd.k 61 (Hd.fq oY "plus" "plus" hJ 60),
 Hd.k 67 (Hd.co "minus" "minus" 247 26 2 62 63 (.ref 64) (.ref 65) 66 252 253),
 Hd.k 68 (Hd.fq mN "minus" "minus" hJ 67),
 Hd.k 74 (Hd.co "times" "times" 255 28 2 69 70 (.ref 71) (.ref 72) 73 260 261),
 Hd.k 75 (Hd.fq mV "times" "times" hJ 74),
 Hd.k 81 (Hd.co "over" "over" 263 30 2 76 77 (.ref 78) (.ref 79) 80 268 269),
 Hd.k 82 (Hd.fq oV "over" "over" hJ 81),
 Hd.k 88 (Hd.co "whole" "whole" 271 32 1 83 84 (.ref 85) (.ref 86) 87 275 276),
 Hd.k 89 (Hd.fq mT "whole" "whole" hJ 88),
 Hd.k 95 (Hd.co "is_part" "is_part" 278 34 1 90 91 (.ref 92) (.ref 93) 94 282 283),
 Hd.k 96 (Hd.fq jz "is_part" "is_part" hJ 95),
 Hd.k 100 (Hd.co "as_rows" "as_rows" 287 37 1 97 98 .none .none 99 290 291),
 Hd.k 101 (Hd.fq iq "as_rows" "as_rows" i0 100),
 Hd.k 105 (Hd.co "added" "added" 293 39 3 102 103 .none .none 104 296 297),
 Hd.k 106 (Hd.fq kq "added" "added" i0 105),
 Hd.k 112 (Hd.co "sum_by" "sum_by" 299 41 3 107 108 (.ref 109) (.ref 110) 111 308 309),
 Hd.k 113 (Hd.fq kj "sum_by" "sum_by" i0 112),
 Hd.k 117 (Hd.co "column" "column" 311 46 2 114 115 .none .none 116 314 315),
 Hd.k 118 (Hd.fq jn "column" "column" i0 117),
 Hd.k 122 (Hd.co "turned_over" "turned_over" 317 48 2 119 120 .none .none 121 320 321),
 Hd.k 123 (Hd.fq eK "turned_over" "turned_over" i0 122),
 Hd.k 127 (Hd.co "unit_row" "unit_row" 323 50 2 124 125 .none .none 126 326 327),
 Hd.k 128 (Hd.fq gw "unit_row" "unit_row" i0 127),
 Hd.k 132 (Hd.co "unit_rows" "unit_rows" 329 52 1 129 130 .none .none 131 332 333),
 Hd.k 133 (Hd.fq fM "unit_rows" "unit_rows" i0 132),
 Hd.k 139 (Hd.co "lead_of" "lead_of" 337 55 1 134 135 (.ref 136) (.ref 137) 138 343 344),
 Hd.k 140 (Hd.fq jF "lead_of" "lead_of" dA 139),
 Hd.k 146 (Hd.co "nearest_quotient" "nearest_quotient" 346 60 2 141 142 (.ref 143) (.ref 144) 145 351 352),
 Hd.k 147 (Hd.fq dF "nearest_quotient" "nearest_quotient" dA 146),
 Hd.k 153 (Hd.co "exchanged" "exchanged" 354 62 3 148 149 (.ref 150) (.ref 151) 152 361 362),
 Hd.k 154 (Hd.fq gQ "exchanged" "exchanged" dA 153),
 Hd.k 158 (Hd.co "negated" "negated" 364 67 1 155 156 .none .none 157 367 368),
 Hd.k 159 (Hd.fq iB "negated" "negated" dA 158),
 Hd.k 170 (Hd.co "__init__" "Bench.__init__" 382 71 2 167 168 .none .none 169 385 386),
 Hd.k 171 (Hd.fq cL "__init__" "Bench.__init__" dA 170),
 Hd.k 177 (Hd.co "take" "Bench.take" 388 76 4 172 173 (.ref 174) (.ref 175) 176 395 396),
 Hd.k 178 (Hd.fq f6 "take" "Bench.take" dA 177),
 Hd.k 184 (Hd.co "exchange" "Bench.exchange" 398 81 3 179 180 (.ref 181) (.ref 182) 183 404 405),
 Hd.k 185 (Hd.fq eg "exchange" "Bench.exchange" dA 184),
 Hd.k 191 (Hd.co "change_sign" "Bench.change_sign" 407 86 2 186 187 (.ref 188) (.ref 189) 190 412 413),
 Hd.k 192 (Hd.fq dv "change_sign" "Bench.change_sign" dA 191),
 Hd.k 196 (Hd.co "live_rows" "Bench.live_rows" 415 91 3 193 194 .none .none 195 418 419),
 Hd.k 197 (Hd.fq cR "live_rows" "Bench.live_rows" dA 196),
 Hd.k 203 (Hd.co "gather" "Bench.gather" 421 95 3 198 199 (.ref 200) (.ref 201) 202 430 431),
 Hd.k 204 (Hd.fq ff "gather" "Bench.gather" dA 203),
 Hd.k 210 (Hd.co "lower_above" "Bench.lower_above" 433 109 3 205 206 (.ref 207) (.ref 208) 209 440 441),
 Hd.k 211 (Hd.fq dm "lower_above" "Bench.lower_above" dA 210),
 Hd.k 213 (Hd.no P 4 [Hd.e "__module__" 377 (.str "latticeworks.standing" 335),Hd.e "__firstlineno__" 381 (.int (69) 380),Hd.e "__init__" 387 (.ref 171),Hd.e "take" 397 (.ref 178),Hd.e "exchange" 406 (.ref 185),Hd.e "change_sign" 414 (.ref 192),Hd.e "live_rows" 420 (.ref 197),Hd.e "gather" 432 (.ref 204),Hd.e "lower_above" 442 (.ref 211),Hd.e "__static_attributes__" 446 (.ref 212),Hd.e "__dict__" 448 (.ref 215),Hd.e "__weakref__" 450 (.ref 216),Hd.e "__doc__" 451 .none]),
 Hd.k 214 (⟨(.type "type"),none,.cls {name:="Bench",bases:=[(.type "object")],mro:=[(.ref 214),(.type "object")],ns:=213,qualname:="Bench",hasDict:=true,subclasses:=[],abstract:=false,hasDel:=false},#[none,none,(some (.str "Bench" 370)),(some (.str "Bench" 378)),(some (.builtin "object.__new__")),(some (.bool true))]⟩),
 Hd.k 224 (Hd.co "standing" "standing" 454 112 1 219 220 (.ref 221) (.ref 222) 223 462 463),
 Hd.k 225 (Hd.fq iM "standing" "standing" dA 224),
 Hd.k 231 (Hd.co "weighed" "weighed" 465 121 2 226 227 (.ref 228) (.ref 229) 230 475 476),
 Hd.k 232 (Hd.fq jI "weighed" "weighed" dA 231),
 Hd.k 238 (Hd.co "falls" "falls" 478 130 2 233 234 (.ref 235) (.ref 236) 237 483 484),
 Hd.k 239 (Hd.fq mW "falls" "falls" dA 238),
 Hd.k 245 (Hd.co "parts_dot" "parts_dot" 488 133 2 240 241 (.ref 242) (.ref 243) 244 496 497),
 Hd.k 246 (Hd.fq gT "parts_dot" "parts_dot" fX 245),
 Hd.k 252 (Hd.co "bottom_at" "bottom_at" 499 138 3 247 248 (.ref 249) (.ref 250) 251 506 507),
 Hd.k 253 (Hd.fq gO "bottom_at" "bottom_at" fX 252),
 Hd.k 259 (Hd.co "parts_against" "parts_against" 509 143 2 254 255 (.ref 256) (.ref 257) 258 519 520),
 Hd.k 260 (Hd.fq eH "parts_against" "parts_against" fX 259),
 Hd.k 266 (Hd.co "inside" "inside" 522 153 2 261 262 (.ref 263) (.ref 264) 265 530 531),
 Hd.k 267 (Hd.fq ko "inside" "inside" fX 266),
 Hd.k 271 (Hd.co "are_parts" "are_parts" 533 160 2 268 269 .none .none 270 536 537),
 Hd.k 272 (Hd.fq fL "are_parts" "are_parts" fX 271),
 Hd.k 278 (Hd.co "is_whole" "is_whole" 539 162 1 273 274 (.ref 275) (.ref 276) 277 543 544),
 Hd.k 279 (Hd.fq iH "is_whole" "is_whole" fX 278),
 Hd.k 283 (Hd.co "parts_show" "parts_show" 546 164 3 280 281 .none .none 282 549 550),
 Hd.k 284 (Hd.fq fi "parts_show" "parts_show" fX 283),
 Hd.k 290 (Hd.co "weights_show" "weights_show" 552 168 3 285 286 (.ref 287) (.ref 288) 289 558 559),
 Hd.k 291 (Hd.fq fg "weights_show" "weights_show" fX 290),
 Hd.k 297 (Hd.co "shows_inside" "shows_inside" 561 170 3 292 293 (.ref 294) (.ref 295) 296 567 568),
 Hd.k 298 (Hd.fq fe "shows_inside" "shows_inside" fX 297),
 Hd.k 302 (Hd.co "_law_hand" "_law_hand" 572 177 1 299 300 .none .none 301 575 576),
 Hd.k 303 (Hd.fq gB "_law_hand" "_law_hand" gG 302),
 Hd.k 309 (Hd.co "_law_draw" "_law_draw" 578 179 2 304 305 (.ref 306) (.ref 307) 308 587 588),
 Hd.k 310 (Hd.fq iC "_law_draw" "_law_draw" gG 309),
 Hd.k 316 (Hd.co "_law_number" "_law_number" 590 195 2 311 312 (.ref 313) (.ref 314) 315 596 597),
 Hd.k 317 (Hd.fq gc "_law_number" "_law_number" gG 316),
 Hd.k 321 (Hd.co "_law_rows" "_law_rows" 599 200 4 318 319 .none .none 320 602 603),
 Hd.k 322 (Hd.fq e8 "_law_rows" "_law_rows" gG 321),
 Hd.k 328 (Hd.co "_law_sizes" "_law_sizes" 605 215 1 323 324 (.ref 325) (.ref 326) 327 609 610),
 Hd.k 329 (Hd.fq gL "_law_sizes" "_law_sizes" gG 328),
 Hd.k 335 (Hd.co "_law_some_rows" "_law_some_rows" 612 219 2 330 331 (.ref 332) (.ref 333) 334 619 620),
 Hd.k 336 (Hd.fq eJ "_law_some_rows" "_law_some_rows" gG 335),
 Hd.k 340 (Hd.co "_law_cases" "_law_cases" 622 222 2 337 338 .none .none 339 625 626),
 Hd.k 341 (Hd.fq e9 "_law_cases" "_law_cases" gG 340),
 Hd.k 345 (Hd.co "law" "law" 628 232 1 342 343 .none .none 344 631 632),
 Hd.k 346 (Hd.fq mf "law" "law" gG 345)]
noncomputable def KA:List Addr:=[3,20,21,27,28,34,35,39,40,46,47,53,54,60,61,67,68,74,75,81,82,88,89,95,96,100,101,105,106,112,113,117,118,122,123,127,128,132,133,139,140,146,147,153,154,158,159,170,171,177,178,184,185,191,192,196,197,203,204,210,211,213,214,224,225,231,232,238,239,245,246,252,253,259,260,266,267,271,272,278,279,283,284,290,291,297,298,302,303,309,310,316,317,321,322,328,329,335,336,340,341,345,346]
set_option maxHeartbeats 0 in
theorem left:PySem.W.LeftO PW (PySem.W.view PW [1,2,3,4,6,7,8,9,10,11,12,13,15,16,17,18,19,20,21,23,24,25,26,27,28,29,30,32,33,34,35,36,37,38,39,40,42,43,44,45,46,47,48,49]) [] (fun _=>true) (PySem.W.kmHook Row.KX Row.KA (fun _=>rfl) [194]).obs (PySem.W.kmHook Row.KX Row.KA (fun _=>rfl) [194]).val 3606:=
 Hd.left (by kernel_rfl) (fun s=>by kernel_rfl) rfl fun w os=>by kernel_rfl
end Row
namespace L3
open PySem PySem.Spec PyProof.Rows L2
section
variable {prog:Program}{w:World}{A:Around}{R:Result→Shared→Prop}{s:Shared}
theorem zG{elt target iter:Expr}{ifs:List Expr}{scope:Scope}{pos:Pos}{it acc:Value}{env:Env}(I:Nat→Shared→Prop)
 (turn:∀n s,I n s→wpAny (model prog w) A (pyNext it) (fun r s₁=>match r with
   |none=>R (.ok .next) s₁
   |some v=>wpAny (model prog w) A (letOwnedTupleGo target it v) (fun _ s₀=>wpAny (model prog w) A (assign target env v) (fun _ s₂=>
     wpAny (model prog w) A (forIn ifs true fun c r=>if r=true then do let ok ←isTrue c env (eval c env);pure (ForInStep.yield ok)else pure (ForInStep.yield r)) (fun ok s₃=>
      if ok=true then wpAny (model prog w) A (eval elt env) (fun x s₄=>
       wpAny (model prog w) A (call (.builtin "list.append") [acc,x]) (fun _ s₅=>∃m,m<n∧I m s₅) (fun _ _=>False) s₄) (fun _ _=>False) s₃
      else∃m,m<n∧I m s₃) (fun _ _=>False) s₂) (fun _ _=>False) s₀) (fun _ _=>False) s₁) (fun _ _=>False) s)
 (n:Nat) (h:I n s):
 codeAny (model prog w) A (.compLoop (.ListComp elt [⟨target,iter,ifs,0⟩] scope pos) 0 it acc env) R s:=by
 refine codeAny_loop rfl I (fun n s hI=>?_) n h
 show wpAny _ A ((compTurn (.ListComp elt [⟨target,iter,ifs,0⟩] scope pos) 0 it acc env).onRaise (fun x=>do noteFrame x env;theTreesLotGoes x)) _ _ s
 refine wpAny_noted ?_
 rw[compTurn_list]
 refine wpAny_bind (wpAny_standAt (wpAny_bind (wpAny_mono (turn n s hI) (fun r s₁ h₁=>?_) fun _ _ h'=>h'.elim)))
 cases r with
 |none=>exact wpAny_pure h₁
 |some v=>
  refine wpAny_bind (wpAny_mono h₁ (fun _ s₀ h₀=>?_) fun _ _ h'=>h'.elim)
  refine wpAny_bind (wpAny_mono h₀ (fun _ s₂ h₂=>wpAny_bind (wpAny_mono h₂ (fun ok s₃ h₃=>?_) fun _ _ h'=>h'.elim)) fun _ _ h'=>h'.elim)
  cases ok with
  |false=>exact wpAny_pure ⟨rfl,h₃⟩
  |true=>
   exact wpAny_bind (wpAny_bind (wpAny_mono h₃ (fun x s₄ h₄=>wpAny_bind (wpAny_mono h₄ (fun _ s₅ h₅=>wpAny_pure (wpAny_pure ⟨rfl,h₅⟩)) fun _ _ h'=>h'.elim)) fun _ _ h'=>h'.elim))
end
noncomputable def cZ(cells:List (Str×Addr)):List (Str×NameKind)→List (Str×Addr)→List (Str×Addr)
 | [],acc=>acc
 |(n,k)::r,acc=>if k== .free then(match cells.lookup n with|some c=>cZ cells r ((n,c)::acc)|none=>cZ cells r acc)else cZ cells r acc
theorem cK{cells:List (Str×Addr)}:∀(names:List (Str×NameKind)) (acc:List (Str×Addr)),(∀x c,acc.lookup x=some c→cells.lookup x=some c)→
 ∀x c,(cZ cells names acc).lookup x=some c→cells.lookup x=some c
 | [],acc,h,x,c,e=>h x c e
 |(n,k)::r,acc,h,x,c,e=>by
  unfold cZ at e
  split at e
  · split at e
    · rename_i d q
      refine cK r _ (fun y b e'=>?_) x c e
      rw[List.lookup_cons]at e'
      split at e'
      · rename_i z
        cases e'
        have z':y=n:=by simpa using z
        rw[z'];exact q
      · exact h y b e'
    · exact cK r _ h x c e
  · exact cK r _ h x c e
theorem h8{cells:List (Str×Addr)}{x:Str}:∀(names:List (Str×NameKind)) (acc:List (Str×Addr)),(∃c,cells.lookup x=some c)→((x,NameKind.free)∈names∨∃c,acc.lookup x=some c)→
 ∃c,(cZ cells names acc).lookup x=some c
 | [],acc,_,h=>by
   rcases h with h|h
   · simp at h
   · exact h
 |(n,k)::r,acc,hc,h=>by
  unfold cZ
  split
  · rename_i hk
    split
    · rename_i d q
      refine h8 r _ hc ?_
      rcases h with h|⟨c,h⟩
      · rcases List.mem_cons.mp h with e|e
        · cases e
          exact .inr ⟨d,by simp[List.lookup_cons]⟩
        · exact .inl e
      · refine .inr ?_
        rw[List.lookup_cons]
        split
        · exact⟨_,rfl⟩
        · exact⟨c,h⟩
    · rename_i q
      refine h8 r _ hc ?_
      rcases h with h|h
      · rcases List.mem_cons.mp h with e|e
        · cases e
          obtain⟨c,hc⟩:=hc
          rw[hc]at q;cases q
        · exact .inl e
      · exact .inr h
  · rename_i hk
    refine h8 r _ hc ?_
    rcases h with h|h
    · rcases List.mem_cons.mp h with e|e
      · cases e
        exact absurd rfl hk
      · exact .inl e
    · exact .inr h
theorem lZ{scope:Scope}{env:Env}(h:∀x∈scope.names,x.2= .free→∃c,env.cells.lookup x.1=some c):closureFor scope env=pure (cZ env.cells scope.names []):=by
 have key:∀(names:List (Str×NameKind)) (acc:List (Str×Addr)),(∀x∈names,x.2= .free→∃c,env.cells.lookup x.1=some c)→
  (forIn names acc (fun(x:Str×NameKind) (cs:List (Str×Addr))=>if(x.2==NameKind.free)=true then(do let a ←cellOf env x.1;pure (ForInStep.yield ((x.1,a)::cs)):Sem (ForInStep (List (Str×Addr))))else pure (ForInStep.yield cs)))=(pure (cZ env.cells names acc):Sem (List (Str×Addr))):=by
  intro names
  induction names with
  |nil=>intro acc _;rfl
  |cons p r ih=>
   intro acc hh
   obtain⟨n,k⟩:=p
   rw[List.forIn_cons]
   have ih':=ih
   by_cases hk:(k==NameKind.free)=true
   · obtain⟨c,e⟩:=hh (n,k) List.mem_cons_self (by simpa using hk)
     simp only[hk,if_true]
     have e1:cellOf env n=pure c:=by
      unfold cellOf
      rw[e]
     rw[e1]
     simp only[pure_bind]
     rw[ih _ fun x hx=>hh x (List.mem_cons_of_mem _ hx)]
     conv=>rhs;unfold cZ
     simp only[hk,if_true]
     rw[show env.cells.lookup n=some c from e]
   · have hk':(k==NameKind.free)=false:=by simpa using hk
     simp only[hk',Bool.false_eq_true,if_false,pure_bind]
     rw[ih _ fun x hx=>hh x (List.mem_cons_of_mem _ hx)]
     conv=>rhs;unfold cZ
     simp only[hk',Bool.false_eq_true,if_false]
 unfold closureFor
 have:=key scope.names [] h
 rw[bind_pure]
 first
  |exact this
  |(simp only[bind_pure]at this⊢;exact this)
end L3
namespace L3
open PySem PySem.Spec L2
open PyProof.Rows hiding St
theorem iJ(env:Env):∀(names:List (Str×NameKind)) (x:Str),
 (names.map fun(n,k)=>if(k==NameKind.free&&env.scope.kind== .function&&env.kindOf n==some .cell)then(n,NameKind.cell)else(n,k)).lookup x=
   (names.lookup x).map fun k=>if(k==NameKind.free&&env.scope.kind== .function&&env.kindOf x==some .cell)then NameKind.cell else k
 | [],_=>rfl
 |(n,k)::r,x=>by
  show List.lookup x ((if(k==NameKind.free&&env.scope.kind== .function&&env.kindOf n==some .cell)=true then(n,NameKind.cell)else(n,k))::_)=_
  cases hx:x==n with
  |true=>
   have e:x=n:=by simpa using hx
   subst e
   by_cases hc:(k==NameKind.free&&env.scope.kind== .function&&env.kindOf x==some .cell)=true
   · rw[if_pos hc];simp only[List.lookup_cons,beq_self_eq_true,Option.map_some];rw[if_pos hc]
   · rw[if_neg hc];simp only[List.lookup_cons,beq_self_eq_true,Option.map_some];rw[if_neg hc]
  |false=>
   by_cases hc:(k==NameKind.free&&env.scope.kind== .function&&env.kindOf n==some .cell)=true
   · rw[if_pos hc];simp only[List.lookup_cons,hx];exact iJ env r x
   · rw[if_neg hc];simp only[List.lookup_cons,hx];exact iJ env r x
theorem yr{env:Env}{scope:Scope}{x:Str}(h:scope.names.lookup x=some .free):(relabel scope env).names.lookup x=some .cell∨(relabel scope env).names.lookup x=some .free:=by
 have e:(relabel scope env).names.lookup x=_:=iJ env scope.names x
 rw[e,h]
 simp only[Option.map_some]
 split
 · exact .inl rfl
 · exact .inr rfl
theorem yp{env:Env}{scope:Scope}{x:Str}(h:(relabel scope env).names.lookup x=some .cell∨(relabel scope env).names.lookup x=some .free):(x,NameKind.free)∈scope.names∨scope.names.lookup x=some .cell:=by
 have e:(relabel scope env).names.lookup x=_:=iJ env scope.names x
 rw[e]at h
 cases q:scope.names.lookup x with
 |none=>rw[q]at h;rcases h with h|h<;>cases h
 |some k=>
  rw[q]at h
  simp only[Option.map_some]at h
  have m:=PySem.mem_of_lookup q
  by_cases hc:(k==NameKind.free&&env.scope.kind== .function&&env.kindOf x==some .cell)=true
  · have:k= .free:=by
     simp only[Bool.and_eq_true]at hc
     simpa using hc.1.1
    subst this;exact .inl m
  · rw[if_neg hc]at h
    rcases h with h|h
    · cases h;exact .inr rfl
    · cases h;exact .inl m
theorem fG:∀(names:List (Str×NameKind)) (L:Nat) (acc:List (Str×Addr)),cellsFrom L names acc=cellsFrom L names []++acc
 | [],_,_=>rfl
 |(n,k)::r,L,acc=>by
  unfold cellsFrom
  by_cases hk:(k==NameKind.cell)=true
  · rw[if_pos hk,if_pos hk,fG r (L+1) ((n,L)::acc),fG r (L+1) [(n,L)],List.append_assoc];rfl
  · rw[if_neg hk,if_neg hk];exact fG r L acc
theorem qx:∀ {names:List (Str×NameKind)} {L:Nat} {x:Str} {c:Addr},(x,c)∈cellsFrom L names []→(x,NameKind.cell)∈names
 | [],_,_,_,h=>by unfold cellsFrom at h;cases h
 |(n,k)::r,L,x,c,h=>by
  unfold cellsFrom at h
  by_cases hk:(k==NameKind.cell)=true
  · rw[if_pos hk,fG]at h
    have hk':k= .cell:=by simpa using hk
    subst hk'
    rcases List.mem_append.mp h with h|h
    · exact List.mem_cons_of_mem _ (qx h)
    · have:(x,c)=(n,L):=by simpa using h
      cases this
      exact List.mem_cons_self
  · rw[if_neg hk]at h
    exact List.mem_cons_of_mem _ (qx h)
theorem pw:∀ {l1 l2:List (Str×Addr)} {x:Str} {c:Addr},(l1++l2).lookup x=some c→l1.lookup x=some c∨(l1.lookup x=none∧l2.lookup x=some c)
 | [],_,_,_,h=> .inr ⟨rfl,h⟩
 |(n,d)::l1,l2,x,c,h=>by
  rw[List.cons_append,List.lookup_cons]at h
  rw[List.lookup_cons]
  cases hx:x==n with
  |true=>rw[hx]at h;exact .inl h
  |false=>rw[hx]at h;exact pw h
theorem s_:∀ {l1 l2:List (Str×Addr)} {x:Str},l1.lookup x=none→(l1++l2).lookup x=l2.lookup x
 | [],_,_,_=>rfl
 |(n,d)::l1,l2,x,h=>by
  rw[List.lookup_cons]at h
  rw[List.cons_append,List.lookup_cons]
  cases hx:x==n with
  |true=>rw[hx]at h;cases h
  |false=>rw[hx]at h;exact s_ h
noncomputable def lh(scope:Scope)(C:Addr)(cl:List (Str×Addr)):List (Str×Addr):=cellsFrom (C+1) scope.names cl
theorem ia{scope:Scope}{C:Addr}{cl:List (Str×Addr)}{x:Str}{c:Addr}(h:(lh scope C cl).lookup x=some c):(x,c)∈cellsFrom (C+1) scope.names []∨cl.lookup x=some c:=by
 unfold lh at h
 rw[fG]at h
 rcases pw h with h|h
 · exact .inl (PySem.mem_of_lookup h)
 · exact .inr h.2
theorem IA(names:List (Str×NameKind))(h:Heap){C:Addr}(e:h.objs.size=C+1):CellsOk (pushCells h names) (C+1) (cellsFrom (C+1) names []):=by
 have:=cellsFrom_ok names h (C+1) [] ⟨fun _ _ hm=>(nomatch hm),List.Pairwise.nil⟩ (by rw[e];exact Nat.le_refl _)
 rw[e]at this
 exact this
theorem nq{names:List (Str×NameKind)}{C:Addr}{x:Str}{c:Addr}:∀ {L:Nat},C≤L→(x,c)∈cellsFrom L names []→C≤c:=by
 induction names with
 |nil=>intro L _ h;unfold cellsFrom at h;cases h
 |cons p r ih=>
  obtain⟨n,k⟩:=p
  intro L hL h
  unfold cellsFrom at h
  by_cases hk:(k==NameKind.cell)=true
  · rw[if_pos hk,fG]at h
    rcases List.mem_append.mp h with h|h
    · exact ih (Nat.le_trans hL (Nat.le_succ L)) h
    · have:(x,c)=(n,L):=by simpa using h
      cases this
      exact hL
  · rw[if_neg hk]at h
    exact ih hL h
theorem own_apart{names:List (Str×NameKind)}{x y:Str}{c:Addr}:∀ {L:Nat},(x,c)∈cellsFrom L names []→(y,c)∈cellsFrom L names []→x=y:=by
 induction names with
 |nil=>intro L h;unfold cellsFrom at h;cases h
 |cons p r ih=>
  obtain⟨n,k⟩:=p
  intro L h1 h2
  unfold cellsFrom at h1 h2
  by_cases hk:(k==NameKind.cell)=true
  · rw[if_pos hk,fG]at h1 h2
    rcases List.mem_append.mp h1 with g1|g1<;>rcases List.mem_append.mp h2 with g2|g2
    · exact ih g1 g2
    · have e2:(y,c)=(n,L):=by simpa using g2
      have ec:c=L:=(Prod.mk.inj e2).2
      have:=nq (C:=L+1) (Nat.le_refl _) g1
      rw[ec]at this
      exact absurd this (Nat.not_succ_le_self _)
    · have e1:(x,c)=(n,L):=by simpa using g1
      have ec:c=L:=(Prod.mk.inj e1).2
      have:=nq (C:=L+1) (Nat.le_refl _) g2
      rw[ec]at this
      exact absurd this (Nat.not_succ_le_self _)
    · have e1:(x,c)=(n,L):=by simpa using g1
      have e2:(y,c)=(n,L):=by simpa using g2
      exact(Prod.mk.inj e1).1.trans (Prod.mk.inj e2).1.symm
  · rw[if_neg hk]at h1 h2
    exact ih h1 h2
theorem tR{M:Model}{A:Around}{E:Value→Shared→Prop}{s:Shared}{scope:Scope}{globals:Addr}{cl:List (Str×Addr)}{qual:Str}{env:Env}{Q:Env→Shared→Prop}
 (hQ:Q (newEnv scope s.heap.objs.size globals (lh scope s.heap.objs.size cl) qual none .none (some env) builtinsNs) {s with heap:=pushCells (s.heap.push {cls:= .type "dict",data:= .dict #[]}) scope.names}):
 wpAny M A (newFunctionEnv scope globals cl [] qual none .none (some env)) Q E s:=by
 simp only[newFunctionEnv,Option.isSome_some,if_true]
 refine wpAny_bind (wpAny_alloc ?_)
 refine wpAny_bind (wpAny_layCells _ (fun name kind cells=>by cases hkc:kind==NameKind.cell<;>simp[hkc]) _ _ _ _ ?_)
 rw[show({s with heap:=s.heap.push {cls:= .type "dict",data:= .dict #[]}}:Shared).heap.objs.size=s.heap.objs.size+1 from Heap.size_push ..]
 rw[List.forIn_nil]
 exact wpAny_bind (wpAny_pure (wpAny_pure hQ))
structure bN(X:Cx)(scope:Scope)(Nc:List Str)(fr:List (Option Nat)):Prop where
 kind:scope.kind= .function
 cells:∀x∈scope.names,x.2= .cell→scope.names.lookup x.1=some .cell
 names:∀x∈scope.names,x.2= .local→scope.names.lookup x.1=some .local
 free:∀x∈scope.names,x.2= .free→X.env.kindOf x.1=some .cell∨X.env.kindOf x.1=some .free
 len:fr.length=Nc.length
 map:∀(i j:Nat) (x:Str),Nc[i]?=some x→fr[i]?=some (some j)→X.N[j]?=some x∧scope.names.lookup x=some .free∧(X.env.kindOf x=some .cell∨X.env.kindOf x=some .free)
noncomputable def σC(fr:List (Option Nat))(σ:St):St:=fr.map fun o=>o.bind fun j=>(σ[j]?).join
noncomputable def ft(X:Cx)(scope:Scope)(Nc:List Str)(C:Addr)(s:Shared)(H:Hp)(ex:List Addr):Cx:=
 {X with N:=Nc,s₀:=s,H₀:=H,env:=compEnvC scope (lh scope C (cZ X.env.cells scope.names [])) C X.env,outer:=X.stack,stack:=X.stack,ex:=ex,fn:=fun x=>scope.names.lookup x==some .cell,pn:=[],xe:=fun _ _=>False}
noncomputable def uX(wi:TI)(fr:List (Option Nat))(g:TG)(c:TT)(te:TE):TE:=fun σ H Q=>wi σ H fun J H1=>∀l,H1 l=none→
 ∃W:Nat→Nat→L2.St→Hp→Prop,(∃m,W 0 m (σC fr σ) (upd H1 l (.lst [])))∧∀i m σ H,W i m σ H→
  (J.stop i H∧Q (.ref l) H)∨(J.go i H∧∃N:L2.St→Hp→Prop,(∀σ' H',N σ' H'→∃m',m'<m∧W (i+1) m' σ' H')∧∀x H',J.nR i H x H'→
    g x σ H' fun σ2 H2=>c σ2 H2 fun b H3=>if b=true then te σ2 H3 fun y H4=>∃ys,H4 l=some (.lst ys)∧ys.length<sizeLine∧N σ2 (upd H4 l (.lst (ys++[y])))else N σ2 H3)
noncomputable def qM(X:Cx)(ifs:List Expr)(t:TT):Prop:=
 ∀(pins:List (Addr×Obj)) (s:Shared) (σ:St) (H:Hp) (Q:Bool→Hp→Prop),Inv X pins σ H s→t σ H Q→
  wpAny (model X.prog X.w) X.A (forIn ifs true fun c r=>if r=true then do let ok ←isTrue c X.env (eval c X.env);pure (ForInStep.yield ok)else pure (ForInStep.yield r)) (TP X pins σ Q) X.xe s
noncomputable def Ma:TT:=fun _ H Q=>Q true H
theorem Ie{X:Cx}:qM X [] Ma:=fun _ _ _ H _ I h=>wpAny_tests_nil ⟨H,I,h⟩
theorem Ij{X:Cx}{c:Expr}{t:TT}(h:PT X c t):qM X [c] t:=fun pins s σ H Q I q=>wpAny_tests_one (h pins s σ H Q I q)
section
variable {X:Cx}{scope:Scope}{Nc:List Str}{fr:List (Option Nat)}{pins:List (Addr×Obj)}{σ:St}{H:Hp}{s:Shared}
theorem Ju{C:Addr}{fp:List Addr}(S:bN X scope Nc fr)(I:Inv X pins σ H s)(hC:C=s.heap.objs.size)(hf:∀b∈fp,kn X pins H b)(hlt:∀b∈fp,b<s.heap.objs.size)(hnc:∀b∈fp,∀x c,X.env.cells.lookup x=some c→c≠b):
 (ft X scope Nc C s H fp).Ok where
 mod:=I.ok.mod
 kind:=S.kind
 glob:=I.ok.glob
 blt:=I.ok.blt
 above:=Nat.le_of_eq hC.symm
 inj:=fun x y c h1 h2=>by
  have low:∀ {z},(cZ X.env.cells scope.names []).lookup z=some c→c<s.heap.objs.size:=fun{z} hz=>by
   obtain⟨v,q⟩:=I.cell z c (cK _ [] (fun _ _ e=>by cases e) z c hz)
   exact q.lt
  rcases ia h1 with h1|h1<;>rcases ia h2 with h2|h2
  · exact own_apart h1 h2
  · have a:=nq (C:=C+1) (Nat.le_refl _) h1
    have b:c<C:=by rw[hC];exact low h2
    exact absurd a (Nat.not_le_of_gt (Nat.lt_succ_of_lt b))
  · have a:=nq (C:=C+1) (Nat.le_refl _) h2
    have b:c<C:=by rw[hC];exact low h1
    exact absurd a (Nat.not_le_of_gt (Nat.lt_succ_of_lt b))
  · exact I.ok.inj x y c (cK _ [] (fun _ _ e=>by cases e) x c h1) (cK _ [] (fun _ _ e=>by cases e) y c h2)
 has:=fun x hx=>by
  rcases yp hx with m|m
  · obtain⟨c,e⟩:=h8 scope.names [] (I.ok.has x (S.free _ m rfl)) (.inl m)
    exact Option.isSome_iff_exists.mp (PySem.W.cellsFrom_some _ _ _ (.inr (by rw[e];rfl)))
  · exact Option.isSome_iff_exists.mp (PySem.W.cellsFrom_some _ _ _ (.inl m))
 yT:=fun x c hf h=>by
  have hl:scope.names.lookup x=some .cell:=by
   have:(scope.names.lookup x==some .cell)=true:=hf
   simpa using this
  obtain⟨c',e⟩:=Option.isSome_iff_exists.mp (PySem.W.cellsFrom_some (x:=x) scope.names (C+1) [] (.inl hl))
  have h':(cellsFrom (C+1) scope.names []++cZ X.env.cells scope.names []).lookup x=some c:=by
   rw[←fG];exact h
  rcases pw h' with q|q
  · have:=nq (C:=C+1) (Nat.le_refl _) (PySem.mem_of_lookup q)
    show s.heap.objs.size≤c
    rw[←hC];exact Nat.le_of_succ_le this
  · rw[q.1]at e;cases e
 hd:=I.ok.hd
 frames:=I.ok.frames
 Ap:= .inl rfl
 CK:=fun b hb=>⟨by rw[show(ft X scope Nc C s H fp).env.locals=s.heap.objs.size from hC];exact Nat.ne_of_lt (hlt b hb),fun x c h=>by
  rcases ia h with h|h
  · have a:=nq (C:=C+1) (Nat.le_refl _) h
    have b':b<C:=by rw[hC];exact hlt b hb
    exact Nat.ne_of_gt (Nat.lt_of_lt_of_le b' (Nat.le_of_succ_le a))
  · exact hnc b hb x c (cK _ [] (fun _ _ e=>by cases e) x c h)⟩
 bs:=I.bs
 qu:=Nat.le_trans I.ok.qu I.sz
 tZ:=fun b o e hb=>by
  have hn:=(hf b hb).2.2.2.1
  rcases hn with hn|hn
  · exact I.ok.tZ b o e hn
  · exact absurd (Heap.lt_size (I.ok.bs b o e).1) (Nat.not_lt.mpr hn)
 tH:=fun b hb z=>by
  have q:=I.yA b z
  rcases List.mem_cons.mp q with q|q
  · exact(hf b hb).2.1 q
  · exact(hf b hb).2.2.1 q
 jU:=I.stack
 vc:=fun b hb=>I.wa b hb
 gt:=I.ok.gt
theorem Aw{i:Nat}{v:V}(h:(σC fr σ)[i]?=some (some v)):∃j,fr[i]?=some (some j)∧σ[j]?=some (some v):=by
 unfold σC at h
 rw[List.getElem?_map]at h
 cases q:fr[i]? with
 |none=>rw[q]at h;cases h
 |some o=>
  rw[q]at h
  cases o with
  |none=>simp at h
  |some j=>
   simp only[Option.map_some,Option.some.injEq,Option.bind_some]at h
   refine⟨j,rfl,?_⟩
   cases r:σ[j]? with
   |none=>rw[r]at h;cases h
   |some u=>rw[r]at h;simp at h;rw[h]
theorem FD{s':Shared}{h':Heap}{C:Addr}{fp:List Addr}{t':Nat}(S:bN X scope Nc fr)(I:Inv X pins σ H s)(hC:C=s.heap.objs.size)(ok:(ft X scope Nc C s H fp).Ok)(hfr:∀b∈fp,H b=none)
 (k:∀b o,s.heap.get? b=some o→h'.get? b=some o) (hn:h'.Ns C (fun _=>none)) (hcs:∀x c,(x,c)∈cellsFrom (C+1) scope.names []→h'.IsCell c none):Inv (ft X scope Nc C s H fp) [] (σC fr σ) H {s with heap:=h',toks:=t'} where
 ok:=ok
 os:=rfl
 bare:=I.bare
 base:=Un.kept k
 loc:=⟨_,hn,fun i x v h1 h2 h3=>by
  obtain⟨j,q1,q2⟩:=Aw h2
  obtain⟨n1,n2,n3⟩:=S.map i j x h1 q1
  obtain⟨m,hm,hl⟩:=I.loc
  have vis:xG X.env.scope x:=by
   rcases n3 with z|z
   · exact .inr (.inl z)
   · exact .inr (.inr z)
  obtain⟨u,r,lk⟩:=hl j x v n1 q2 vis
  refine⟨u,r,?_⟩
  rcases lk with⟨z,_⟩|⟨z,c,e,ic⟩
  · rcases n3 with y|y
    · rw[y]at z;cases z
    · rw[y]at z;cases z
  · refine .inr ⟨yr n2,?_⟩
    obtain⟨c',e'⟩:=h8 scope.names [] ⟨c,e⟩ (.inl (PySem.mem_of_lookup n2))
    have e2:=cK _ [] (fun _ _ e=>by cases e) x c' e'
    rw[e]at e2;cases e2
    refine⟨c,?_,ic.keeps k⟩
    show(lh scope C (cZ X.env.cells scope.names [])).lookup x=some c
    unfold lh
    rw[fG,s_ ?_]
    · exact e'
    · cases q:(cellsFrom (C+1) scope.names []).lookup x with
      |none=>rfl
      |some c2=>
       have:=S.cells _ (qx (PySem.mem_of_lookup q)) rfl
       rw[n2]at this;cases this⟩
 cell:=fun x c h=>by
  rcases ia h with h|h
  · exact⟨_,hcs x c h⟩
  obtain⟨v,q⟩:=I.cell x c (cK _ [] (fun _ _ e=>by cases e) x c h)
  exact⟨v,q.keeps k⟩
 free:=by show H C=none;rw[hC];exact I.aL.fresh (Nat.le_refl _)
 g9:=fun x c h=>by
  rcases ia h with h|h
  · have a:=nq (C:=C+1) (Nat.le_refl _) h
    exact I.aL.fresh (by rw[←hC];exact Nat.le_of_succ_le a)
  · exact I.g9 x c (cK _ [] (fun _ _ e=>by cases e) x c h)
 pin:=fun p hp=>by cases hp
 aL:=I.aL.kept k
 len:=by unfold σC;rw[List.length_map];exact S.len
theorem Inv.forget{C:Addr}{h':Heap}(I:Inv X pins σ H s)(f:kn X pins H C)(hs:Heap.SameBut C s.heap h'):Inv X pins σ H {s with heap:=h'}:=by
 refine I.A9 (s':={s with heap:=h'}) (ch:=[C]) rfl ?_ ?_ I.bare fun b hb=>?_
 · have ne:∀b,b∉[C]→b≠C:=fun b hb z=>hb (by simp[z])
   exact{keep:=fun b o q _ _ hx=>(hs.2 b (ne b hx)).trans q,slot:=fun b o q _ _ hx=>⟨o.slots,(hs.2 b (ne b hx)).trans q⟩,free:=fun b o q n _=>n,there:=fun b o q hx=>⟨o,(hs.2 b (ne b hx)).trans q⟩,ou:=fun _ _ e=>e,m6:=fun _ _ _ e=>e,nr:=fun b ps e=>⟨#[],by rw[e];simp⟩}
 · intro a o q
   have na:∀b u,H b=some u→b≠C:=fun b u q z=>by rw[z,f.1]at q;cases q
   refine(I.aL a o q).oF (fun b u hb e=>?_) (fun _ q=>q) fun _ _ q=>q
   rw[hs.2 b ?_]
   · exact e
   · rcases hb with rfl|hb
     · exact na _ _ q
     · exact na _ _ hb
 · have:b=C:=by simpa using hb
   subst this
   exact⟨f.2.2.2.1,f.2.1,f.2.2.2.2.1,f.2.2.2.2.2⟩
theorem u4{elt tg iter:Expr}{ifs:List Expr}{wi:TI}{g:TG}{c:TT}{te:TE}{pos:Pos}{Q:VK}{RR:Value→Addr→Result→Shared→Prop}(hx:X.xe=fun _ _=>False)(hc:X.calm=true)(S:bN X scope Nc fr)(hi:PI X tg iter wi)
 (hg:∀C s H ex,PG (ft X scope Nc C s H ex) tg g) (ht:∀C s H ex,qM (ft X scope Nc C s H ex) ifs c) (he:∀C s H ex,PE (ft X scope Nc C s H ex) elt te) (I:Inv X pins σ H s) (h:uX wi fr g c te σ H Q)
 (fin:∀(l C:Addr) (s6:Shared) (H5:Hp) (m:Str→Option Value),s6.heap.Ns C m→kn X pins H5 C→Inv X pins σ H5 s6→Q (.ref l) H5→RR (.ref l) C (.ok .next) s6):
 wpAny (model X.prog X.w) X.A (eval iter X.env) (fun x s₁=>wpAny (model X.prog X.w) X.A (pyIter x) (fun it s₂=>wpAny (model X.prog X.w) X.A (newList []) (fun acc s₃=>
  wpAny (model X.prog X.w) X.A (newFunctionEnv scope X.env.globals (cZ X.env.cells scope.names []) [] X.env.qual none .none (some X.env)) (fun cenv s₄=>
   codeAny (model X.prog X.w) X.A (.compStart (.ListComp elt [⟨tg,iter,ifs,0⟩] scope pos) 0 it acc {cenv with scope:=relabel scope X.env}) (RR acc cenv.locals) s₄) X.xe s₃) X.xe s₂) X.xe s₁) X.xe s:=by
 refine bO (hi pins s σ H _ I h) fun v s1 h1=>bO h1 fun itv s2 h2=>?_
 obtain⟨it,fp,tn,J,H2,e,I2,T,st2,f2,hR⟩:=h2
 subst e
 refine wpAny_newList ?_ (Nat.zero_le _)
 have I3:=I2.Ef (t':=s2.toks) (au:=[]) (ys:=[]) .nil (Nat.zero_le _)
 generalize e3:({s2 with heap:=s2.heap.push {cls:= .type "list",data:= .seq ([]:List Value).toArray}}:Shared)=s3
 have I3:Inv X pins σ (upd H2 s2.heap.objs.size (.lst [])) s3:=by rw[←e3];exact I3
 have ml:s2.heap.objs.size<s3.heap.objs.size:=by rw[←e3];show _<(s2.heap.push _).objs.size;rw[Heap.size_push];omega
 have k3:∀b o,s2.heap.get? b=some o→s3.heap.get? b=some o:=fun b o q=>by rw[←e3];exact Heap.get?_push_of_some _ q
 obtain⟨W,⟨m0,w0⟩,turn⟩:=hR s2.heap.objs.size (I2.aL.fresh (Nat.le_refl _))
 refine tR ?_
 have hn:(pushCells (s3.heap.push {cls:= .type "dict",data:= .dict #[]}) scope.names).Ns s3.heap.objs.size (fun _=>none):=(Heap.Ns.new s3.heap (.type "dict")).keeps (pushCells_keeps _ _)
 have hcs:∀x c,(x,c)∈cellsFrom (s3.heap.objs.size+1) scope.names []→(pushCells (s3.heap.push {cls:= .type "dict",data:= .dict #[]}) scope.names).IsCell c none:=fun x c h=>((IA scope.names _ (Heap.size_push ..)).empty x c h).1
 have k4:∀b o,s3.heap.get? b=some o→(pushCells (s3.heap.push {cls:= .type "dict",data:= .dict #[]}) scope.names).get? b=some o:=fun b o q=>pushCells_keeps _ _ b o (Heap.get?_push_of_some _ q)
 generalize(pushCells (s3.heap.push {cls:= .type "dict",data:= .dict #[]}) scope.names)=h' at hn hcs k4⊢
 have hobj:∀b∈fp,∃o,s2.heap.get? b=some o∧∀v,o.data≠ .cell v:=T.obj _ _ st2
 have hlt2:∀b∈fp,b<s3.heap.objs.size:=fun b hb=>let⟨o,q,_⟩:=hobj b hb;Heap.lt_size (k3 b o q)
 have hnl:∀b∈fp,b≠s2.heap.objs.size:=fun b hb=>by
  obtain⟨o,q,_⟩:=hobj b hb
  exact Nat.ne_of_lt (Heap.lt_size q)
 have f3:∀b∈fp,kn X pins (upd H2 s2.heap.objs.size (.lst [])) b:=fun b hb=>⟨by rw[ax (hnl b hb)];exact(f2 b hb).1,(f2 b hb).2⟩
 have ok:=Ju (C:=s3.heap.objs.size) (fp:=fp) S I3 rfl f3 hlt2 fun b hb=>(f2 b hb).2.2.2.2.1
 have I4:Inv (ft X scope Nc s3.heap.objs.size s3 (upd H2 s2.heap.objs.size (.lst [])) fp) [] (σC fr σ) (upd H2 s2.heap.objs.size (.lst [])) {s3 with heap:=h',toks:=s3.toks}:=
  FD (s':=s3) S I3 rfl ok (fun b hb=>(f3 b hb).1) k4 hn hcs
 have st4:tn 0 h':=T.keep _ _ _ st2 fun b _ o q=>k4 b o (k3 b o q)
 generalize hXc:ft X scope Nc s3.heap.objs.size s3 (upd H2 s2.heap.objs.size (.lst [])) fp=Xc at I4
 have hgc:PG Xc tg g:=by rw[←hXc];exact hg _ _ _ _
 have htc:qM Xc ifs c:=by rw[←hXc];exact ht _ _ _ _
 have hec:PE Xc elt te:=by rw[←hXc];exact he _ _ _ _
 have xP:Xc.prog=X.prog:=by rw[←hXc];rfl
 have xW:Xc.w=X.w:=by rw[←hXc];rfl
 have xK:Xc.K=X.K:=by rw[←hXc];rfl
 have xc:Xc.calm=true:=by rw[←hXc];exact hc
 have xA:Xc.A=X.A:=by rw[←hXc];rfl
 have xE:Xc.env=compEnvC scope (lh scope s3.heap.objs.size (cZ X.env.cells scope.names [])) s3.heap.objs.size X.env:=by rw[←hXc];rfl
 have xx:Xc.xe=fun _ _=>False:=by rw[←hXc];rfl
 have fpc:∀ {H':Hp},(∀b∈fp,H' b=none)→∀b∈fp,kn Xc [] H' b:=fun{H'} hn b hb=>by
  rw[←hXc]
  refine⟨hn b hb,Nat.ne_of_lt (hlt2 b hb),ok.tH b hb,.inl hb,(ok.CK b hb).2,fun p hp=>by cases hp⟩
 have loop:codeAny (model X.prog X.w) X.A (.compLoop (.ListComp elt [⟨tg,iter,ifs,0⟩] scope pos) 0 (.ref it) (.ref s2.heap.objs.size) (compEnvC scope (lh scope s3.heap.objs.size (cZ X.env.cells scope.names [])) s3.heap.objs.size X.env))
  (RR (.ref s2.heap.objs.size) s3.heap.objs.size) {s3 with heap:=h',toks:=s3.toks}:=by
  refine zG (fun n s'=>∃i σ' H',Inv Xc [] σ' H' s'∧tn i s'.heap∧(∀b∈fp,H' b=none)∧W i n σ' H') ?_ m0 ⟨0,_,_,I4,st4,fun b hb=>(f3 b hb).1,w0⟩
  rintro n s5 ⟨i,σ5,H5,I5,st5,fr5,w5⟩
  rcases turn i n σ5 H5 w5 with⟨stop,qn⟩|⟨go,N,hN,step⟩
  · have q:=T.done Xc xP xW xK xc i [] s5 σ5 H5 (fun _ _=>False) I5 (fpc fr5) st5 stop
    rw[xA]at q
    refine bO q fun r s6 ⟨hr,I6⟩=>?_
    subst hr
    obtain⟨m,hm,_⟩:=I6.loc
    rw[xE]at hm
    have free6:H5 s3.heap.objs.size=none:=by have:=I6.free;rw[xE]at this;exact this
    have un6:Un (o7 X.stack) fp (upd H2 s2.heap.objs.size (.lst [])) H5 s3.heap s6.heap:=by have:=I6.base;rw[←hXc]at this;exact this
    have os6:s6.os=s3.os:=by have:=I6.os;rw[←hXc]at this;exact this
    have hok6:gF X.prog X.w H5 s6.heap:=by have:=I6.aL;rw[xP,xW]at this;exact this
    have J:=I3.A9 (s':=s6) (ch:=fp) os6 un6 hok6 I6.bare fun b hb=>⟨(f3 b hb).2.2.2.1,(f3 b hb).2.1,(f3 b hb).2.2.2.2.1,(f3 b hb).2.2.2.2.2⟩
    exact fin _ _ s6 H5 m hm (I3.tX (Nat.le_refl _) free6) J qn
  · have q:=T.item Xc xP xW xK xc i [] s5 σ5 H5 (fun _ _=>False) I5 (fpc fr5) st5 go
    rw[xA]at q
    refine bO q fun r s6 ⟨u,hr,h6⟩=>?_
    subst hr
    refine bO h6 fun _ s7 ⟨x,H7,I7,r7,y7,st7,fr7⟩=>?_
    have I7':=I7.pinned (fpc fr7) (T.obj _ _ st7)
    have q8:=hgc _ s7 σ5 H7 x u _ I7' r7 (step x H7 y7)
    rw[xP,xW,xA,xE,xx]at q8
    refine bO q8 fun _ s8 ⟨σ8,H8,I8,q8⟩=>?_
    have q9:=htc _ s8 σ8 H8 _ I8 q8
    rw[xP,xW,xA,xE,xx]at q9
    refine bO q9 fun b s9 ⟨H9,I9,q9⟩=>?_
    have again:∀ {H':Hp} {s':Shared},Inv Xc ([]++qm fp s7.heap) σ8 H' s'→N σ8 H'→∃m,m<n∧∃i σ' H',Inv Xc [] σ' H' s'∧tn i s'.heap∧(∀b∈fp,H' b=none)∧W i m σ' H':=fun{H' s'} J nn=>by
     obtain⟨m',hm,w7⟩:=hN σ8 H' nn
     refine⟨m',hm,i+1,σ8,H',J.gp,T.keep _ _ _ st7 fun b hb o e=>(J.pin (b,o) (List.mem_append_right _ (List.mem_append_right _ (l9 hb e)))).1,fun b hb=>?_,w7⟩
     obtain⟨o,e,d⟩:=T.obj _ _ st7 b hb
     exact(J.pin (b,o) (List.mem_append_right _ (List.mem_append_right _ (l9 hb e)))).2.1
    cases b with
    |false=>exact again I9 q9
    |true=>
     have qe:=hec _ s9 σ8 H9 _ I9 q9
     rw[xP,xW,xA,xE,xx]at qe
     refine bO qe fun y s10 ⟨vy,H10,I10,ry,ys,hy,hlt,qN⟩=>?_
     have qa:=wW (X:=Xc) _ s10 σ8 H10 (.ref s2.heap.objs.size) [vy] (.ref s2.heap.objs.size) [y] (fun _ H'=>N σ8 H') I10 rfl (.cons ry .nil) ⟨_,ys,vy,rfl,rfl,hy,hlt,qN⟩
     rw[xP,xW,xA,xx]at qa
     exact bO qa fun _ s11 ⟨_,H11,I11,_,q11⟩=>again I11 q11
 refine codeAny_compStart_list ?_ ?_
 · exact loop
 · exact T.self _ 0 _ _ _ st4 loop
theorem AD{elt tg iter:Expr}{ifs:List Expr}{wi:TI}{g:TG}{c:TT}{te:TE}{pos:Pos}(hx:X.xe=fun _ _=>False)(hc:X.calm=true)(S:bN X scope Nc fr)(hi:PI X tg iter wi)
 (hg:∀C s H ex,PG (ft X scope Nc C s H ex) tg g) (ht:∀C s H ex,qM (ft X scope Nc C s H ex) ifs c) (he:∀C s H ex,PE (ft X scope Nc C s H ex) elt te)
 (hs:∀x,foldedSetIterable iter X.env x=pure x:=by intro _;rfl):PE X (.ListComp elt [⟨tg,iter,ifs,0⟩] scope pos) (uX wi fr g c te):=by
 intro pins s σ H Q I h
 rw[eval_ListComp]
 have hcl:closureFor scope X.env=pure (cZ X.env.cells scope.names []):=lZ fun x hx hk=>I.ok.has x.1 (S.free x hx hk)
 refine wpAny_comprehension_free rfl hs hcl S.kind S.names ?_
 exact u4 (RR:=fun acc C=>compPost (model X.prog X.w) X.A X.xe none (EP X pins σ Q) acc C) hx hc S hi hg ht he I h fun l C s6 H5 m hm f J q=>⟨m,hm,fun h'' hs''=>⟨.ref l,H5,Inv.forget J f hs'',rfl,q⟩⟩
theorem HP{elt tg iter:Expr}{ifs:List Expr}{wi:TI}{g:TG}{c:TT}{te:TE}{pos pos' spos:Pos}{i:Nat}{x:Str}(hx:X.xe=fun _ _=>False)(hc:X.calm=true)(S:bN X scope Nc fr)(hi:PI X tg iter wi)
 (hg:∀C s H ex,PG (ft X scope Nc C s H ex) tg g) (ht:∀C s H ex,qM (ft X scope Nc C s H ex) ifs c) (he:∀C s H ex,PE (ft X scope Nc C s H ex) elt te) (hN:X.N.Nodup) (hni:X.N[i]?=some x) (hl:Loc X.env.scope x) (hf:X.fn x=true∨X.env.scope.names.lookup x=some .local)
 (hsw:swapsWith (.ListComp elt [⟨tg,iter,ifs,0⟩] scope pos) (some (.Name x pos')) spos.line X.env=pure true)
 (hs:∀x,foldedSetIterable iter X.env x=pure x:=by intro _;rfl):PS X (.Assign [.Name x pos'] (.ListComp elt [⟨tg,iter,ifs,0⟩] scope pos) spos) (ox (uX wi fr g c te) (mv i)):=by
 intro pins s σ H D I h
 have hcl:closureFor scope X.env=pure (cZ X.env.cells scope.names []):=lZ fun x hx hk=>I.ok.has x.1 (S.free x hx hk)
 rw[exec_Assign_Name_used _ _ _ _ hsw]
 refine wpAny_bind (wpAny_standAt (wpAny_bind ?_))
 show wpAny _ X.A (do let _ ←comprehension (.ListComp elt [⟨tg,iter,ifs,0⟩] scope pos) scope X.env _ (newList []) false (eval iter X.env) (some (assign (.Name x pos') X.env))) _ _ s
 refine wpAny_bind (wpAny_mono (wpAny_comprehension_free (use:=some (assign (.Name x pos') X.env)) (Q:=fun _ s'=>SP X pins D .next s') rfl hs hcl S.kind S.names
  (u4 (RR:=fun acc C=>compPost (model X.prog X.w) X.A X.xe (some (assign (.Name x pos') X.env)) (fun _ s'=>SP X pins D .next s') acc C) hx hc S hi hg ht he I h fun l C s6 H5 m hm f J q=>?_)) (fun _ s' hq=>wpAny_pure (wpAny_pure hq)) fun _ _ e=>e)
 show wpAny _ X.A (assign (.Name x pos') X.env (.ref l)) _ _ _
 refine wpAny_assign_Name (wj J hN hni hl (show RelV (.ref l) (.ref l)from rfl) (fun s7 J7 hch=>?_) hf)
 obtain⟨a,hsame,ha⟩:=hch
 have hCa:C≠a:=by
  rcases ha with rfl|ha
  · exact f.2.1
  · exact fun z=>f.2.2.2.2.1 x a ha z.symm
 refine⟨m,hm.sameBut hsame hCa,fun h'' hs''=>⟨σ.set i (some (.ref l)),H5,Inv.forget J7 f hs'',q⟩⟩
end
end L3
namespace L3
open PySem PySem.Spec L2
open PyProof.Rows hiding St
inductive D where
 |aE|bl (b:Bool)|int (i:Int)|str (x:Str)|ty (n:String)|ref (n:Nat)|lst (xs:List D)|tup (xs:List D)
inductive Cell where
 |lst (xs:List D)|ins (C:Addr) (fs:List (Str×D))|dead
  |tab (P:Addr) (pos:Pos) (qual:Str) (b:Bool)
noncomputable abbrev ag:=List Cell
noncomputable abbrev bV:=List (Option D)
mutual
noncomputable def Rep(α:List (Option Addr))(H:Hp):D→V→Prop
 | .aE,v=>v= .aE
 | .bl b,v=>v= .bl b
 | .int i,v=>v= .int i
 | .str x,v=>v= .str x
 | .ty n,v=>v= .ty n
 | .ref n,v=>α[n]?=some none∨∃a,α[n]?=some (some a)∧v= .ref a
 | .lst xs,v=>∃a vs,v= .ref a∧some a∉α∧Rd H a (.lst vs)∧aK α H xs vs
 | .tup xs,v=>∃a vs,v= .ref a∧some a∉α∧H a=some (.tup vs)∧aK α H xs vs
noncomputable def aK(α:List (Option Addr))(H:Hp):List D→List V→Prop
 | [],vs=>vs=[]
 |d::ds,vs=>∃v r,vs=v::r∧Rep α H d v∧aK α H ds r
end
theorem bc{α:List (Option Addr)}{H:Hp}:∀ {ds:List D} {vs:List V},aK α H ds vs↔Paired (Rep α H) ds vs
 | [],vs=>by
   unfold aK
   constructor
   · rintro rfl;exact .nil
   · intro h;cases h;rfl
 |d::ds,vs=>by
  unfold aK
  constructor
  · rintro⟨v,r,rfl,h1,h2⟩;exact .cons h1 (bc.mp h2)
  · intro h;cases h with|cons h1 h2=>exact⟨_,_,rfl,h1,bc.mpr h2⟩
section
variable {α:List (Option Addr)}{H:Hp}
theorem aK.length{ds:List D}{vs:List V}(h:aK α H ds vs):ds.length=vs.length:=Paired.length (bc.mp h)
theorem uo{A B:Type}{F:A→B→Prop}:∀ {xs:List A} {ys:List B} {i:Nat} {x:A},Paired F xs ys→xs[i]?=some x→∃y,ys[i]?=some y∧F x y
 |_,_,_,_,.nil,e=>by simp at e
 |_,_,0,_,.cons r _,e=>by simp at e;subst e;exact⟨_,rfl,r⟩
 |_,_,i+1,x,.cons _ t,e=>by
  obtain⟨u,h1,h2⟩:=uo (i:=i) (x:=x) t (by simpa using e)
  exact⟨u,by simpa using h1,h2⟩
theorem fw{A B:Type}{F:A→B→Prop}:∀ {xs xs':List A} {ys ys':List B},Paired F xs ys→Paired F xs' ys'→Paired F (xs++xs') (ys++ys')
 |_,_,_,_,.nil,s=>s
 |_,_,_,_,.cons r t,s=> .cons r (fw t s)
theorem sO{A B:Type}{F:A→B→Prop}:∀ {xs:List A} {ys:List B} (n:Nat),Paired F xs ys→Paired F (xs.take n) (ys.take n)
 |_,_,0,_=> .nil
 |_,_,_+1,.nil=> .nil
 |_,_,n+1,.cons r t=> .cons r (sO n t)
theorem sM{A B:Type}{F:A→B→Prop}:∀ {xs:List A} {ys:List B} (n:Nat),Paired F xs ys→Paired F (xs.drop n) (ys.drop n)
 |_,_,0,r=>r
 |_,_,_+1,.nil=> .nil
 |_,_,n+1,.cons _ t=>sM n t
theorem uO{A B:Type}{F:A→B→Prop}{x:A}{y:B}(r:F x y):∀ {xs:List A} {ys:List B} (i:Nat),Paired F xs ys→Paired F (xs.set i x) (ys.set i y)
 |_,_,_,.nil=> .nil
 |_,_,0,.cons _ t=> .cons r t
 |_,_,i+1,.cons q t=> .cons q (uO r i t)
theorem kZ{A B:Type}{F:A→B→Prop}{xs:List A}{ys:List B}(h:Paired F xs ys):∀k:Nat,Paired F (List.replicate k xs).flatten (List.replicate k ys).flatten
 |0=> .nil
 |k+1=>by
  rw[List.replicate_succ,List.replicate_succ,List.flatten_cons,List.flatten_cons]
  exact fw h (kZ h k)
theorem aK.get{ds:List D}{vs:List V}{i:Nat}{d:D}(h:aK α H ds vs)(e:ds[i]?=some d):∃v,vs[i]?=some v∧Rep α H d v:=uo (bc.mp h) e
end
structure Step(α:List (Option Addr))(H:Hp)(α':List (Option Addr))(H':Hp):Prop where
 ext:∀b o,some b∉α→H b=some o→H' b=some o
 pre:∀(n:Nat) (x:Option Addr),α[n]?=some x→α'[n]?=some x∨α'[n]?=some none
 new:∀b,some b∈α'→some b∉α→H b=none
theorem Step.refl{α:List (Option Addr)}{H:Hp}:Step α H α H:=⟨fun _ _ _ h=>h,fun _ _ h=> .inl h,fun _ h n=>absurd h n⟩
theorem Step.trans{α α1 α2:List (Option Addr)}{H H1 H2:Hp}(a:Step α H α1 H1)(b:Step α1 H1 α2 H2):Step α H α2 H2 where
 ext:=fun c o hc e=>b.ext c o (fun z=>by rw[a.new c z hc]at e;cases e) (a.ext c o hc e)
 pre:=fun n x e=>by
  rcases a.pre n x e with h|h
  · exact b.pre n x h
  · rcases b.pre n none h with h'|h'
    · exact .inr h'
    · exact .inr h'
 new:=fun c hc n=>by
  by_cases h1:some c∈α1
  · exact a.new c h1 n
  · have:=b.new c hc h1
    cases q:H c with
    |none=>rfl
    |some o=>rw[a.ext c o n q]at this;cases this
theorem Step.laid{α:List (Option Addr)}{H:Hp}{p:Addr}{o:HO}(h:H p=none):Step α H α (upd H p o):=
 ⟨fun b u _ e=>by rw[ax (c9 e h)];exact e,fun _ _ h=> .inl h,fun _ h n=>absurd h n⟩
theorem Step.cell{α:List (Option Addr)}{H:Hp}{p:Addr}{o:HO}(h:H p=none):Step α H (α++[some p]) (upd H p o):=
 ⟨fun b u _ e=>by rw[ax (c9 e h)];exact e,fun n x e=> .inl (by rw[List.getElem?_append_left (List.getElem?_eq_some_iff.mp e).1];exact e),fun b hb n=>by
  rcases List.mem_append.mp hb with z|z
  · exact absurd z n
  · have:b=p:=by simpa using z
    subst this;exact h⟩
theorem Step.write{α:List (Option Addr)}{H:Hp}{p:Addr}{o:HO}(h:some p∈α):Step α H α (upd H p o):=
 ⟨fun b u n e=>by rw[ax (fun z=>by subst z;exact n h)];exact e,fun _ _ h=> .inl h,fun _ h n=>absurd h n⟩
mutual
theorem Rep.step{α α':List (Option Addr)}{H H':Hp}(s:Step α H α' H'):∀ {d:D} {v:V},Rep α H d v→Rep α' H' d v
 | .aE,_,h=>by unfold Rep at h⊢;exact h
 | .bl _,_,h=>by unfold Rep at h⊢;exact h
 | .int _,_,h=>by unfold Rep at h⊢;exact h
 | .str _,_,h=>by unfold Rep at h⊢;exact h
 | .ty _,_,h=>by unfold Rep at h⊢;exact h
 | .ref n,_,h=>by
   unfold Rep at h⊢
   rcases h with h|⟨a,e,r⟩
   · rcases s.pre _ _ h with z|z<;>exact .inl z
   · rcases s.pre _ _ e with z|z
     · exact .inr ⟨a,z,r⟩
     · exact .inl z
 | .lst xs,_,h=>by
   unfold Rep at h⊢
   obtain⟨a,vs,e,n,r,q⟩:=h
   refine⟨a,vs,e,fun z=>?_,?_,aK.step s q⟩
   · have:=s.new a z n
     rcases r with r|⟨o,r⟩<;>(rw[this]at r;cases r)
   · rcases r with r|⟨o,r⟩
     · exact .inl (s.ext _ _ n r)
     · exact .inr ⟨o,s.ext _ _ n r⟩
 | .tup xs,_,h=>by
   unfold Rep at h⊢
   obtain⟨a,vs,e,n,r,q⟩:=h
   exact⟨a,vs,e,(fun z=>by rw[s.new a z n]at r;exact nomatch r),s.ext _ _ n r,aK.step s q⟩
theorem aK.step{α α':List (Option Addr)}{H H':Hp}(s:Step α H α' H'):∀ {ds:List D} {vs:List V},aK α H ds vs→aK α' H' ds vs
 | [],_,h=>by unfold aK at h⊢;exact h
 |d::ds,_,h=>by
  unfold aK at h⊢
  obtain⟨v,r,e,h1,h2⟩:=h
  exact⟨v,r,e,Rep.step s h1,aK.step s h2⟩
end
structure bU(G F H:Hp):Prop where
 eq:∀b,H b=(G b).or (F b)
 yi:∀b o,G b=some o→F b=none
section
variable {G F H:Hp}
theorem bU.get(P:bU G F H){b:Addr}{o:HO}(h:G b=some o):H b=some o:=by rw[P.eq b,h];rfl
theorem bU.same(P:bU G F H):Er G H:=fun _ _ h=>P.get h
theorem bU.none(P:bU G F H){b:Addr}(h:H b=none):G b=none∧F b=none:=by
 have e:=P.eq b
 rw[h]at e
 cases q:G b with
 |none=>rw[q]at e;exact⟨rfl,e.symm⟩
 |some o=>rw[q]at e;cases e
theorem bU.frame(P:bU G F H){b:Addr}{o:HO}(h:F b=some o):H b=some o∧G b=Option.none:=by
 have hn:G b=Option.none:=by
  cases q:G b with
  |none=>rfl
  |some u=>rw[P.yi b u q]at h;cases h
 exact⟨by rw[P.eq b,hn,h];rfl,hn⟩
theorem bU.laid(P:bU G F H){p:Addr}{o:HO}(h:H p=Option.none):bU (upd G p o) F (upd H p o):=by
 obtain⟨h1,h2⟩:=P.none h
 refine⟨fun b=>?_,fun b u e=>?_⟩
 · by_cases hb:b=p
   · subst hb;rw[a5,a5];rfl
   · rw[ax hb,ax hb];exact P.eq b
 · by_cases hb:b=p
   · subst hb;exact h2
   · rw[ax hb]at e;exact P.yi b u e
theorem bU.write(P:bU G F H){p:Addr}{o o':HO}(h:G p=some o):bU (upd G p o') F (upd H p o'):=by
 refine⟨fun b=>?_,fun b u e=>?_⟩
 · by_cases hb:b=p
   · subst hb;rw[a5,a5];rfl
   · rw[ax hb,ax hb];exact P.eq b
 · by_cases hb:b=p
   · subst hb;exact P.yi b o h
   · rw[ax hb]at e;exact P.yi b u e
theorem bU.hide(P:bU G F H){p:Addr}{o:HO}(h:H p=Option.none):bU G (upd F p o) (upd H p o):=by
 obtain⟨h1,h2⟩:=P.none h
 refine⟨fun b=>?_,fun b u e=>?_⟩
 · by_cases hb:b=p
   · subst hb;rw[a5,a5,h1];rfl
   · rw[ax hb,ax hb];exact P.eq b
 · by_cases hb:b=p
   · subst hb;rw[h1]at e;cases e
   · rw[ax hb];exact P.yi b u e
theorem bU.Of(P:bU G F H){p:Addr}{o o':HO}(h:F p=some o):bU G (upd F p o') (upd H p o'):=by
 have h1:=(P.frame h).2
 refine⟨fun b=>?_,fun b u e=>?_⟩
 · by_cases hb:b=p
   · subst hb;rw[a5,a5,h1];rfl
   · rw[ax hb,ax hb];exact P.eq b
 · by_cases hb:b=p
   · subst hb;rw[h1]at e;cases e
   · rw[ax hb];exact P.yi b u e
theorem bU.show{p:Addr}{o:HO}(P:bU G (upd F p o) H)(h:F p=Option.none):bU (upd G p o) F H:=by
 have h1:=(P.frame (b:=p) a5)
 refine⟨fun b=>?_,fun b u e=>?_⟩
 · by_cases hb:b=p
   · subst hb;rw[a5,h1.1];rfl
   · rw[ax hb,P.eq b,ax hb]
 · by_cases hb:b=p
   · subst hb;exact h
   · rw[ax hb]at e
     have:=P.yi b u e
     rw[ax hb]at this;exact this
end
mutual
theorem Rep.mono{α:List (Option Addr)}{G H:Hp}(s:Er G H):∀ {d:D} {v:V},Rep α G d v→Rep α H d v
 | .aE,_,h=>by unfold Rep at h⊢;exact h
 | .bl _,_,h=>by unfold Rep at h⊢;exact h
 | .int _,_,h=>by unfold Rep at h⊢;exact h
 | .str _,_,h=>by unfold Rep at h⊢;exact h
 | .ty _,_,h=>by unfold Rep at h⊢;exact h
 | .ref n,_,h=>by unfold Rep at h⊢;exact h
 | .lst xs,_,h=>by
   unfold Rep at h⊢
   obtain⟨a,vs,e,n,r,q⟩:=h
   refine⟨a,vs,e,n,?_,aK.mono s q⟩
   rcases r with r|⟨o,r⟩
   · exact .inl (s _ _ r)
   · exact .inr ⟨o,s _ _ r⟩
 | .tup xs,_,h=>by
   unfold Rep at h⊢
   obtain⟨a,vs,e,n,r,q⟩:=h
   exact⟨a,vs,e,n,s _ _ r,aK.mono s q⟩
theorem aK.mono{α:List (Option Addr)}{G H:Hp}(s:Er G H):∀ {ds:List D} {vs:List V},aK α G ds vs→aK α H ds vs
 | [],_,h=>by unfold aK at h⊢;exact h
 |d::ds,_,h=>by
  unfold aK at h⊢
  obtain⟨v,r,e,h1,h2⟩:=h
  exact⟨v,r,e,Rep.mono s h1,aK.mono s h2⟩
end
noncomputable def jh(α:List (Option Addr))(H:Hp):List (Str×D)→List (Str×V)→Prop:=Paired fun p q=>p.1=q.1∧Rep α H p.2 q.2
noncomputable def j0(α:List (Option Addr))(H:Hp)(a:Addr):Cell→Prop
 | .lst xs=>∃vs,H a=some (.lst vs)∧aK α H xs vs
 | .ins C fs=>∃dx vs,H a=some (.ins C dx vs)∧jh α H fs vs
 | .dead=>False
 | .tab P pos qual b=>a=P∧∃ps:Array Value,H a=some (.jw ps)∧TriplesOk ps.toList∧
    ((b=false∧codeAmong pos ps.toList=none)∨(b=true∧∃c o vs t,codeAmong pos ps.toList=some (.ref c)∧some c∉α∧H c=some (.fN o (.own c))∧o.data= .fields vs∧vs[1]?=some (.str qual t)))
structure aS(α:List (Option Addr))(st:ag)(H:Hp):Prop where
 len:α.length=st.length
 nd:∀(i j:Nat) (a:Addr),α[i]?=some (some a)→α[j]?=some (some a)→i=j
 at':∀(n:Nat) (c:Cell),st[n]?=some c→(c= .dead∧α[n]?=some none)∨∃a,α[n]?=some (some a)∧j0 α H a c
theorem jh.step{α α':List (Option Addr)}{H H':Hp}(s:Step α H α' H'){ds:List (Str×D)}{vs:List (Str×V)}(h:jh α H ds vs):jh α' H' ds vs:=Paired.EV h fun _ _ z=>⟨z.1,z.2.step s⟩
theorem j0.same{α α':List (Option Addr)}{H H':Hp}{a:Addr}{c:Cell}(s:Step α H α' H')(e:H' a=H a)(h:j0 α H a c):j0 α' H' a c:=by
 cases c with
 |lst xs=>obtain⟨vs,h1,h2⟩:=h;exact⟨vs,e.trans h1,h2.step s⟩
 |ins C fs=>obtain⟨dx,vs,h1,h2⟩:=h;exact⟨dx,vs,e.trans h1,h2.step s⟩
 |dead=>exact h.elim
 |tab P pos qual b=>
  obtain⟨z,ps,h1,h2,h3⟩:=h
  refine⟨z,ps,e.trans h1,h2,?_⟩
  rcases h3 with h3|⟨hb,c,o,vs,t,q1,q2,q3,q4⟩
  · exact .inl h3
  · exact .inr ⟨hb,c,o,vs,t,q1,(fun y=>by rw[s.new c y q2]at q3;cases q3),s.ext c _ q2 q3,q4⟩
theorem j0.some{α:List (Option Addr)}{H:Hp}{a:Addr}{c:Cell}(h:j0 α H a c):∃o,H a=some o:=by
 cases c with
 |lst xs=>obtain⟨vs,h1,h2⟩:=h;exact⟨_,h1⟩
 |ins C fs=>obtain⟨dx,vs,h1,h2⟩:=h;exact⟨_,h1⟩
 |dead=>exact h.elim
 |tab P pos qual b=>obtain⟨_,ps,h1,_⟩:=h;exact⟨_,h1⟩
theorem dU{α:List (Option Addr)}{H:Hp}{n:Nat}{v:V}{a:Addr}(e:α[n]?=Option.some (Option.some a))(r:Rep α H (.ref n) v):v= .ref a:=by
 unfold Rep at r
 rcases r with r|⟨b,eb,rfl⟩
 · rw[e]at r;cases r
 · rw[e]at eb;cases eb;rfl
section
variable {α:List (Option Addr)}{st:ag}{H:Hp}
theorem aS.ja(S:aS α st H){n:Nat}{xs:List D}(e:st[n]?=Option.some (.lst xs)):∃a,α[n]?=Option.some (Option.some a)∧∃vs,H a=Option.some (.lst vs)∧aK α H xs vs:=by
 rcases S.at' n _ e with⟨z,_⟩|z
 · cases z
 · exact z
theorem aS.xC(S:aS α st H){n:Nat}{C:Addr}{fs:List (Str×D)}(e:st[n]?=Option.some (.ins C fs)):∃a,α[n]?=Option.some (Option.some a)∧∃dx vs,H a=Option.some (.ins C dx vs)∧jh α H fs vs:=by
 rcases S.at' n _ e with⟨z,_⟩|z
 · cases z
 · exact z
theorem aS.mem(S:aS α st H){a:Addr}(h:Option.some a∈α):∃(n:Nat) (c:Cell),α[n]?=Option.some (Option.some a)∧st[n]?=Option.some c∧j0 α H a c:=by
 obtain⟨n,hn,e⟩:=List.mem_iff_getElem.mp h
 have hl:n<st.length:=by rw[←S.len];exact hn
 have e':α[n]?=Option.some (Option.some a):=by rw[List.getElem?_eq_getElem hn,e]
 rcases S.at' n st[n] (by simp[hl])with⟨_,q⟩|⟨a',q,ca⟩
 · rw[e']at q;cases q
 · rw[e']at q;cases q
   exact⟨n,_,e',by simp[hl],ca⟩
theorem aS.jP(S:aS α st H){p:Addr}(h:H p=none):Option.some p∉α:=fun z=>by
 obtain⟨n,c,_,_,ca⟩:=S.mem z
 obtain⟨o,e⟩:=ca.some
 rw[h]at e;cases e
theorem aS.laid(S:aS α st H){p:Addr}{o:HO}(h:H p=none):aS α st (upd H p o):=
 ⟨S.len,S.nd,fun n c e=>by
  rcases S.at' n c e with z|⟨a,q,ca⟩
  · exact .inl z
  · exact .inr ⟨a,q,ca.same (Step.laid h) (ax (by obtain⟨u,z⟩:=ca.some;exact c9 z h))⟩⟩
theorem aS.cell(S:aS α st H){p:Addr}{o:HO}{c:Cell}(h:H p=none)(hc:j0 (α++[Option.some p]) (upd H p o) p c):aS (α++[Option.some p]) (st++[c]) (upd H p o) where
 len:=by rw[List.length_append,List.length_append,S.len];rfl
 nd:=fun i j a ei ej=>by
  have key:∀(i:Nat) (a:Addr),(α++[Option.some p])[i]?=Option.some (Option.some a)→(i<α.length∧α[i]?=Option.some (Option.some a))∨(i=α.length∧a=p):=by
   intro i a e
   by_cases hi:i<α.length
   · rw[List.getElem?_append_left hi]at e;exact .inl ⟨hi,e⟩
   · rw[List.getElem?_append_right (Nat.le_of_not_lt hi)]at e
     have h0:i-α.length=0:=by
      cases q:i-α.length with
      |zero=>rfl
      |succ k=>rw[q]at e;simp at e
     rw[h0]at e
     have:p=a:=by simpa using e
     exact .inr ⟨by omega,this.symm⟩
  rcases key i a ei with⟨h1,e1⟩|⟨h1,e1⟩<;>rcases key j a ej with⟨h2,e2⟩|⟨h2,e2⟩
  · exact S.nd i j a e1 e2
  · subst e2;exact absurd (List.mem_of_getElem? e1) (S.jP h)
  · subst e1;exact absurd (List.mem_of_getElem? e2) (S.jP h)
  · omega
 at':=fun n d e=>by
  by_cases hn:n<st.length
  · rw[List.getElem?_append_left hn]at e
    have hl:n<α.length:=by rw[S.len];exact hn
    rcases S.at' n d e with⟨z,q⟩|⟨a,q,ca⟩
    · exact .inl ⟨z,by rw[List.getElem?_append_left hl];exact q⟩
    · exact .inr ⟨a,by rw[List.getElem?_append_left hl];exact q,ca.same (Step.cell h) (ax (by obtain⟨u,z⟩:=ca.some;exact c9 z h))⟩
  · rw[List.getElem?_append_right (Nat.le_of_not_lt hn)]at e
    have h0:n-st.length=0:=by
     cases q:n-st.length with
     |zero=>rfl
     |succ k=>rw[q]at e;simp at e
    rw[h0]at e
    have hd:c=d:=by simpa using e
    subst hd
    refine .inr ⟨p,?_,hc⟩
    rw[List.getElem?_append_right (by rw[S.len];exact Nat.le_of_not_lt hn),S.len,h0]
    rfl
theorem aS.write(S:aS α st H){p:Addr}{o:HO}{c:Cell}{n:Nat}(e:α[n]?=Option.some (Option.some p))(hc:j0 α (upd H p o) p c):aS α (st.set n c) (upd H p o) where
 len:=by rw[List.length_set];exact S.len
 nd:=S.nd
 at':=fun m d q=>by
  have hp:Option.some p∈α:=List.mem_of_getElem? e
  by_cases hm:m=n
  · subst hm
    have hl:m<st.length:=by
     have:=(List.getElem?_eq_some_iff.mp q).1
     rw[List.length_set]at this;exact this
    rw[List.getElem?_set_self hl]at q
    cases q
    exact .inr ⟨p,e,hc⟩
  · rw[List.getElem?_set_ne (Ne.symm hm)]at q
    rcases S.at' m d q with z|⟨a,r,ca⟩
    · exact .inl z
    · refine .inr ⟨a,r,ca.same (Step.write hp) (ax fun z=>?_)⟩
      subst z
      exact hm (S.nd m n _ r e)
end
end L3
namespace L3
open PySem PySem.Spec L2
open PyProof.Rows hiding St
noncomputable abbrev DK:=D→ag→Prop
noncomputable abbrev DE:=bV→ag→DK→Prop
noncomputable abbrev DT:=bV→ag→(Bool→ag→Prop)→Prop
noncomputable abbrev DA:=bV→ag→(List D→ag→Prop)→Prop
structure mz where
 nx:bV→ag→Prop
 rt:DK
 bk:bV→ag→Prop:=fun _ _=>False
 ct:bV→ag→Prop:=fun _ _=>False
noncomputable abbrev DS:=mz→bV→ag→Prop
structure dN(α:List (Option Addr))(H:Hp)(σd:bV)(σ:L2.St):Prop where
 len:σd.length=σ.length
 at':∀(i:Nat) (d:D),σd[i]?=some (some d)→∃v,σ[i]?=some (some v)∧Rep α H d v
theorem dN.step{α α':List (Option Addr)}{H H':Hp}{σd:bV}{σ:L2.St}(s:Step α H α' H')(h:dN α H σd σ):dN α' H' σd σ:=
 ⟨h.len,fun i d e=>let⟨v,q,r⟩:=h.at' i d e;⟨v,q,r.step s⟩⟩
theorem dN.set{α:List (Option Addr)}{H:Hp}{σd:bV}{σ:L2.St}(h:dN α H σd σ)(i:Nat){d:D}{v:V}(r:Rep α H d v):dN α H (σd.set i (some d)) (σ.set i (some v)):=by
 refine⟨by rw[List.length_set,List.length_set,h.len],fun j e q=>?_⟩
 have hl:=h.len
 by_cases hj:j=i
 · subst hj
   have hlt:j<σd.length:=by
    have:=(List.getElem?_eq_some_iff.mp q).1
    rw[List.length_set]at this;exact this
   rw[List.getElem?_set_self hlt]at q
   cases q
   exact⟨v,List.getElem?_set_self (by omega),r⟩
 · rw[List.getElem?_set_ne (Ne.symm hj)]at q
   rw[List.getElem?_set_ne (Ne.symm hj)]
   exact h.at' j e q
noncomputable def LK(α:List (Option Addr))(G F:Hp)(K:DK)(Q:VK):Prop:=∀d st',K d st'→∀α' G' H' v,Step α G α' G'→bU G' F H'→aS α' st' G'→Rep α' G' d v→Q v H'
noncomputable def F4(α:List (Option Addr))(G F:Hp)(K:Bool→ag→Prop)(Q:Bool→Hp→Prop):Prop:=∀b st',K b st'→∀α' G' H',Step α G α' G'→bU G' F H'→aS α' st' G'→Q b H'
noncomputable def Ot(α:List (Option Addr))(G F:Hp)(K:List D→ag→Prop)(Q:List V→Hp→Prop):Prop:=∀ds st',K ds st'→∀α' G' H' vs,Step α G α' G'→bU G' F H'→aS α' st' G'→aK α' G' ds vs→Q vs H'
inductive MS(t:DE)(σ:L2.St)(H:Hp)(Q:VK):Prop
 |mk (α:List (Option Addr)) (σd:bV) (st:ag) (K:DK) (G F:Hp) (P:bU G F H) (R:dN α G σd σ) (S:aS α st G) (h:t σd st K) (k:LK α G F K Q):MS t σ H Q
noncomputable def LE(t:DE):TE:=MS t
inductive MW(t:DT)(σ:L2.St)(H:Hp)(Q:Bool→Hp→Prop):Prop
 |mk (α:List (Option Addr)) (σd:bV) (st:ag) (K:Bool→ag→Prop) (G F:Hp) (P:bU G F H) (R:dN α G σd σ) (S:aS α st G) (h:t σd st K) (k:F4 α G F K Q):MW t σ H Q
noncomputable def LT(t:DT):TT:=MW t
inductive Nd(t:DA)(σ:L2.St)(H:Hp)(Q:List V→Hp→Prop):Prop
 |mk (α:List (Option Addr)) (σd:bV) (st:ag) (K:List D→ag→Prop) (G F:Hp) (P:bU G F H) (R:dN α G σd σ) (S:aS α st G) (h:t σd st K) (k:Ot α G F K Q):Nd t σ H Q
noncomputable def LA(t:DA):TA:=Nd t
theorem LK.here{α:List (Option Addr)}{G F H:Hp}{K:DK}{Q:VK}(h:LK α G F K Q)(P:bU G F H){d:D}{st:ag}{v:V}(k:K d st)(S:aS α st G)(r:Rep α G d v):Q v H:=h d st k α G H v Step.refl P S r
theorem LK.at{α α1:List (Option Addr)}{G F G1:Hp}{K:DK}{Q:VK}(h:LK α G F K Q)(s:Step α G α1 G1):LK α1 G1 F K Q:=fun d st' k α' G' H' v s' P S r=>h d st' k α' G' H' v (s.trans s') P S r
theorem F4.at{α α1:List (Option Addr)}{G F G1:Hp}{K:Bool→ag→Prop}{Q:Bool→Hp→Prop}(h:F4 α G F K Q)(s:Step α G α1 G1):F4 α1 G1 F K Q:=fun d st' k α' G' H' s' P S=>h d st' k α' G' H' (s.trans s') P S
section
variable {X:Cx}{a b c e:Expr}{es:List Expr}{ta tb tc te:DE}{pos:Pos}
theorem PE.imp{t t':TE}(h:PE X e t)(f:∀σ H Q,t' σ H Q→t σ H Q):PE X e t':=fun pins s σ H Q I q=>h pins s σ H Q I (f σ H Q q)
theorem PT.imp{t t':TT}(h:PT X e t)(f:∀σ H Q,t' σ H Q→t σ H Q):PT X e t':=fun pins s σ H Q I q=>h pins s σ H Q I (f σ H Q q)
theorem PW.imp{t t':TT}(h:PW X e t)(f:∀σ H Q,t' σ H Q→t σ H Q):PW X e t':=fun w pins s σ H Q I q=>h w pins s σ H Q I (f σ H Q q)
theorem PA.imp{t t':TA}(h:PA X es t)(f:∀σ H Q,t' σ H Q→t σ H Q):PA X es t':=fun p pins s σ H Q I q=>h p pins s σ H Q I (f σ H Q q)
noncomputable def ae(i:Nat):DE:=fun σ st K=>match σ[i]? with|some (some d)=>K d st|_=>False
noncomputable def dC(d:D):DE:=fun _ st K=>K d st
theorem MC{i:Nat}{x:Str}(h:PE X (.Name x pos) (Kq i)):PE X (.Name x pos) (LE (ae i)):=PE.imp h fun σ H Q ⟨α,σd,st,K,G,F,P,R,S,t,k⟩=>by
 unfold ae at t
 split at t
 · rename_i d q
   obtain⟨v,e,r⟩:=R.at' i d q
   exact⟨v,e,k.here P t S r⟩
 · exact t.elim
theorem oS{v:V}{d:D}(h:PE X e (tC v))(r:∀α H,Rep α H d v):PE X e (LE (dC d)):=PE.imp h fun σ H Q ⟨α,σd,st,K,G,F,P,R,S,t,k⟩=>k.here P t S (r α G)
theorem LZ{i:Int}{j:Nat}:PE X (.Constant (.int i) j pos) (LE (dC (.int i))):=oS Ks fun _ _=>by unfold Rep;rfl
theorem NI{i:Bool}{j:Nat}:PE X (.Constant (.bool i) j pos) (LE (dC (.bl i))):=oS Mj fun _ _=>by unfold Rep;rfl
theorem Mu{i:Str}{j:Nat}:PE X (.Constant (.str i) j pos) (LE (dC (.str i))):=oS JV fun _ _=>by unfold Rep;rfl
theorem LL{j:Nat}:PE X (.Constant .none j pos) (LE (dC .aE)):=oS Jj fun _ _=>by unfold Rep;rfl
noncomputable abbrev dw:=D→D→ag→DK→Prop
noncomputable abbrev xQ:=D→ag→DK→Prop
noncomputable abbrev fZ:=List D→ag→DK→Prop
inductive Ni(r:dw)(x y:V)(H:Hp)(Q:VK):Prop
 |mk (α:List (Option Addr)) (d e:D) (st:ag) (K:DK) (G F:Hp) (P:bU G F H) (rx:Rep α G d x) (ry:Rep α G e y) (S:aS α st G) (h:r d e st K) (k:LK α G F K Q):Ni r x y H Q
noncomputable def LR(r:dw):R2:=Ni r
inductive KN(r:xQ)(x:V)(H:Hp)(Q:VK):Prop
 |mk (α:List (Option Addr)) (d:D) (st:ag) (K:DK) (G F:Hp) (P:bU G F H) (rx:Rep α G d x) (S:aS α st G) (h:r d st K) (k:LK α G F K Q):KN r x H Q
noncomputable def FY(r:xQ):V→Hp→VK→Prop:=KN r
inductive Jb(r:fZ)(xs:List V)(H:Hp)(Q:VK):Prop
 |mk (α:List (Option Addr)) (ds:List D) (st:ag) (K:DK) (G F:Hp) (P:bU G F H) (rx:aK α G ds xs) (S:aS α st G) (h:r ds st K) (k:LK α G F K Q):Jb r xs H Q
noncomputable def iu(r:fZ):List V→Hp→VK→Prop:=Jb r
noncomputable def av(r:dw)(ta tb:DE):DE:=fun σ st K=>ta σ st fun x st1=>tb σ st1 fun y st2=>r x y st2 K
noncomputable def nM(r:xQ)(ta:DE):DE:=fun σ st K=>ta σ st fun x st1=>r x st1 K
theorem LE.op{r:dw}{σ:L2.St}{H:Hp}{Q:VK}(h:LE (av r ta tb) σ H Q):Ds (LR r) (LE ta) (LE tb) σ H Q:=by
 obtain⟨α,σd,st,K,G,F,P,R,S,t,k⟩:=h
 refine⟨α,σd,st,_,G,F,P,R,S,t,fun d st1 q α1 G1 H1 v s1 P1 S1 r1=>?_⟩
 refine⟨α1,σd,st1,_,G1,F,P1,R.step s1,S1,q,fun d2 st2 q2 α2 G2 H2 v2 s2 P2 S2 r2=>?_⟩
 exact⟨α2,d,d2,st2,K,G2,F,P2,r1.step s2,r2,S2,q2,(k.at s1).at s2⟩
theorem LE.un{r:xQ}{σ:L2.St}{H:Hp}{Q:VK}(h:LE (nM r ta) σ H Q):M0 (FY r) (LE ta) σ H Q:=by
 obtain⟨α,σd,st,K,G,F,P,R,S,t,k⟩:=h
 refine⟨α,σd,st,_,G,F,P,R,S,t,fun d st1 q α1 G1 H1 v s1 P1 S1 r1=>?_⟩
 exact⟨α1,d,st1,K,G1,F,P1,r1,S1,q,k.at s1⟩
theorem Nl{op:Operator}{r:dw}(ho:bX X (binaryOp op) (LR r))(ha:PE X a (LE ta))(hb:PE X b (LE tb)):PE X (.BinOp a op b pos) (LE (av r ta tb)):=PE.imp (Ln ho ha hb) fun _ _ _ h=>LE.op h
theorem NJ{op:UnaryOp}{r:xQ}(ho:AL X (unaryOp op) (FY r))(ha:PE X a (LE ta)):PE X (.UnaryOp op a pos) (LE (nM r ta)):=PE.imp (L9 ho ha) fun _ _ _ h=>LE.un h
theorem L8{op:CmpOp}{r:dw}(ho:bX X (compareOp op) (LR r))(ha:PE X a (LE ta))(hb:PE X b (LE tb))(hm:behindInMarks op b=false:=by first|exact bD _|rfl):PE X (.Compare a [op] [b] pos) (LE (av r ta tb)):=PE.imp (Ir ho ha hb hm) fun _ _ _ h=>LE.op h
noncomputable def bS(t:DE):DT:=fun σ st K=>t σ st fun d st1=>match d with| .bl b=>K b st1|_=>False
theorem LT.test{σ:L2.St}{H:Hp}{Q:Bool→Hp→Prop}(h:LT (bS te) σ H Q):LE te σ H fun x H'=>∃k,x= .bl k∧Q k H':=by
 obtain⟨α,σd,st,K,G,F,P,R,S,t,k⟩:=h
 refine⟨α,σd,st,_,G,F,P,R,S,t,fun d st1 q α1 G1 H1 v s1 P1 S1 r1=>?_⟩
 cases d with
 |bl b=>
  unfold Rep at r1
  exact⟨b,r1,k b st1 q α1 G1 H1 s1 P1 S1⟩
 |_=>exact q.elim
theorem J5{op:CmpOp}{r:dw}(ho:bX X (compareOp op) (LR r))(ha:PE X a (LE ta))(hb:PE X b (LE tb))(hm:behindInMarks op b=false:=by first|exact bD _|rfl):PT X (.Compare a [op] [b] pos) (LT (bS (av r ta tb))):=PT.imp (GB ho ha hb hm) fun σ H Q h=>by
 have q:=LT.test h
 exact LE.op (Q:=fun x H'=>∃k,x= .bl k∧Q k H') q
theorem IW(he:PE X e (LE te))(hv:∀whole,isTrue e X.env whole=(do let v ←whole;standAt e.pos;holding [v] (truthy v)):=by intro _;rfl):PT X e (LT (bS te)):=PT.imp (JR he hv) fun σ H Q h=>LT.test h
noncomputable def u7(t:DT):DT:=fun σ st K=>t σ st fun b st1=>K (!b) st1
noncomputable def rQ(t u:DT):DT:=fun σ st K=>t σ st fun b st1=>if b=true then u σ st1 K else K false st1
noncomputable def tK(t u:DT):DT:=fun σ st K=>t σ st fun b st1=>if b=true then K true st1 else u σ st1 K
theorem Lh{t:DT}(ha:PT X a (LT t)):PT X (.UnaryOp .Not a pos) (LT (u7 t)):=PT.imp (II ha) fun σ H Q ⟨α,σd,st,K,G,F,P,R,S,t,k⟩=>
 ⟨α,σd,st,_,G,F,P,R,S,t,fun b st1 q α1 G1 H1 s1 P1 S1=>k _ st1 q α1 G1 H1 s1 P1 S1⟩
theorem LT.and{t u:DT}{σ:L2.St}{H:Hp}{Q:Bool→Hp→Prop}(h:LT (rQ t u) σ H Q):Jf (LT t) (LT u) σ H Q:=by
 obtain⟨α,σd,st,K,G,F,P,R,S,t,k⟩:=h
 refine⟨α,σd,st,_,G,F,P,R,S,t,fun b st1 q α1 G1 H1 s1 P1 S1=>?_⟩
 cases b with
 |true=>exact⟨α1,σd,st1,K,G1,F,P1,R.step s1,S1,q,k.at s1⟩
 |false=>exact k _ st1 q α1 G1 H1 s1 P1 S1
theorem LT.or{t u:DT}{σ:L2.St}{H:Hp}{Q:Bool→Hp→Prop}(h:LT (tK t u) σ H Q):MX (LT t) (LT u) σ H Q:=by
 obtain⟨α,σd,st,K,G,F,P,R,S,t,k⟩:=h
 refine⟨α,σd,st,_,G,F,P,R,S,t,fun b st1 q α1 G1 H1 s1 P1 S1=>?_⟩
 cases b with
 |false=>exact⟨α1,σd,st1,K,G1,F,P1,R.step s1,S1,q,k.at s1⟩
 |true=>exact k _ st1 q α1 G1 H1 s1 P1 S1
theorem G9{t:DT}(ha:PT X a (LT t)):PW X (.BoolOp .And [a] pos) (LT t):=pw_and1 ha
theorem Ky{t:DT}(ha:PT X a (LT t)):PW X (.BoolOp .Or [a] pos) (LT t):=pw_or1 ha
theorem Kk{t u:DT}(ha:PT X a (LT t))(hb:PW X (.BoolOp .And (b::es) pos) (LT u)):PW X (.BoolOp .And (a::b::es) pos) (LT (rQ t u)):=PW.imp (pw_and ha hb) fun _ _ _ h=>LT.and h
theorem LM{t u:DT}(ha:PT X a (LT t))(hb:PW X (.BoolOp .Or (b::es) pos) (LT u)):PW X (.BoolOp .Or (a::b::es) pos) (LT (tK t u)):=PW.imp (pw_or ha hb) fun _ _ _ h=>LT.or h
noncomputable def la(ta tb:DE):DE:=fun σ st K=>ta σ st fun d st1=>match d with| .bl b=>if b=true then tb σ st1 K else K (.bl false) st1|_=>False
noncomputable def BH(t:DT):DE:=fun σ st K=>t σ st fun b st1=>K (.bl (!b)) st1
theorem Mv{op:BoolOp}(ha:PE X a (LE ta)):PE X (.BoolOp op [a] pos) (LE ta):=J6 ha
theorem MK(ha:PE X a (LE ta))(hb:PE X (.BoolOp .And (b::es) pos) (LE tb)):PE X (.BoolOp .And (a::b::es) pos) (LE (la ta tb)):=PE.imp (Kx ha hb) fun σ H Q ⟨α,σd,st,K,G,F,P,R,S,t,k⟩=>by
 refine⟨α,σd,st,_,G,F,P,R,S,t,fun d st1 q α1 G1 H1 v s1 P1 S1 r1=>?_⟩
 cases d with
 |bl b=>
  unfold Rep at r1
  refine⟨b,r1,?_⟩
  cases b with
  |true=>exact⟨α1,σd,st1,K,G1,F,P1,R.step s1,S1,q,k.at s1⟩
  |false=>exact k _ st1 q α1 G1 H1 _ s1 P1 S1 (by unfold Rep;rfl)
 |_=>exact q.elim
theorem L0(ha:PE X a (LE ta)):PE X (.UnaryOp .Not a pos) (LE (BH (bS ta))):=PE.imp (Ko ha) fun σ H Q ⟨α,σd,st,K,G,F,P,R,S,t,k⟩=>by
 refine⟨α,σd,st,_,G,F,P,R,S,t,fun d st1 q α1 G1 H1 v s1 P1 S1 r1=>?_⟩
 cases d with
 |bl b=>
  unfold Rep at r1
  exact⟨b,r1,k _ st1 q α1 G1 H1 _ s1 P1 S1 (by unfold Rep;rfl)⟩
 |_=>exact q.elim
noncomputable def Jz(t:DT)(ta tb:DE):DE:=fun σ st K=>t σ st fun b st1=>if b=true then ta σ st1 K else tb σ st1 K
theorem LH{t:DT}(hc:PT X c (LT t))(ha:PE X a (LE ta))(hb:PE X b (LE tb)):PE X (.IfExp c a b pos) (LE (Jz t ta tb)):=PE.imp (En hc ha hb) fun σ H Q ⟨α,σd,st,K,G,F,P,R,S,t,k⟩=>by
 refine⟨α,σd,st,_,G,F,P,R,S,t,fun b st1 q α1 G1 H1 s1 P1 S1=>?_⟩
 cases b with
 |true=>exact⟨α1,σd,st1,K,G1,F,P1,R.step s1,S1,q,k.at s1⟩
 |false=>exact⟨α1,σd,st1,K,G1,F,P1,R.step s1,S1,q,k.at s1⟩
noncomputable def ao:DA:=fun _ st K=>K [] st
noncomputable def af(ta:DE)(tr:DA):DA:=fun σ st K=>ta σ st fun x st1=>tr σ st1 fun xs st2=>K (x::xs) st2
theorem yV:PA X [] (LA ao):=PA.imp Ka fun σ H Q ⟨α,σd,st,K,G,F,P,R,S,t,k⟩=>k [] st t α G H [] Step.refl P S (by unfold aK;rfl)
theorem vP{tr:DA}(ha:PE X e (LE te))(hr:PA X es (LA tr))(hs:starEach (e::es) X.env=(false,eval e X.env)::starEach es X.env:=by rfl):PA X (e::es) (LA (af te tr)):=PA.imp (G8 ha hr hs) fun σ H Q ⟨α,σd,st,K,G,F,P,R,S,t,k⟩=>by
 refine⟨α,σd,st,_,G,F,P,R,S,t,fun d st1 q α1 G1 H1 v s1 P1 S1 r1=>?_⟩
 refine⟨α1,σd,st1,_,G1,F,P1,R.step s1,S1,q,fun ds st2 q2 α2 G2 H2 vs s2 P2 S2 r2=>?_⟩
 exact k _ st2 q2 α2 G2 H2 (v::vs) (s1.trans s2) P2 S2 (by unfold aK;exact⟨v,vs,rfl,r1.step s2,r2⟩)
noncomputable def jr(t:DA):DE:=fun σ st K=>t σ st fun ds st1=>ds.length≤sizeLine∧K (.tup ds) st1
noncomputable def oy(t:DA):DE:=fun σ st K=>t σ st fun ds st1=>ds.length≤sizeLine∧K (.lst ds) st1
noncomputable def xI(t:DA):DE:=fun σ st K=>t σ st fun ds st1=>ds.length≤sizeLine∧K (.ref st1.length) (st1++[.lst ds])
theorem LK.tup{α:List (Option Addr)}{G F H:Hp}{K:DK}{Q:VK}{ds:List D}{vs:List V}{st:ag}{p:Addr}(k:LK α G F K Q)(P:bU G F H)(q:K (.tup ds) st)(S:aS α st G)(r:aK α G ds vs)(hp:H p=none):Q (.ref p) (upd H p (.tup vs)):=
 have hg:=(P.none hp).1
 k _ st q α _ _ _ (Step.laid hg) (P.laid hp) (S.laid hg) (by unfold Rep;exact⟨p,vs,rfl,S.jP hg,a5,r.step (Step.laid hg)⟩)
theorem LK.lst{α:List (Option Addr)}{G F H:Hp}{K:DK}{Q:VK}{ds:List D}{vs:List V}{st:ag}{p:Addr}(k:LK α G F K Q)(P:bU G F H)(q:K (.lst ds) st)(S:aS α st G)(r:aK α G ds vs)(hp:H p=none):Q (.ref p) (upd H p (.lst vs)):=
 have hg:=(P.none hp).1
 k _ st q α _ _ _ (Step.laid hg) (P.laid hp) (S.laid hg) (by unfold Rep;exact⟨p,vs,rfl,S.jP hg,.of a5,r.step (Step.laid hg)⟩)
theorem LK.new{α:List (Option Addr)}{G F H:Hp}{K:DK}{Q:VK}{ds:List D}{vs:List V}{st:ag}{p:Addr}(k:LK α G F K Q)(P:bU G F H)(q:K (.ref st.length) (st++[.lst ds]))(S:aS α st G)(r:aK α G ds vs)(hp:H p=none):Q (.ref p) (upd H p (.lst vs)):=
 have hg:=(P.none hp).1
 k _ _ q (α++[some p]) _ _ _ (Step.cell hg) (P.laid hp) (S.cell hg ⟨vs,a5,r.step (Step.cell hg)⟩) (by
  unfold Rep
  refine .inr ⟨p,?_,rfl⟩
  rw[List.getElem?_append_right (by rw[S.len];exact Nat.le_refl _),S.len,Nat.sub_self]
  rfl)
theorem Lk{n:Nat}{t:DA}(h:PA X es (LA t)):PE X (.Tuple es n pos) (LE (jr t)):=PE.imp (IU h) fun σ H Q ⟨α,σd,st,K,G,F,P,R,S,t,k⟩=>
 ⟨α,σd,st,_,G,F,P,R,S,t,fun ds st1 q α1 G1 H1 vs s1 P1 S1 r1=>⟨by rw[←r1.length];exact q.1,fun p hp=>(k.at s1).tup P1 q.2 S1 r1 hp⟩⟩
theorem Mh{t:DA}(h:PA X es (LA t)):PE X (.List es pos) (LE (oy t)):=PE.imp (Dy h) fun σ H Q ⟨α,σd,st,K,G,F,P,R,S,t,k⟩=>
 ⟨α,σd,st,_,G,F,P,R,S,t,fun ds st1 q α1 G1 H1 vs s1 P1 S1 r1=>⟨by rw[←r1.length];exact q.1,fun p hp=>(k.at s1).lst P1 q.2 S1 r1 hp⟩⟩
theorem LN{t:DA}(h:PA X es (LA t)):PE X (.List es pos) (LE (xI t)):=PE.imp (Dy h) fun σ H Q ⟨α,σd,st,K,G,F,P,R,S,t,k⟩=>
 ⟨α,σd,st,_,G,F,P,R,S,t,fun ds st1 q α1 G1 H1 vs s1 P1 S1 r1=>⟨by rw[←r1.length];exact q.1,fun p hp=>(k.at s1).new P1 q.2 S1 r1 hp⟩⟩
noncomputable abbrev bW:=List D→ag→DK→Prop
inductive KZ(T:bW)(vs:List V)(H:Hp)(Q:VK):Prop
 |mk (α:List (Option Addr)) (ds:List D) (st:ag) (K:DK) (G F:Hp) (P:bU G F H) (rx:aK α G ds vs) (S:aS α st G) (h:T ds st K) (k:LK α G F K Q):KZ T vs H Q
noncomputable def cn(S:bW):Sp:=fun vs H Q _=>KZ S vs H Q
noncomputable def aC(S:bW)(t:DA):DE:=fun σ st K=>t σ st fun ds st1=>S ds st1 K
theorem LE.call{S:bW}{t:DA}{σ:L2.St}{H:Hp}{Q:VK}(h:LE (aC S t) σ H Q):FW (cn S) [] E0 (LA t) σ H Q:=by
 obtain⟨α,σd,st,K,G,F,P,R,S,t,k⟩:=h
 refine⟨α,σd,st,_,G,F,P,R,S,t,fun ds st1 q α1 G1 H1 vs s1 P1 S1 r1=>?_⟩
 try dsimp only
 rw[List.append_nil]
 exact⟨α1,ds,st1,K,G1,F,P1,r1,S1,q,k.at s1⟩
theorem JD{S:bW}{k:Nat}{f:Addr}{fd:FuncData}{ps:List Str}{x:Str}{p:Pos}{t:DA}(F:a8 X.prog X.w X.K X.mg X.base cf k f fd ps (cn S))(hr:cJ k X.A)(hg:Gl X x)(hm:X.mg x=some (.ref f))(hk:PySem.W.keepIn X.K (.ref f)=true)(hb:Binds X.K fd ps [])
 (ha:PA X (e::es) (LA t)) (hdb:(x==("__debug__":Str))=false:=by decide) (he:starEach (e::es) X.env=(false,eval e X.env)::starEach es X.env:=by rfl) (hpl:(backTo pos (starEach es X.env)).any (·.1)=false:=by rfl):
 PE X (.Call (.Name x p) (e::es) [] pos) (LE (aC S t)):=PE.imp (Hy F hr hg hm hk hb .nil Bg ha hdb he hpl) fun _ _ _ h=>LE.call h
noncomputable def cq(r:fZ)(t:DA):DE:=fun σ st K=>t σ st fun ds st1=>r ds st1 K
theorem LE.cb{r:fZ}{t:DA}{σ:L2.St}{H:Hp}{Q:VK}(h:LE (cq r t) σ H Q):Kh (iu r) (LA t) σ H Q:=by
 obtain⟨α,σd,st,K,G,F,P,R,S,t,k⟩:=h
 refine⟨α,σd,st,_,G,F,P,R,S,t,fun ds st1 q α1 G1 H1 vs s1 P1 S1 r1=>?_⟩
 exact⟨α1,ds,st1,K,G1,F,P1,r1,S1,q,k.at s1⟩
end
end L3
namespace L3
open PySem PySem.Spec L2
open PyProof.Rows hiding St
section
variable {X:Cx}
theorem bX.imp{f:Value→Value→Sem Value}{r r':R2}(h:bX X f r)(k:∀x y H Q,r' x y H Q→r x y H Q):bX X f r':=fun pins s σ H x y v u Q I rx ry q=>h pins s σ H x y v u Q I rx ry (k x y H Q q)
theorem cx.imp{f:Value}{r r':List V→Hp→VK→Prop}(h:cx X f r)(k:∀xs H Q,r' xs H Q→r xs H Q):cx X f r':=fun pins s σ H xs us Q I rs q=>h pins s σ H xs us Q I rs (k xs H Q q)
noncomputable def wo(C:Int→Int→Prop)(g:Int→Int→D):dw:=fun x y st K=>match x,y with| .int i,.int j=>C i j∧K (g i j) st|_,_=>False
theorem ni{f:Value→Value→Sem Value}{C:Int→Int→Prop}{g:Int→Int→D}{g':Int→Int→V}(hg:∀i j α H,Rep α H (g i j) (g' i j))(h:bX X f (rI C g')):bX X f (LR (wo C g)):=bX.imp h fun x y H Q ⟨α,d,e,st,K,G,F',P,r1,r2,S,q,k⟩=>by
 cases d<;>cases e<;>first
  |exact q.elim
  |(unfold Rep at r1 r2;exact⟨_,_,r1,r2,q.1,k.here P q.2 S (hg _ _ _ _)⟩)
noncomputable abbrev T2:Int→Int→Prop:=fun _ _=>True
theorem Bx{g:Int→Int→V}{f:Value→Value→Sem Value}(h:bX X f (ym g)):bX X f (rI T2 g):=bX.imp h fun x y H Q ⟨i,j,e1,e2,_,q⟩=>⟨i,j,e1,e2,q⟩
noncomputable abbrev Gu:dw:=wo T2 fun i j=> .int (i-j)
noncomputable abbrev Dj:dw:=wo (fun _ j=>j≠0∧j.natAbs.log2<9000) fun i j=> .int (i.fdiv j)
noncomputable abbrev Gm:dw:=wo (fun _ j=>j≠0) fun i j=> .int (i.fmod j)
noncomputable abbrev Gq:dw:=wo E5 fun i j=> .int (i^j.toNat)
noncomputable abbrev Jx:dw:=wo T2 fun i j=> .bl (decide (i<j))
noncomputable abbrev K8:dw:=wo T2 fun i j=> .bl (decide (j<i))
theorem LV:bX X (binaryOp .Sub) (LR Gu):=ni (fun _ _ _ _=>by unfold Rep;rfl) (Bx K0)
theorem J8:bX X (binaryOp .FloorDiv) (LR Dj):=ni (fun _ _ _ _=>by unfold Rep;rfl) (F6 fun i j _ _ _ _ _ hc q=>floordiv_int hc.1 q (.inl (PyProof.noPylong_of_log2 hc.2)))
theorem LP:bX X (binaryOp .Mod) (LR Gm):=ni (fun _ _ _ _=>by unfold Rep;rfl) GX
theorem ME:bX X (binaryOp .Pow) (LR Gq):=ni (fun _ _ _ _=>by unfold Rep;rfl) JF
theorem NA:bX X (compareOp .Lt) (LR Jx):=ni (fun _ _ _ _=>by unfold Rep;rfl) (Bx LY)
theorem NZ:bX X (compareOp .Gt) (LR K8):=ni (fun _ _ _ _=>by unfold Rep;rfl) (Bx LD)
noncomputable def F0:xQ:=fun x st K=>match x with| .int i=>K (.int (-i)) st|_=>False
theorem ML:AL X (unaryOp .USub) (FY F0):=fun pins s σ H x v Q I rx ⟨α,d,st,K,G,F',P,r,S,q,k⟩=>by
 cases d<;>first
  |exact q.elim
  |(unfold Rep at r;exact KI pins s σ H x v Q I rx ⟨_,r,k.here P q S (by unfold Rep;rfl)⟩)
theorem Inv.vH{pins:List (Addr×Obj)}{σ:L2.St}{H:Hp}{s:Shared}{l:Addr}{xs:List V}(I:Inv X pins σ H s)(h:Rd H l (.lst xs)):
 xs.length≤sizeLine∧∃(au:List Value) (n:Nat),Vals xs au∧xs.length=au.length∧s.heap.get? l=some {cls:= .type "list",data:= .seq au.toArray n}:=by
 obtain⟨z,au,n,r,e⟩:=h.ok I.aL
 exact⟨z,au,n,r,r.length,e⟩
theorem fQ{G F H:Hp}(P:bU G F H){a:Addr}{u:HO}(h:Rd G a u):Rd H a u:=by
 rcases h with h|⟨o,h⟩
 · exact .inl (P.get h)
 · exact .inr ⟨o,P.get h⟩
theorem Gz:bX X (binaryOp .Add) (fun x y H Q=>∃l b xs zs,x= .ref l∧y= .ref b∧Rd H l (.lst xs)∧Rd H b (.lst zs)∧xs.length+zs.length≤sizeLine∧∀p,H p=none→Q (.ref p) (upd H p (.lst (xs++zs)))):=by
 intro pins s σ H x y v u Q I rx ry h
 obtain⟨l,b,xs,zs,rfl,rfl,hH,hB,hz,q⟩:=h
 cases rx
 cases ry
 obtain⟨z,au,n,r,hl,e⟩:=Inv.vH I hH
 obtain⟨z2,its2,n2,r2,hl2,e2⟩:=Inv.vH I hB
 refine PySem.P.add_list e e2 ?_ (by rw[List.size_toArray,List.size_toArray];omega)
 have ea:au.toArray++its2.toArray=(au++its2).toArray:=by simp
 rw[ea]
 exact⟨.ref _,_,I.Ef (t':=s.toks) (r.append r2) (by rw[List.length_append];omega),rfl,q _ I.fresh⟩
theorem Ay:bX X (binaryOp .Mult) (fun x y H Q=>∃l k xs,x= .ref l∧y= .int k∧Rd H l (.lst xs)∧ -(2^63)≤k∧k<2^63∧xs.length*k.toNat≤sizeLine∧
 ∀p,H p=none→Q (.ref p) (upd H p (.lst (List.replicate k.toNat xs).flatten))):=by
 intro pins s σ H x y v u Q I rx ry h
 obtain⟨l,k,xs,rfl,rfl,hH,h1,h2,hz,q⟩:=h
 cases rx
 obtain⟨t,rfl⟩:=ry
 obtain⟨z,au,n,r,hl,e⟩:=Inv.vH I hH
 have hlen:au.toArray.size*k.toNat≤sizeLine:=by rw[List.size_toArray,←hl];exact hz
 have hcap:¬au.toArray.size*k.toNat>(2^63-1)/8:=by
  have:(sizeLine:Nat)≤(2^63-1)/8:=by decide
  omega
 have hfit:¬(!Builtin.List.listFitsIndex k)=true:=by
  rw[fitsIndex_both h1 h2]
  exact Bool.false_ne_true
 have hlong:¬Builtin.List.listTooLong (au.toArray.size*k.toNat)=true:=by
  rw[ED hlen]
  exact Bool.false_ne_true
 have hnew:List.foldl (fun x1 x2=>x1++x2) #[] (List.replicate (if au.toArray.isEmpty=true then 0 else k.toNat) au.toArray)=(List.replicate k.toNat au).flatten.toArray:=by
  have f0:∀m:Nat,List.foldl (fun x1 x2=>x1++x2) #[] (List.replicate m au.toArray)=(List.replicate m au).flatten.toArray:=fun m=>by
   have:=foldl_rep au m []
   rw[List.nil_append]at this
   exact this
  rw[f0]
  cases au with
  |nil=>simp
  |cons a r'=>rw[if_neg (by simp)]
 refine wpAny_binaryOp_repeat_ref (T:="list") (U:="int") (by decide) ⟨_,e,rfl⟩ (fun s'=>typeIs_int s' k t) noFill_list_mul F.fills_int_mul F.slot_int_rmul repeat_list F.slot_int_index.lookup
  (call_meets F.slot_int_rmul (typeIs_int s k t) F.entry_int_rmul (F.args_int_rmul_2 _ _) (int___rmul___int_list k t l au.toArray n)
    ⟨e,rfl,⟨_,e,rfl⟩,call_meets F.slot_list_mul ⟨_,e,rfl⟩ F.entry_list_mul (F.args_list_mul_2 _ _) (AutoListH.list___mul___list_int_3 l au.toArray n k t hfit hcap hlong) ⟨e,?_⟩⟩)
 rw[hnew]
 exact⟨.ref _,_,I.Ef (t':=s.toks) (r.rep k.toNat) (by rw[len_rep,Nat.mul_comm];exact hz),rfl,q _ I.fresh⟩
theorem Ep:bX X (binaryOp .Add) (fun x y H Q=>∃a b xs ys,x= .ref a∧y= .ref b∧H a=some (.tup xs)∧H b=some (.tup ys)∧xs.length+ys.length≤sizeLine∧
 (xs=[]→Q (.ref b) H)∧(xs≠ []→ys=[]→Q (.ref a) H)∧(xs≠ []→ys≠ []→∀p,H p=none→Q (.ref p) (upd H p (.tup (xs++ys))))):=by
 intro pins s σ H x y v u Q I rx ry h
 obtain⟨a,b,xs,ys,rfl,rfl,ha,hb,hz,q0,q1,q2⟩:=h
 by_cases hx:xs=[]
 · cases rx
   cases ry
   obtain⟨au,r1,p1,_⟩:=I.tuple (.of ha)
   obtain⟨its2,r2,p2,_⟩:=I.tuple (.of hb)
   obtain⟨⟨cls,dd,data,sl⟩,ho,hc,n,hd⟩:=id p1
   obtain⟨⟨cls2,dd2,data2,sl2⟩,ho2,hc2,n2,hd2⟩:=id p2
   simp only at hc hd hc2 hd2
   subst hc hd hc2 hd2
   have hi:au=[]:=(L2.Vals.sf r1).mpr hx
   exact concat_meets ⟨_,ho,rfl⟩ ⟨_,ho2,rfl⟩ noFill_tuple_add seq_tuple_add PySem.F.slot_tuple_add PySem.F.entry_tuple_add (PySem.F.args_tuple_add_2 _ _)
    (tuple_addW0 a b au.toArray its2.toArray n n2 dd dd2 sl sl2 (by simp[hi])) ⟨ho,ho2,⟨.ref b,H,I,rfl,q0 hx⟩⟩
 · exact GC pins s σ H _ _ v u Q I rx ry ⟨a,b,xs,ys,rfl,rfl,.of ha,.of hb,hx,hz,q1 hx,q2 hx⟩
theorem vF:fillsNumberSlot (.type "tuple") "mul"=pure false:=
 PySem.fillsNumberSlot_seq (id:="tuple.__mul__") (r:=some (.builtin "tuple.__rmul__")) F.slot_tuple_mul.lookup (by decide+kernel) F.slot_tuple_rmul.lookup (by decide+kernel)
theorem Bq:seqRepeat? (.type "tuple")=pure (some (.builtin "tuple.__mul__")):=by
 unfold seqRepeat?
 rw[PySem.seqSlot_of (T:="tuple") (name:="__mul__") (id:="tuple.__mul__") F.slot_tuple_mul.lookup (by decide+kernel),PySem.seqSlot_of (T:="tuple") (name:="__rmul__") (id:="tuple.__rmul__") F.slot_tuple_rmul.lookup (by decide+kernel)]
 rfl
theorem ya(a:Int)(t:Tok)(l:Addr)(au:Array Value)(n:Nat)(dd:Option Addr)(sl:Array (Option Value)):Meets (Builtin.«int.__rmul__» ⟨[.int a t,.ref l],[]⟩) (fun _ R s=>s.heap.get? l=some {cls:= .type "tuple",dict:=dd,data:= .seq au n,slots:=sl}∧R (.ok (.ret Value.notImplemented)) s):=
 .of_wp fun P w A R s h=>by
  obtain⟨hp,g,d,tk,os⟩:=s
  obtain⟨hl,h⟩:=h
  wp_walk
  exact⟨_,rfl,h⟩
theorem yL(l:Addr)(au:Array Value)(n:Nat)(dd:Option Addr)(sl:Array (Option Value))(x:Int)(u:Tok)(h0:(decide (x< -(2^63))||decide (x≥2^63))=false)(h1:(au.isEmpty||x==1)=true):
 Meets (Builtin.«tuple.__mul__» ⟨[.ref l,.int x u],[]⟩) (fun _ R s=>s.heap.get? l=some {cls:= .type "tuple",dict:=dd,data:= .seq au n,slots:=sl}∧R (.ok (.ret (.ref l))) s):=
 .of_wp fun P w A R s h=>by
  obtain⟨hp,g,d,tk,os⟩:=s
  obtain⟨hl,h⟩:=h
  wp_walk
  refine wpAny_ite_false (by rw[h0];rfl) ?_
  wp_walk
  exact⟨_,rfl,h⟩
theorem yB(l:Addr)(au:Array Value)(n:Nat)(dd:Option Addr)(sl:Array (Option Value))(x:Int)(u:Tok)(h0:(decide (x< -(2^63))||decide (x≥2^63))=false)(h1:(au.isEmpty||x==1)=false)(h2:(decide (x≤0)||au.isEmpty)=true):
 Meets (Builtin.«tuple.__mul__» ⟨[.ref l,.int x u],[]⟩) (fun _ R s=>s.heap.get? l=some {cls:= .type "tuple",dict:=dd,data:= .seq au n,slots:=sl}∧R (.ok (.ret (.ref s.heap.objs.size))) {s with heap:=s.heap.push {cls:= .type "tuple",data:= .seq #[]}}):=
 .of_wp fun P w A R s h=>by
  obtain⟨hp,g,d,tk,os⟩:=s
  obtain⟨hl,h⟩:=h
  wp_walk
  refine wpAny_ite_false (by rw[h0];rfl) ?_
  wp_walk
  exact⟨_,rfl,h⟩
theorem yt(l:Addr)(au:Array Value)(n:Nat)(dd:Option Addr)(sl:Array (Option Value))(x:Int)(u:Tok)(h0:(decide (x< -(2^63))||decide (x≥2^63))=false)(h1:(au.isEmpty||x==1)=false)(h2:(decide (x≤0)||au.isEmpty)=false)(h3:¬((au.size:Int)*x>(2^63-1)/8))(h4:Builtin.Tuple.tupleTooMany (au.size*x)=false)
 (hz:(List.foldl (fun x1 x2=>x1++x2) #[] (List.replicate x.toNat au)).size≤sizeLine):
 Meets (Builtin.«tuple.__mul__» ⟨[.ref l,.int x u],[]⟩) (fun _ R s=>s.heap.get? l=some {cls:= .type "tuple",dict:=dd,data:= .seq au n,slots:=sl}∧R (.ok (.ret (.ref s.heap.objs.size))) {s with heap:=s.heap.push {cls:= .type "tuple",data:= .seq (List.foldl (fun x1 x2=>x1++x2) #[] (List.replicate x.toNat au))}}):=
 .of_wp fun P w A R s h=>by
  obtain⟨hp,g,d,tk,os⟩:=s
  obtain⟨hl,h⟩:=h
  wp_walk
  refine wpAny_ite_false (by rw[h0];rfl) ?_
  wp_walk
  refine wpAny_ite_false (decide_eq_false h3) ?_
  wp_walk
  exact⟨_,rfl,h⟩
theorem GO:bX X (binaryOp .Mult) (fun x y H Q=>∃l k xs,x= .ref l∧y= .int k∧H l=some (.tup xs)∧ -(2^63)≤k∧k<2^63∧xs.length*k.toNat≤sizeLine∧
 ((xs=[]∨k=1)→Q (.ref l) H)∧(¬(xs=[]∨k=1)→∀p,H p=none→Q (.ref p) (upd H p (.tup (List.replicate k.toNat xs).flatten)))):=by
 intro pins s σ H x y v u Q I rx ry h
 obtain⟨l,k,xs,rfl,rfl,hH,h1,h2,hz,q1,q2⟩:=h
 cases rx
 obtain⟨t,rfl⟩:=ry
 obtain⟨au,r,p1,_⟩:=I.tuple (.of hH)
 obtain⟨⟨cls,dd,data,sl⟩,ho,hc,n,hd⟩:=id p1
 simp only at hc hd
 subst hc hd
 have hl:xs.length=au.length:=r.length
 have f0:(decide (k< -(2^63))||decide (k≥2^63))=false:=by
  rw[decide_eq_false (by omega),decide_eq_false (by omega)];rfl
 refine wpAny_binaryOp_repeat_ref (T:="tuple") (U:="int") (by decide) ⟨_,ho,rfl⟩ (fun s'=>typeIs_int s' k t) vF F.fills_int_mul F.slot_int_rmul Bq F.slot_int_index.lookup
  (call_meets F.slot_int_rmul (typeIs_int s k t) F.entry_int_rmul (F.args_int_rmul_2 _ _) (ya k t l au.toArray n dd sl) ⟨ho,rfl,⟨_,ho,rfl⟩,?_⟩)
 by_cases hs:xs=[]∨k=1
 · have f1:(au.toArray.isEmpty||k==1)=true:=by
    rcases hs with z|z
    · have:au=[]:=List.length_eq_zero_iff.mp (by rw[←hl,z];rfl)
      rw[this];rfl
    · rw[z];simp
   exact call_meets F.slot_tuple_mul ⟨_,ho,rfl⟩ F.entry_tuple_mul (F.args_tuple_mul_2 _ _) (yL l au.toArray n dd sl k t f0 f1) ⟨ho,⟨.ref l,H,I,rfl,q1 hs⟩⟩
 · have hne:au≠ []:=fun z=>hs (.inl (List.length_eq_zero_iff.mp (by rw[hl,z];rfl)))
   have hk1:k≠1:=fun z=>hs (.inr z)
   have e1:au.toArray.isEmpty=false:=by simpa using hne
   have f1:(au.toArray.isEmpty||k==1)=false:=by rw[e1];simpa using hk1
   have new:∀(us:List Value) (ys:List V),Vals ys us→ys.length≤sizeLine→Inv X pins σ (upd H s.heap.objs.size (.tup ys)) {s with heap:=s.heap.push {cls:= .type "tuple",data:= .seq us.toArray}}:=fun us ys hv hy=>
    I.laid (t':=s.toks) (fun _ _ q=>Heap.get?_push_of_some _ q) (Nat.le_refl _) ⟨hy,us,hv,⟨_,Heap.get?_push_size _ rfl,rfl,_,rfl⟩⟩
   by_cases h0:k≤0
   · have f2:(decide (k≤0)||au.toArray.isEmpty)=true:=by rw[decide_eq_true h0];rfl
     refine call_meets F.slot_tuple_mul ⟨_,ho,rfl⟩ F.entry_tuple_mul (F.args_tuple_mul_2 _ _) (yB l au.toArray n dd sl k t f0 f1 f2) ⟨ho,?_⟩
     have ez:k.toNat=0:=by omega
     rw[ez]at q2
     exact⟨.ref _,_,new [] [] .nil (Nat.zero_le _),rfl,q2 hs _ I.fresh⟩
   · have f2:(decide (k≤0)||au.toArray.isEmpty)=false:=by rw[decide_eq_false h0,e1];rfl
     have hk:(k.toNat:Int)=k:=by omega
     have hlen:au.toArray.size*k.toNat≤sizeLine:=by rw[List.size_toArray,←hl];exact hz
     have hsz:((au.toArray.size:Nat):Int)*k≤(sizeLine:Int):=by
      rw[←hk]
      exact_mod_cast hlen
     have f3:¬(((au.toArray.size:Nat):Int)*k>(2^63-1)/8):=by
      have:((sizeLine:Nat):Int)≤(2^63-1)/8:=by decide
      omega
     have f4:Builtin.Tuple.tupleTooMany (((au.toArray.size:Nat):Int)*k)=false:=by
      unfold Builtin.Tuple.tupleTooMany
      exact decide_eq_false (by omega)
     have hnew:List.foldl (fun x1 x2=>x1++x2) #[] (List.replicate k.toNat au.toArray)=(List.replicate k.toNat au).flatten.toArray:=by
      have:=foldl_rep au k.toNat []
      rw[List.nil_append]at this
      exact this
     have hfl:(List.replicate k.toNat au).flatten.length=au.length*k.toNat:=by rw[len_rep,Nat.mul_comm]
     refine call_meets F.slot_tuple_mul ⟨_,ho,rfl⟩ F.entry_tuple_mul (F.args_tuple_mul_2 _ _) (yt l au.toArray n dd sl k t f0 f1 f2 f3 f4 (by rw[hnew,List.size_toArray,hfl];exact hlen)) ⟨ho,?_⟩
     rw[hnew]
     exact⟨.ref _,_,new _ _ (r.rep k.toNat) (by rw[len_rep,Nat.mul_comm];exact hz),rfl,q2 hs _ I.fresh⟩
noncomputable def FR:dw:=fun x y st K=>match x,y with
 | .int i,.int j=>K (.int (i+j)) st
 | .tup xs,.tup ys=>xs.length+ys.length≤sizeLine∧K (.tup (xs++ys)) st
 | .lst xs,.lst ys=>xs.length+ys.length≤sizeLine∧K (.lst (xs++ys)) st
 | .str x,.str y=>x.length+y.length≤sizeLine∧K (.str (x++y)) st
 |_,_=>False
theorem MM:bX X (binaryOp .Add) (LR FR):=fun pins s σ H x y v u Q I rx ry ⟨α,d,e,st,K,G,F',P,r1,r2,S,q,k⟩=>by
 cases d<;>cases e<;>try exact q.elim
 · unfold Rep at r1 r2
   exact JZ pins s σ H x y v u Q I rx ry ⟨_,_,r1,r2,k.here P q S (by unfold Rep;rfl)⟩
 · unfold Rep at r1 r2
   exact A5 pins s σ H x y v u Q I rx ry ⟨_,_,r1,r2,q.1,k.here P q.2 S (by unfold Rep;rfl)⟩
 · unfold Rep at r1 r2
   obtain⟨a,vs,rfl,na,ha,ra⟩:=r1
   obtain⟨b,ws,rfl,nb,hb,rb⟩:=r2
   refine Gz pins s σ H _ _ v u Q I rx ry ⟨a,b,vs,ws,rfl,rfl,fQ P ha,fQ P hb,by rw[←ra.length,←rb.length];exact q.1,fun p hp=>?_⟩
   exact k.lst P q.2 S (bc.mpr (fw (bc.mp ra) (bc.mp rb))) hp
 · rename_i xs ys
   unfold Rep at r1 r2
   obtain⟨a,vs,rfl,na,ha,ra⟩:=r1
   obtain⟨b,ws,rfl,nb,hb,rb⟩:=r2
   have hl1:=ra.length
   have hl2:=rb.length
   refine Ep pins s σ H _ _ v u Q I rx ry ⟨a,b,vs,ws,rfl,rfl,P.get ha,P.get hb,by rw[←hl1,←hl2];exact q.1,fun z=>?_,fun _ z=>?_,fun _ _ p hp=>?_⟩
   · refine k.here P q.2 S ?_
     unfold Rep
     have:xs=[]:=by rw[z]at hl1;exact List.length_eq_zero_iff.mp hl1
     subst this
     exact⟨b,ws,rfl,nb,hb,rb⟩
   · refine k.here P q.2 S ?_
     unfold Rep
     have:ys=[]:=by rw[z]at hl2;exact List.length_eq_zero_iff.mp hl2
     subst this
     rw[List.append_nil]
     exact⟨a,vs,rfl,na,ha,ra⟩
   · exact k.tup P q.2 S (bc.mpr (fw (bc.mp ra) (bc.mp rb))) hp
noncomputable def Gj:dw:=fun x y st K=>match x,y with
 | .int i,.int j=>IntMulOk i j∧K (.int (i*j)) st
 | .lst xs,.int k=>(-(2^63)≤k∧k<2^63∧xs.length*k.toNat≤sizeLine)∧K (.lst (List.replicate k.toNat xs).flatten) st
 | .tup xs,.int k=>(-(2^63)≤k∧k<2^63∧xs.length*k.toNat≤sizeLine)∧K (.tup (List.replicate k.toNat xs).flatten) st
 |_,_=>False
theorem Mn:bX X (binaryOp .Mult) (LR Gj):=fun pins s σ H x y v u Q I rx ry ⟨α,d,e,st,K,G,F',P,r1,r2,S,q,k⟩=>by
 cases d<;>cases e<;>try exact q.elim
 · unfold Rep at r1 r2
   have h:bX X (binaryOp .Mult) (rI IntMulOk fun i j=> .int (i*j)):=F6 fun _ _ _ _ _ _ _ hc q=>mul_int q hc
   exact h pins s σ H x y v u Q I rx ry ⟨_,_,r1,r2,q.1,k.here P q.2 S (by unfold Rep;rfl)⟩
 · unfold Rep at r1 r2
   obtain⟨a,vs,rfl,na,ha,ra⟩:=r1
   refine Ay pins s σ H _ _ v u Q I rx ry ⟨a,_,vs,rfl,r2,fQ P ha,q.1.1,q.1.2.1,by rw[←ra.length];exact q.1.2.2,fun p hp=>?_⟩
   exact k.lst P q.2 S (bc.mpr (kZ (bc.mp ra) _)) hp
 · rename_i xs m
   have r1':=r1
   unfold Rep at r1 r2
   obtain⟨a,vs,rfl,na,ha,ra⟩:=r1
   refine GO pins s σ H _ _ v u Q I rx ry ⟨a,_,vs,rfl,r2,P.get ha,q.1.1,q.1.2.1,by rw[←ra.length];exact q.1.2.2,fun hs=>?_,fun _ p hp=>k.tup P q.2 S (bc.mpr (kZ (bc.mp ra) _)) hp⟩
   have e:(List.replicate m.toNat xs).flatten=xs:=by
    rcases hs with z|z
    · have:xs=[]:=List.length_eq_zero_iff.mp (by rw[ra.length,z];rfl)
      rw[this];simp
    · rw[z];simp
   have q2:=q.2
   rw[e]at q2
   exact k.here P q2 S r1'
noncomputable def live(st:ag):D→Bool
 | .ref n=>(match st[n]? with|some (.lst _)=>true|some (.ins _ _)=>true|_=>false)
 |_=>true
theorem yo{α:List (Option Addr)}{H:Hp}{st:ag}{n:Nat}{v:V}(S:aS α st H)(h:live st (.ref n)=true)(r:Rep α H (.ref n) v):∃a,v= .ref a:=by
 unfold live at h
 simp only at h
 split at h
 · rename_i e
   obtain⟨a,ea,_⟩:=S.ja e
   exact⟨a,dU ea r⟩
 · rename_i e
   obtain⟨a,ea,_⟩:=S.xC e
   exact⟨a,dU ea r⟩
 · cases h
noncomputable def GW:dw:=fun x y st K=>match y with| .aE=>live st x=true∧K (.bl (match x with| .aE=>false|_=>true)) st|_=>False
theorem HX:bX X (compareOp .IsNot) (LR GW):=bX.imp HY fun x y H Q ⟨α,d,e,st,K,G,F',P,r1,r2,S,q,k⟩=>by
 cases e<;>try exact q.elim
 unfold Rep at r2
 refine⟨r2,k.here P q.2 S ?_⟩
 unfold Rep
 cases d
 case ref n=>
  obtain⟨a,rfl⟩:=yo S q.1 r1
  rfl
 all_goals(unfold Rep at r1;first|(rw[r1];rfl)|(obtain⟨a,vs,rfl,_⟩:=r1;rfl))
noncomputable def pS:dw:=fun x y st K=>match y with
 | .int i=>(match x with
   | .lst xs=>(match eB xs i with|some d=>K d st|none=>False)
   | .tup xs=>(match eB xs i with|some d=>K d st|none=>False)
   | .ref n=>(match st[n]? with|some (.lst xs)=>(match eB xs i with|some d=>K d st|none=>False)|_=>False)
   |_=>False)
 |_=>False
theorem aK.eB{α:List (Option Addr)}{H:Hp}{ds:List D}{vs:List V}{i:Int}{d:D}(h:aK α H ds vs)(e:L2.eB ds i=some d):∃v,L2.eB vs i=some v∧Rep α H d v:=by
 unfold L2.eB at e⊢
 rw[←h.length]
 cases q:j9 ds.length i with
 |none=>rw[q]at e;cases e
 |some j=>rw[q]at e;exact h.get e
theorem NO:F3 X (LR pS):=fun value slice pins s σ H x y v u Q I rx ry ⟨α,d,e,st,K,G,F',P,r1,r2,S,q,k⟩ hs=>by
 cases e<;>try exact q.elim
 unfold Rep at r2
 cases d<;>try exact q.elim
 · rename_i i n
   unfold pS at q
   simp only at q
   split at q
   · split at q
     · rename_i xs e1 _ d' e2
       obtain⟨a,ea,vs,hv,rv⟩:=S.ja e1
       have r1':=dU ea r1
       subst r1'
       obtain⟨z,ez,rz⟩:=rv.eB e2
       exact As value slice pins s σ H _ _ v u Q I rx ry ⟨a,vs,_,z,rfl,r2,.of (P.get hv),ez,k.here P q S rz⟩ hs
     · exact q.elim
   · exact q.elim
 · unfold pS at q
   simp only at q
   split at q
   · rename_i xs d' e2
     unfold Rep at r1
     obtain⟨a,vs,rfl,na,ha,ra⟩:=r1
     obtain⟨z,ez,rz⟩:=ra.eB e2
     exact As value slice pins s σ H _ _ v u Q I rx ry ⟨a,vs,_,z,rfl,r2,.inl (fQ P ha),ez,k.here P q S rz⟩ hs
   · exact q.elim
 · unfold pS at q
   simp only at q
   split at q
   · rename_i xs d' e2
     unfold Rep at r1
     obtain⟨a,vs,rfl,na,ha,ra⟩:=r1
     obtain⟨z,ez,rz⟩:=ra.eB e2
     exact Iy value slice pins s σ H _ _ v u Q I rx ry ⟨a,vs,_,z,rfl,r2,.of (P.get ha),ez,k.here P q S rz⟩ hs
   · exact q.elim
theorem NV{a b:Expr}{ta tb:DE}{pos:Pos}(ha:PE X a (LE ta))(hb:PE X b (LE tb))(hs:rM b:=by intro _ _;rfl):PE X (.Subscript a b pos) (LE (av pS ta tb)):=PE.imp (Md NO ha hb hs) fun _ _ _ h=>LE.op h
end
end L3
namespace L3
open PySem PySem.Spec L2
open PyProof.Rows hiding St
section
variable {X:Cx}
noncomputable def items?(st:ag):D→Option (List D)
 | .lst xs=>some xs
 | .tup xs=>some xs
 | .ref n=>(match st[n]? with|some (.lst xs)=>some xs|_=>none)
 |_=>none
@[simp] theorem Na(st:ag)(xs:List D):items? st (.lst xs)=some xs:=rfl
@[simp] theorem M8(st:ag)(xs:List D):items? st (.tup xs)=some xs:=rfl
@[simp] theorem items_int(st:ag)(i:Int):items? st (.int i)=none:=rfl
@[simp] theorem NH(st:ag)(i:Bool):items? st (.bl i)=none:=rfl
@[simp] theorem items_str(st:ag)(i:Str):items? st (.str i)=none:=rfl
@[simp] theorem MV(st:ag):items? st .aE=none:=rfl
theorem aI{st:ag}{n:Nat}{xs:List D}(h:st[n]?=some (.lst xs)):items? st (.ref n)=some xs:=by unfold items?;simp only[h]
theorem nH{α:List (Option Addr)}{H:Hp}{st:ag}{d:D}{v:V}{xs:List D}(S:aS α st H)(r:Rep α H d v)(e:items? st d=some xs):
 ∃p vs,v= .ref p∧aK α H xs vs∧(Rd H p (.lst vs)∨H p=some (.tup vs)):=by
 cases d<;>try(cases e;done)
 · unfold items? at e
   simp only at e
   split at e
   · rename_i ys q
     cases e
     obtain⟨a,ea,vs,h1,h2⟩:=S.ja q
     have r':=dU ea r
     subst r'
     exact⟨a,vs,rfl,h2,.inl (.of h1)⟩
   · cases e
 · cases e
   unfold Rep at r
   obtain⟨a,vs,rfl,_,h1,h2⟩:=r
   exact⟨a,vs,rfl,h2,.inl h1⟩
 · cases e
   unfold Rep at r
   obtain⟨a,vs,rfl,_,h1,h2⟩:=r
   exact⟨a,vs,rfl,h2,.inr h1⟩
theorem AV{K:PySem.W.Frag}{G F H:Hp}(P:bU G F H){p:Addr}{vs:List V}(h:Rd G p (.lst vs)∨G p=some (.tup vs)):lH K H p vs∨iz K H p vs:=h.elim (fun z=> .inl (.inl (fQ P z))) fun z=> .inr (.of (P.get z))
theorem i8{α:List (Option Addr)}{H:Hp}{ds:List D}{xs:List V}{d:D}(r:aK α H ds xs)(e:ds=[d]):∃v,xs=[v]∧Rep α H d v:=by
 subst e
 unfold aK at r
 obtain⟨v,q,rfl,h1,h2⟩:=r
 unfold aK at h2
 subst h2
 exact⟨v,rfl,h1⟩
theorem rN{α:List (Option Addr)}{H:Hp}{ds:List D}{xs:List V}{d e:D}(r:aK α H ds xs)(q:ds=[d,e]):∃v u,xs=[v,u]∧Rep α H d v∧Rep α H e u:=by
 subst q
 unfold aK at r
 obtain⟨v,q,rfl,h1,h2⟩:=r
 obtain⟨u,rfl,h3⟩:=i8 h2 rfl
 exact⟨v,u,rfl,h1,h3⟩
noncomputable def xk:fZ:=fun ds st K=>match ds with
 | [.str x]=>x.length≤sizeLine∧K (.int x.length) st
 | [d]=>(match items? st d with|some xs=>K (.int xs.length) st|none=>False)
 |_=>False
theorem MI:cx X (.builtin "len") (iu xk):=fun pins s σ H xs us Q I rs ⟨α,ds,st,K,G,F',P,r,S,q,k⟩=>by
 unfold xk at q
 split at q
 · rename_i x
   obtain⟨v,rfl,r1⟩:=i8 r rfl
   unfold Rep at r1
   subst r1
   exact xT pins s σ H _ us Q I rs ⟨x,rfl,q.1,k.here P q.2 S (by unfold Rep;rfl)⟩
 · rename_i d _
   split at q
   · rename_i ys e
     obtain⟨v,rfl,r1⟩:=i8 r rfl
     obtain⟨p,vs,rfl,r2,h⟩:=nH S r1 e
     refine yc pins s σ H _ us Q I rs ⟨p,vs,rfl,AV P h,k.here P q S (by unfold Rep;rw[r2.length])⟩
   · exact q.elim
 · exact q.elim
noncomputable def Nb(g:Int→Int):fZ:=fun ds st K=>match ds with| [.int i]=>K (.int (g i)) st|_=>False
noncomputable abbrev Bd:fZ:=Nb fun i=>if i<0 then-i else i
theorem MG:cx X (.builtin "abs") (iu Bd):=cx.imp E1 fun xs H Q ⟨α,ds,st,K,G,F',P,r,S,q,k⟩=>by
 unfold Bd Nb at q
 split at q
 · obtain⟨v,rfl,r1⟩:=i8 r rfl
   unfold Rep at r1
   subst r1
   exact⟨_,rfl,k.here P q S (by unfold Rep;rfl)⟩
 · exact q.elim
noncomputable def rE:fZ:=fun ds st K=>match ds with| [d]=>(match items? st d with|some xs=>K (.tup xs) st|none=>False)|_=>False
theorem GL:cx X (.type "tuple") (iu rE):=cx.imp w9 fun xs H Q ⟨α,ds,st,K,G,F',P,r,S,q,k⟩=>by
 unfold rE at q
 split at q
 · rename_i d
   split at q
   · rename_i ys e
     obtain⟨v,rfl,r1⟩:=i8 r rfl
     cases d with
     |tup zs=>
      cases e
      have r0:=r1
      unfold Rep at r1
      obtain⟨a,vs,rfl,na,h1,h2⟩:=r1
      exact⟨a,vs,rfl,.inr ⟨.of (P.get h1),k.here P q S r0⟩⟩
     |_=>
      obtain⟨p,vs,rfl,r2,h⟩:=nH S r1 e
      refine⟨p,vs,rfl,?_⟩
      rcases h with h|h
      · exact .inl ⟨.inl (fQ P h),fun l hl=>k.tup P q S r2 hl⟩
      · first
         |(cases e;done)
         |(exfalso
           unfold items? at e
           simp only at e
           first
            |(split at e
              · rename_i z
                obtain⟨a,ea,vs',h1,h2⟩:=S.ja z
                have e':=dU ea r1
                cases e'
                rw[h]at h1;cases h1
              · cases e)
            |(unfold Rep at r1
              obtain⟨a,vs',e',_,h1,_⟩:=r1
              cases e'
              rcases h1 with h1|⟨o,h1⟩<;>(rw[h]at h1;cases h1)))
   · exact q.elim
 · exact q.elim
noncomputable def uQ:fZ:=fun ds st K=>match ds with| [d]=>(match items? st d with|some xs=>K (.lst xs) st|none=>False)|_=>False
theorem J_:cx X (.type "list") (iu uQ):=cx.imp qK fun xs H Q ⟨α,ds,st,K,G,F',P,r,S,q,k⟩=>by
 unfold uQ at q
 split at q
 · split at q
   · rename_i ys e
     obtain⟨v,rfl,r1⟩:=i8 r rfl
     obtain⟨p,vs,rfl,r2,h⟩:=nH S r1 e
     exact⟨p,vs,rfl,AV P h,fun l hl=>k.lst P q S r2 hl⟩
   · exact q.elim
 · exact q.elim
noncomputable def sq:fZ:=fun ds st K=>match ds with| [d]=>(match items? st d with|some xs=>K (.ref st.length) (st++[.lst xs])|none=>False)|_=>False
theorem HL:cx X (.type "list") (iu sq):=cx.imp qK fun xs H Q ⟨α,ds,st,K,G,F',P,r,S,q,k⟩=>by
 unfold sq at q
 split at q
 · split at q
   · rename_i ys e
     obtain⟨v,rfl,r1⟩:=i8 r rfl
     obtain⟨p,vs,rfl,r2,h⟩:=nH S r1 e
     exact⟨p,vs,rfl,AV P h,fun l hl=>k.new P q S r2 hl⟩
   · exact q.elim
 · exact q.elim
noncomputable def fy:List D→Option (List Bool)
 | []=>some []
 | .bl b::r=>(fy r).map (b:: ·)
 |_::_=>none
theorem pR{α:List (Option Addr)}{H:Hp}:∀ {ds:List D} {vs:List V} {bs:List Bool},aK α H ds vs→fy ds=some bs→vs=bs.map V.bl
 | [],vs,bs,r,e=>by
   unfold aK at r
   cases e
   exact r
 |d::ds,vs,bs,r,e=>by
  unfold aK at r
  obtain⟨v,q,rfl,h1,h2⟩:=r
  cases d<;>try(cases e;done)
  unfold fy at e
  cases z:fy ds with
  |none=>rw[z]at e;cases e
  |some cs=>
   rw[z]at e
   cases e
   unfold Rep at h1
   rw[h1,pR h2 z]
   rfl
theorem pV:∀ {bs:List Bool} {us:List Value},Vals (bs.map V.bl) us→us=bs.map Value.bool
 | [],_,.nil=>rfl
 |b::bs,_,.cons h t=>by
  have h:_=Value.bool b:=h
  rw[h,pV t]
  rfl
end
end L3
namespace L3
open PySem PySem.Spec L2
open PyProof.Rows hiding St
section
variable {X:Cx}
noncomputable def xv:fZ:=fun ds st K=>match ds with| [.lst xs]=>(match fy xs with|some bs=>K (.bl (bs.all id)) st|none=>False)|_=>False
theorem range_all{α:Type}(l:List α)(f:α→Bool)(tr:Nat→Bool)(h:∀i x,l[i]?=some x→tr i=f x):(List.range l.length).all tr=l.all f:=by
 induction l generalizing tr with
 |nil=>rfl
 |cons a l ih=>
  rw[List.length_cons,List.range_succ_eq_map,List.all_cons,List.all_cons,List.all_map,h 0 a rfl]
  congr 1
  exact ih (tr∘Nat.succ) fun i x e=>h (i+1) x (by simpa using e)
theorem LX(hc:X.calm=true):cx X (.builtin "all") (iu xv):=fun pins s σ H xs us Q I rs ⟨α,ds,st,K,G,F',P,r,S,q,k⟩=>by
 unfold xv at q
 split at q
 · rename_i ys
   split at q
   · rename_i bs e
     obtain⟨v,rfl,r1⟩:=i8 r rfl
     unfold Rep at r1
     obtain⟨a,vs,rfl,na,h1,h2⟩:=r1
     obtain⟨u,rfl,ru⟩:=vals1 rs
     cases ru
     have hv:=pR h2 e
     subst hv
     obtain⟨z,au,n,rv,hl,eo⟩:=Inv.vH I (fQ P h1)
     have hits:=pV rv
     subst hits
     have isL:s.heap.IsList a (bs.map Value.bool).toArray:=⟨_,eo,rfl,n,rfl⟩
     refine call_all_walk (wpAny_pyIter_list isL ?_)
     have hne:a≠s.heap.objs.size:=Nat.ne_of_lt (Heap.lt_size eo)
     refine⟨s.heap.objs.size,_,_,_,_,_,fun i=>(bs[i]?).getD true,rfl,Walks.list (A:=X.A.in1) (I.ok.hd hc) _ a hne (bs.map Value.bool).toArray,⟨⟨_,Heap.get?_push_size _ rfl,rfl,rfl⟩,⟨_,Heap.get?_push_of_some _ eo,rfl,n,rfl⟩⟩,?_,?_⟩
     · intro i w s' Q' E' hP hQ
       rw[List.getElem?_toArray,List.getElem?_map]at hP
       cases zb:bs[i]? with
       |none=>rw[zb]at hP;cases hP
       |some b=>
        rw[zb]at hP
        cases hP
        simp only[zb]at hQ
        exact wpAny_truthy_bool hQ
     · intro h' tk hk
       have kp:∀b o,s.heap.get? b=some o→h'.get? b=some o:=fun b o q=>hk b o (by
        intro hb
        have:b=s.heap.objs.size:=by simpa using hb
        exact absurd (Heap.lt_size q) (by rw[this];exact Nat.lt_irrefl _)) (Heap.get?_push_of_some _ q)
       have ea:(List.range (bs.map Value.bool).toArray.size).all (fun i=>(bs[i]?).getD true)=bs.all id:=by
        rw[List.size_toArray,List.length_map]
        exact range_all bs id _ fun i x e=>by rw[e];rfl
       rw[ea]
       exact⟨.bl (bs.all id),H,I.kept (t':=tk) kp,rfl,k.here P q S (by unfold Rep;rfl)⟩
   · exact q.elim
 · exact q.elim
noncomputable def e7(st:ag):D→Option String
 | .aE=>some "NoneType"
 | .bl _=>some "bool"
 | .int _=>some "int"
 | .str _=>some "str"
 | .lst _=>some "list"
 | .tup _=>some "tuple"
 | .ref n=>(match st[n]? with|some (.lst _)=>some "list"|_=>none)
 | .ty _=>none
@[simp] theorem Ov(st:ag)(xs:List D):e7 st (.lst xs)=some "list":=rfl
@[simp] theorem Oz(st:ag)(xs:List D):e7 st (.tup xs)=some "tuple":=rfl
@[simp] theorem ty_int(st:ag)(i:Int):e7 st (.int i)=some "int":=rfl
@[simp] theorem OA(st:ag)(i:Bool):e7 st (.bl i)=some "bool":=rfl
@[simp] theorem ty_str(st:ag)(i:Str):e7 st (.str i)=some "str":=rfl
@[simp] theorem Oy(st:ag):e7 st .aE=some "NoneType":=rfl
noncomputable def qp(t c:String):Bool:=t==c||(t=="bool"&&c=="int")
theorem yq{α:List (Option Addr)}{H:Hp}{st:ag}{K:PySem.W.Frag}{d:D}{v:V}{t:String}(S:aS α st H)(r:Rep α H d v)(e:e7 st d=some t):iS K H v (.type t):=by
 cases d<;>unfold e7 at e<;>try(cases e;done)
 · unfold Rep at r;cases e;subst r;exact .aE
 · unfold Rep at r;cases e;subst r;exact .bl _
 · unfold Rep at r;cases e;subst r;exact .int _
 · unfold Rep at r;cases e;subst r;exact .str _
 · simp only at e
   split at e
   · rename_i z
     cases e
     obtain⟨a,ea,vs',h1,h2⟩:=S.ja z
     have r':=dU ea r
     subst r'
     exact .lst h1
   · cases e
 · cases e
   unfold Rep at r
   obtain⟨a,vs,rfl,na,h1,h2⟩:=r
   rcases h1 with h1|⟨o,h1⟩
   · exact .lst h1
   · exact .fN h1
 · cases e
   unfold Rep at r
   obtain⟨a,vs,rfl,na,h1,h2⟩:=r
   exact .tup h1
theorem AJ{G F H:Hp}{K:PySem.W.Frag}(P:bU G F H){x:V}{t:Value}(h:iS K G x t):iS K H x t:=by
 cases h with
 |aE=>exact .aE
 |bl x=>exact .bl x
 |int x=>exact .int x
 |str x=>exact .str x
 |sV x=>exact .sV x
 |lst e=>exact .lst (P.get e)
 |fN e=>exact .fN (P.get e)
 |tup e=>exact .tup (P.get e)
 |dK e=>exact .dK (P.get e)
 |dT e=>exact .dT (P.get e)
 |ins e a b c d f=>exact .ins (P.get e) a b c d f
noncomputable def mK:List String:=["NoneType","bool","int","str","list","tuple"]
noncomputable def kh:List String:=["bool","int","str","list","tuple"]
theorem Aj(K:PySem.W.Frag){t c:String}(ht:t∈mK)(hc:c∈kh):PySem.W.kitOne K (.type t) (.type c)=some (qp t c):=by
 simp only[mK,kh,List.mem_cons,List.not_mem_nil,or_false]at ht hc
 rcases ht with rfl|rfl|rfl|rfl|rfl|rfl<;>rcases hc with rfl|rfl|rfl|rfl|rfl<;>with_unfolding_all rfl
theorem ph{st:ag}{d:D}{t:String}(e:e7 st d=some t):t∈mK:=by
 cases d<;>unfold e7 at e<;>first
  |(cases e;done)
  |(cases e;decide)
  |(simp only at e;split at e<;>cases e;decide)
theorem kitx_of{pins:List (Addr×Obj)}{σ:L2.St}{H:Hp}{s:Shared}{x:V}{u:Value}{t:String}(I:Inv X pins σ H s)(rx:RelV x u)(ty:iS X.K H x (.type t)):
 ∃Hh:Heap→Prop,PySem.W.KitX X.K u (.type t) Hh∧Hh s.heap∧u≠ .builtin "__main__.__loader__#opaque":=by
 cases ty with
 |aE=>cases (show u=Value.none from rx);exact⟨_,PySem.W.kitx_none,True.intro,fun z=>nomatch z⟩
 |bl y=>cases (show u=Value.bool y from rx);exact⟨_,PySem.W.kitx_bool,True.intro,fun z=>nomatch z⟩
 |int i=>obtain⟨t,q⟩:=(show∃t,u=Value.int i t from rx);cases q;exact⟨_,PySem.W.kitx_int,True.intro,fun z=>nomatch z⟩
 |str y=>obtain⟨t,q⟩:=(show∃t,u=Value.str y t from rx);cases q;exact⟨_,PySem.W.kitx_str,True.intro,fun z=>nomatch z⟩
 |sV y=>obtain⟨t,q⟩:=(show∃t,u=Value.float y t from rx);cases q;exact⟨_,PySem.W.kitx_float,True.intro,fun z=>nomatch z⟩
 | @lst a xs ea=>
   cases (show u=Value.ref a from rx)
   obtain⟨_,_,n,_,h1⟩:=(show dc X.prog X.w H s.heap a (.lst xs)from I.aL a _ ea)
   exact⟨_,PySem.W.kitx_list,⟨_,h1,rfl⟩,fun z=>nomatch z⟩
 | @fN a ob xs ea=>
   cases (show u=Value.ref a from rx)
   obtain⟨_,_,_,n,_,h1⟩:=(show dc X.prog X.w H s.heap a (.fN ob (.lst xs))from I.aL a _ ea)
   exact⟨_,PySem.W.kitx_list,⟨_,h1,rfl⟩,fun z=>nomatch z⟩
 | @tup a xs ea=>
   cases (show u=Value.ref a from rx)
   obtain⟨_,_,_,p⟩:=(show dc X.prog X.w H s.heap a (.tup xs)from I.aL a _ ea)
   obtain⟨o,h1,h2,_⟩:=p
   exact⟨_,PySem.W.kitx_tuple,⟨o,h1,h2⟩,fun z=>nomatch z⟩
 | @dK a kvs ea=>
   cases (show u=Value.ref a from rx)
   obtain⟨_,_,vs,_,p⟩:=(show dc X.prog X.w H s.heap a (.dK kvs)from I.aL a _ ea)
   obtain⟨o,es,ep,h1,h2,_⟩:=p
   exact⟨_,PySem.W.kitx_dict,⟨o,h1,h2.1⟩,fun z=>nomatch z⟩
 | @dT a kvs ea=>
   cases (show u=Value.ref a from rx)
   obtain⟨_,_,xs,_,o,es,ep,h1,h2,_⟩:=(show dc X.prog X.w H s.heap a (.dT kvs)from I.aL a _ ea)
   exact⟨_,PySem.W.kitx_dict,⟨o,h1,h2.1⟩,fun z=>nomatch z⟩
noncomputable def mS:List D→Option (List String)
 | []=>some []
 | .ty b::r=>(mS r).map (b:: ·)
 |_::_=>none
theorem zu{α:List (Option Addr)}{H:Hp}:∀ {ds:List D} {vs:List V} {bs:List String},aK α H ds vs→mS ds=some bs→vs=bs.map V.ty
 | [],vs,bs,r,e=>by
   unfold aK at r
   cases e
   exact r
 |d::ds,vs,bs,r,e=>by
  unfold aK at r
  obtain⟨v,q,rfl,h1,h2⟩:=r
  cases d<;>try(cases e;done)
  unfold mS at e
  cases z:mS ds with
  |none=>rw[z]at e;cases e
  |some cs=>
   rw[z]at e
   cases e
   unfold Rep at h1
   rw[h1,zu h2 z]
   rfl
theorem zC:∀ {bs:List String} {us:List Value},Vals (bs.map V.ty) us→us=bs.map Value.type
 | [],_,.nil=>rfl
 |b::bs,_,.cons h t=>by
  have h:_=Value.type b:=h
  rw[h,zC t]
  rfl
theorem AO(K:PySem.W.Frag){t:String}(ht:t∈mK):∀cs:List String,(∀c∈cs,c∈kh)→PySem.W.kitAny K (.type t) (cs.map Value.type)=some (cs.any (qp t))
 | [],_=>rfl
 |c::cs,h=>by
  show(match PySem.W.kitOne K (.type t) (.type c)with|some true=>some true|some false=>PySem.W.kitAny K (.type t) (cs.map Value.type)|none=>none)=_
  rw[Aj K ht (h c List.mem_cons_self),List.any_cons]
  cases qp t c with
  |true=>rfl
  |false=>exact AO K ht cs fun c hc=>h c (List.mem_cons_of_mem _ hc)
noncomputable def u5:fZ:=fun ds st K=>match ds with
 | [d,.ty c]=>(match e7 st d with|some t=>c∈kh∧K (.bl (qp t c)) st|none=>False)
 | [d,.tup cs]=>(match e7 st d,mS cs with|some t,some cl=>(∀c∈cl,c∈kh)∧K (.bl (cl.any (qp t))) st|_,_=>False)
 |_=>False
theorem LJ:cx X (.builtin "isinstance") (iu u5):=fun pins s σ H xs us Q I rs ⟨α,ds,st,K,G,F',P,r,S,q,k⟩=>by
 unfold u5 at q
 split at q
 · rename_i d c
   split at q
   · rename_i t e
     obtain⟨v,v2,rfl,r1,r2⟩:=rN r rfl
     obtain⟨u,u2,rfl,ru,ru2⟩:=vals2 rs
     unfold Rep at r2
     subst r2
     cases (show u2=Value.type c from ru2)
     exact D0 I ru (AJ P (yq S r1 e)) (Aj _ (ph e) q.1) fun tk=>⟨.bl (qp t c),H,I.tok tk,rfl,k.here P q.2 S (by unfold Rep;rfl)⟩
   · exact q.elim
 · rename_i d cs
   split at q
   · rename_i t cl e ec
     obtain⟨v,v2,rfl,r1,r2⟩:=rN r rfl
     obtain⟨u,u2,rfl,ru,ru2⟩:=vals2 rs
     unfold Rep at r2
     obtain⟨a,vs,rfl,na,h1,h2⟩:=r2
     cases (show u2=Value.ref a from ru2)
     have hv:=zu h2 ec
     subst hv
     obtain⟨Hh,Z,hh,hne⟩:=kitx_of I ru (AJ P (yq S r1 e))
     obtain⟨au,r',pl,hz⟩:=I.tuple (iz.of (P.get h1))
     have hi:=zC r'
     subst hi
     obtain⟨⟨cls,dd,data,sl⟩,ho,hc,n,hd⟩:=pl
     simp only at hc hd
     subst hc hd
     exact PySem.W.kia_tup Z I.gm hh ho (AO _ (ph e) cl q.1) hne fun tk=>⟨.bl _,H,I.tok tk,rfl,k.here P q.2 S (by unfold Rep;rfl)⟩
   · exact q.elim
 · exact q.elim
end
end L3
namespace L3
open PySem PySem.Spec L2 PySem.SeqAt
open PyProof.Rows hiding St
mutual
noncomputable def cz:D→D→Bool
 | .aE,.aE=>true
 | .bl a,.bl b=>a==b
 | .bl a,.int b=>(if a then 1 else 0)==b
 | .int a,.bl b=>a==(if b then 1 else 0)
 | .int a,.int b=>a==b
 | .str a,.str b=>a==b
 | .lst xs,.lst ys=>fh xs ys
 | .tup xs,.tup ys=>fh xs ys
 |_,_=>false
noncomputable def fh:List D→List D→Bool
 | [],[]=>true
 |x::xs,y::ys=>cz x y&&fh xs ys
 |_,_=>false
end
noncomputable def pl:Nat→D→Bool
 |_,.aE=>true
 |_,.bl _=>true
 |_,.int _=>true
 |_,.str _=>true
 |n+1,.lst xs=>xs.all (pl n)
 |n+1,.tup xs=>xs.all (pl n)
 |_,_=>false
mutual
theorem pN:∀(n:Nat) (d:D),pl n d=true→cz d d=true
 |_,.aE,_=>rfl
 |_,.bl _,_=>by simp[cz]
 |_,.int _,_=>by simp[cz]
 |_,.str _,_=>by simp[cz]
 |n+1,.lst xs,h=>by unfold cz;exact qV n xs (by unfold pl at h;exact h)
 |n+1,.tup xs,h=>by unfold cz;exact qV n xs (by unfold pl at h;exact h)
 |0,.lst xs,h=>by cases h
 |0,.tup xs,h=>by cases h
 |_,.ref _,h=>by unfold pl at h;cases h
 |_,.ty _,h=>by unfold pl at h;cases h
theorem qV:∀(n:Nat) (xs:List D),xs.all (pl n)=true→fh xs xs=true
 |_,[],_=>by unfold fh;rfl
 |n,x::xs,h=>by
  rw[List.all_cons,Bool.and_eq_true]at h
  unfold fh
  rw[pN n x h.1,qV n xs h.2]
  rfl
end
mutual
theorem Rep.inj{α:List (Option Addr)}{H:Hp}:∀ {d e:D} {v:V} (n:Nat),pl n d=true→pl n e=true→Rep α H d v→Rep α H e v→d=e
 | .aE,e,v,n,_,he,h1,h2=>by
   unfold Rep at h1;subst h1
   cases e<;>first|(unfold pl at he;cases he;done)|(unfold Rep at h2;cases h2;rfl)|(unfold Rep at h2;cases h2;done)|(unfold Rep at h2;obtain⟨_,_,h2,_⟩:=h2;cases h2)|rfl|(cases h2;done)|(obtain⟨_,_,h2,_⟩:=h2;cases h2)|(obtain⟨_,_,h2⟩:=h2;cases h2)
 | .bl b,e,v,n,_,he,h1,h2=>by
   unfold Rep at h1;subst h1
   cases e<;>first|(unfold pl at he;cases he;done)|(unfold Rep at h2;cases h2;rfl)|(unfold Rep at h2;cases h2;done)|(unfold Rep at h2;obtain⟨_,_,h2,_⟩:=h2;cases h2)|(cases h2;rfl)|(cases h2;done)|(obtain⟨_,_,h2,_⟩:=h2;cases h2)|(obtain⟨_,_,h2⟩:=h2;cases h2)
 | .int b,e,v,n,_,he,h1,h2=>by
   unfold Rep at h1;subst h1
   cases e<;>first|(unfold pl at he;cases he;done)|(unfold Rep at h2;cases h2;rfl)|(unfold Rep at h2;cases h2;done)|(unfold Rep at h2;obtain⟨_,_,h2,_⟩:=h2;cases h2)|(cases h2;rfl)|(cases h2;done)|(obtain⟨_,_,h2,_⟩:=h2;cases h2)|(obtain⟨_,_,h2⟩:=h2;cases h2)
 | .str b,e,v,n,_,he,h1,h2=>by
   unfold Rep at h1;subst h1
   cases e<;>first|(unfold pl at he;cases he;done)|(unfold Rep at h2;cases h2;rfl)|(unfold Rep at h2;cases h2;done)|(unfold Rep at h2;obtain⟨_,_,h2,_⟩:=h2;cases h2)|(cases h2;rfl)|(cases h2;done)|(obtain⟨_,_,h2,_⟩:=h2;cases h2)|(obtain⟨_,_,h2⟩:=h2;cases h2)
 | .ty b,e,v,n,hd,he,h1,h2=>by unfold pl at hd;cases hd
 | .ref b,e,v,n,hd,he,h1,h2=>by unfold pl at hd;cases hd
 | .lst xs,e,v,0,hd,he,h1,h2=>by cases hd
 | .tup xs,e,v,0,hd,he,h1,h2=>by cases hd
 | .lst xs,e,v,n+1,hd,he,h1,h2=>by
   unfold Rep at h1
   obtain⟨a,vs,rfl,na,ha,ra⟩:=h1
   cases e<;>unfold Rep at h2<;>try(cases h2;done)
   · unfold pl at he;cases he
   · obtain⟨a',vs',e',na',ha',ra'⟩:=h2
     cases e'
     have:vs=vs':=by
      rcases ha with ha|⟨o,ha⟩<;>rcases ha' with ha'|⟨o',ha'⟩<;>(rw[ha]at ha';first|(cases ha';rfl)|(cases ha';done))
     subst this
     rw[aK.inj n (by unfold pl at hd;exact hd) (by unfold pl at he;exact he) ra ra']
   · obtain⟨a',vs',e',na',ha',ra'⟩:=h2
     cases e'
     rcases ha with ha|⟨o,ha⟩<;>(rw[ha]at ha';cases ha')
 | .tup xs,e,v,n+1,hd,he,h1,h2=>by
   unfold Rep at h1
   obtain⟨a,vs,rfl,na,ha,ra⟩:=h1
   cases e<;>unfold Rep at h2<;>try(cases h2;done)
   · unfold pl at he;cases he
   · obtain⟨a',vs',e',na',ha',ra'⟩:=h2
     cases e'
     rcases ha' with ha'|⟨o,ha'⟩<;>(rw[ha]at ha';cases ha')
   · obtain⟨a',vs',e',na',ha',ra'⟩:=h2
     cases e'
     rw[ha]at ha'
     cases ha'
     rw[aK.inj n (by unfold pl at hd;exact hd) (by unfold pl at he;exact he) ra ra']
theorem aK.inj{α:List (Option Addr)}{H:Hp}:∀ {ds es:List D} {vs:List V} (n:Nat),ds.all (pl n)=true→es.all (pl n)=true→aK α H ds vs→aK α H es vs→ds=es
 | [],es,vs,n,_,_,h1,h2=>by
   unfold aK at h1
   subst h1
   cases es with
   |nil=>rfl
   |cons e es=>unfold aK at h2;obtain⟨_,_,h,_⟩:=h2;cases h
 |d::ds,es,vs,n,hd,he,h1,h2=>by
  unfold aK at h1
  obtain⟨v,r,rfl,r1,r2⟩:=h1
  cases es with
  |nil=>unfold aK at h2;cases h2
  |cons e es=>
   unfold aK at h2
   obtain⟨v',r',h,q1,q2⟩:=h2
   cases h
   rw[List.all_cons,Bool.and_eq_true]at hd he
   rw[Rep.inj n hd.1 he.1 r1 q1,aK.inj n hd.2 he.2 r2 q2]
end
theorem nc:∀ {xs ys:List D},xs.length≠ys.length→fh xs ys=false
 | [],[],h=>absurd rfl h
 | [],_::_,_=>by unfold fh;rfl
 |_::_,[],_=>by unfold fh;rfl
 |x::xs,y::ys,h=>by
  unfold fh
  rw[nc (by simpa using h),Bool.and_false]
theorem mZ:∀ {xs ys:List D},xs.length=ys.length→fh xs ys=(List.range xs.length).all fun j=>cz (xs.getD j .aE) (ys.getD j .aE)
 | [],[],_=>by unfold fh;rfl
 | [],_::_,h=>by cases h
 |_::_,[],h=>by cases h
 |x::xs,y::ys,h=>by
  unfold fh
  rw[List.length_cons,List.range_succ_eq_map,List.all_cons,List.all_map,mZ (by simpa using h)]
  rfl
section
variable {X:Cx}{pins:List (Addr×Obj)}{σ:L2.St}{H:Hp}{s:Shared}{α:List (Option Addr)}
theorem jD{xs:List D}{vs:List V}{au:List Value}(r:aK α H xs vs)(v:Vals vs au)(j:Nat)(hj:j<au.length):∃x,xs[j]?=some (xs.getD j .aE)∧Rep α H (xs.getD j .aE) x∧RelV x au[j]:=by
 have h1:=r.length
 have h2:=v.length
 have hx:j<xs.length:=by omega
 have e:xs[j]?=some (xs.getD j .aE):=by rw[List.getElem?_eq_getElem hx,List.getD_eq_getElem?_getD,List.getElem?_eq_getElem hx];rfl
 obtain⟨x,q,rr⟩:=r.get e
 obtain⟨u,q2,rv⟩:=v.get q
 rw[List.getElem?_eq_getElem hj]at q2
 cases q2
 exact⟨x,e,rr,rv⟩
theorem hO{xs:List D}{n:Nat}(h:xs.all (pl n)=true)(j:Nat):pl n (xs.getD j .aE)=true:=by
 rw[List.getD_eq_getElem?_getD]
 cases e:xs[j]? with
 |none=>cases n<;>rfl
 |some d=>exact List.all_eq_true.mp h d (List.mem_of_getElem? e)
noncomputable def wK:D→Bool
 | .aE=>true
 | .bl _=>true
 | .int _=>true
 | .str _=>true
 |_=>false
theorem AU{A:Around}{d e:D}{x y:V}{u v:Value}(hd:wK d=true)(he:wK e=true)(rd:Rep α H d x)(re:Rep α H e y)(rx:RelV x u)(ry:RelV y v):RcAt A s u v (cz d e)∧EqAt A s u v (cz d e):=by
 cases d<;>cases e<;>try(first|(cases hd;done)|(cases he;done))
 all_goals(unfold Rep at rd re;subst rd re)
 all_goals(first|(obtain⟨t,rfl⟩:=rx;obtain⟨t',rfl⟩:=ry)|(obtain⟨t,rfl⟩:=rx;cases ry)|(cases rx;obtain⟨t,rfl⟩:=ry)|(cases rx;cases ry))
 all_goals unfold cz
 · exact⟨RcAt.none_none,EqAt.same _⟩
 · exact⟨RcAt.none_bool _,EqAt.none_bool _⟩
 · exact⟨RcAt.none_int _ _,EqAt.none_int _ _⟩
 · exact⟨RcAt.none_str _ _,EqAt.none_str _ _⟩
 · exact⟨RcAt.bool_none _,EqAt.bool_none _⟩
 · exact⟨RcAt.bool_bool _ _,EqAt.bool_bool _ _⟩
 · exact⟨RcAt.bool_int _ _ _,EqAt.bool_int _ _ _⟩
 · exact⟨RcAt.bool_str _ _ _,EqAt.bool_str _ _ _⟩
 · exact⟨RcAt.int_none _ _,EqAt.int_none _ _⟩
 · exact⟨RcAt.int_bool _ _ _,EqAt.int_bool _ _ _⟩
 · exact⟨RcAt.int_int _ _ _ _,EqAt.int_int _ _ _ _⟩
 · exact⟨RcAt.int_str _ _ _ _,EqAt.int_str _ _ _ _⟩
 · exact⟨RcAt.str_none _ _,EqAt.str_none _ _⟩
 · exact⟨RcAt.str_bool _ _ _,EqAt.str_bool _ _ _⟩
 · exact⟨RcAt.str_int _ _ _ _,EqAt.str_int _ _ _ _⟩
 · exact⟨RcAt.str_str _ _ _ _,EqAt.str_str _ _ _ _⟩
theorem lst_is(I:Inv X pins σ H s){xs:List D}{x:V}{u:Value}(r:Rep α H (.lst xs) x)(rx:RelV x u):∃a vs au,u= .ref a∧aK α H xs vs∧Vals vs au∧s.heap.IsList a au.toArray:=by
 unfold Rep at r
 obtain⟨a,vs,rfl,na,ha,ra⟩:=r
 cases rx
 obtain⟨z,au,n,rv,hl,eo⟩:=Inv.vH I ha
 exact⟨a,vs,au,rfl,ra,rv,⟨_,eo,rfl,n,rfl⟩⟩
theorem tup_is(I:Inv X pins σ H s){xs:List D}{x:V}{u:Value}(r:Rep α H (.tup xs) x)(rx:RelV x u):∃a vs au,u= .ref a∧aK α H xs vs∧Vals vs au∧s.heap.IsTuple a au.toArray:=by
 unfold Rep at r
 obtain⟨a,vs,rfl,na,ha,ra⟩:=r
 cases rx
 obtain⟨au,r',p,hz⟩:=I.tuple (iz.of ha)
 exact⟨a,vs,au,rfl,ra,r',p⟩
theorem wg(I:Inv X pins σ H s){A:Around}{xs:List D}{e:D}{x y:V}{u v:Value}(he:wK e=true)(rd:Rep α H (.lst xs) x)(re:Rep α H e y)(rx:RelV x u)(ry:RelV y v)(hu:A.units<cLine):
 (RcAt A s u v (cz (.lst xs) e)∧EqAt A s u v (cz (.lst xs) e))∧RcAt A s v u (cz e (.lst xs))∧EqAt A s v u (cz e (.lst xs)):=by
 obtain⟨a,vs,au,rfl,_,_,hl⟩:=lst_is I rd rx
 cases e<;>try(cases he;done)
 all_goals(unfold Rep at re;subst re)
 all_goals(first|(obtain⟨t,rfl⟩:=ry)|(cases ry))
 all_goals unfold cz
 · exact⟨⟨RcAt.list_none hl hu,EqAt.list_none hl hu⟩,RcAt.none_list hl hu,EqAt.none_list hl hu⟩
 · exact⟨⟨RcAt.list_bool _ hl hu,EqAt.list_bool _ hl hu⟩,RcAt.bool_list _ hl hu,EqAt.bool_list _ hl hu⟩
 · exact⟨⟨RcAt.list_int _ _ hl hu,EqAt.list_int _ _ hl hu⟩,RcAt.int_list _ _ hl hu,EqAt.int_list _ _ hl hu⟩
 · exact⟨⟨RcAt.list_str _ _ hl hu,EqAt.list_str _ _ hl hu⟩,RcAt.str_list _ _ hl hu,EqAt.str_list _ _ hl hu⟩
theorem wu(I:Inv X pins σ H s){A:Around}{xs:List D}{e:D}{x y:V}{u v:Value}(he:wK e=true)(rd:Rep α H (.tup xs) x)(re:Rep α H e y)(rx:RelV x u)(ry:RelV y v)(hu:A.units<cLine):
 (RcAt A s u v (cz (.tup xs) e)∧EqAt A s u v (cz (.tup xs) e))∧RcAt A s v u (cz e (.tup xs))∧EqAt A s v u (cz e (.tup xs)):=by
 obtain⟨a,vs,au,rfl,_,_,hl⟩:=tup_is I rd rx
 cases e<;>try(cases he;done)
 all_goals(unfold Rep at re;subst re)
 all_goals(first|(obtain⟨t,rfl⟩:=ry)|(cases ry))
 all_goals unfold cz
 · exact⟨⟨RcAt.tuple_none hl hu,EqAt.tuple_none hl hu⟩,RcAt.none_tuple hl hu,EqAt.none_tuple hl hu⟩
 · exact⟨⟨RcAt.tuple_bool _ hl hu,EqAt.tuple_bool _ hl hu⟩,RcAt.bool_tuple _ hl hu,EqAt.bool_tuple _ hl hu⟩
 · exact⟨⟨RcAt.tuple_int _ _ hl hu,EqAt.tuple_int _ _ hl hu⟩,RcAt.int_tuple _ _ hl hu,EqAt.int_tuple _ _ hl hu⟩
 · exact⟨⟨RcAt.tuple_str _ _ hl hu,EqAt.tuple_str _ _ hl hu⟩,RcAt.str_tuple _ _ hl hu,EqAt.str_tuple _ _ hl hu⟩
theorem Af{A:Around}{n:Nat}{d e:D}{x y:V}{a b:Addr}(hd:pl n d=true)(he:pl n e=true)(rd:Rep α H d x)(re:Rep α H e y)(rx:RelV x (.ref a))(ry:RelV y (.ref b))(h:RcAt A s (.ref a) (.ref b) (cz d e)):
 RcAt A s (.ref a) (.ref b) (cz d e)∧EqAt A s (.ref a) (.ref b) (cz d e):=by
 refine⟨h,?_⟩
 by_cases hab:a=b
 · subst hab
   have hx:x=y:=RelV.inj rx ry
   subst hx
   have:=Rep.inj n hd he rd re
   subst this
   rw[pN n d hd]
   exact EqAt.same _
 · exact EqAt.of_refs hab h
theorem Ce(I:Inv X pins σ H s):∀(n:Nat) (A:Around) (d e:D) (x y:V) (u v:Value),pl n d=true→pl n e=true→Rep α H d x→Rep α H e y→RelV x u→RelV y v→A.units+n<cLine→
 RcAt A s u v (cz d e)∧EqAt A s u v (cz d e):=by
 intro n
 induction n with
 |zero=>
  intro A d e x y u v hd he rd re rx ry hu
  refine AU ?_ ?_ rd re rx ry
  · cases d<;>first|rfl|(cases hd)
  · cases e<;>first|rfl|(cases he)
 |succ n ih=>
  intro A d e x y u v hd he rd re rx ry hu
  have hu0:A.units<cLine:=by omega
  have hin:A.in1.units+n<cLine:=by rw[Around.in1_units];omega
  cases d<;>try(cases hd;done)
  case lst xs=>
   cases e<;>try(cases he;done)
   case lst ys=>
    have rd0:=rd
    have re0:=re
    have rx0:=rx
    have ry0:=ry
    obtain⟨a,vs,au,rfl,r1,v1,l1⟩:=lst_is I rd rx
    obtain⟨b,ws,jts,rfl,r2,v2,l2⟩:=lst_is I re ry
    have e1:=r1.length
    have e2:=v1.length
    have e3:=r2.length
    have e4:=v2.length
    refine Af hd he rd0 re0 rx0 ry0 ?_
    unfold cz
    by_cases hlen:xs.length=ys.length
    · rw[mZ hlen]
      have hsz:au.toArray.size=jts.toArray.size:=by simp only[List.size_toArray];omega
      have hx:xs.length=au.toArray.size:=by simp only[List.size_toArray];omega
      rw[hx]
      refine RcAt.lists l1 l2 hsz hu0 fun j h1 h2=>?_
      have h1':j<au.length:=by simpa using h1
      have h2':j<jts.length:=by simpa using h2
      obtain⟨p,_,q1,q2⟩:=jD r1 v1 j h1'
      obtain⟨p',_,q1',q2'⟩:=jD r2 v2 j h2'
      exact(ih A.in1 _ _ p p' _ _ (hO (by unfold pl at hd;exact hd) j) (hO (by unfold pl at he;exact he) j) q1 q1' (by simpa using q2) (by simpa using q2') hin).2
    · rw[nc hlen]
      exact RcAt.lists_lengths l1 l2 (by simp only[List.size_toArray,bne_iff_ne,ne_eq];omega) hu0
   case tup ys=>
    obtain⟨a,vs,au,rfl,r1,v1,l1⟩:=lst_is I rd rx
    obtain⟨b,ws,jts,rfl,r2,v2,l2⟩:=tup_is I re ry
    unfold cz
    exact⟨RcAt.list_tuple l1 l2 hu0,EqAt.list_tuple l1 l2 hu0⟩
   all_goals exact(wg I rfl rd re rx ry hu0).1
  case tup xs=>
   cases e<;>try(cases he;done)
   case tup ys=>
    have rd0:=rd
    have re0:=re
    have rx0:=rx
    have ry0:=ry
    obtain⟨a,vs,au,rfl,r1,v1,l1⟩:=tup_is I rd rx
    obtain⟨b,ws,jts,rfl,r2,v2,l2⟩:=tup_is I re ry
    have e1:=r1.length
    have e2:=v1.length
    have e3:=r2.length
    have e4:=v2.length
    refine Af hd he rd0 re0 rx0 ry0 ?_
    unfold cz
    have key:=RcAt.tuples (e:=fun j=>cz (xs.getD j .aE) (ys.getD j .aE)) l1 l2 hu0 fun j h1 h2=>by
     have h1':j<au.length:=by simpa using h1
     have h2':j<jts.length:=by simpa using h2
     obtain⟨p,_,q1,q2⟩:=jD r1 v1 j h1'
     obtain⟨p',_,q1',q2'⟩:=jD r2 v2 j h2'
     exact(ih A.in1 _ _ p p' _ _ (hO (by unfold pl at hd;exact hd) j) (hO (by unfold pl at he;exact he) j) q1 q1' (by simpa using q2) (by simpa using q2') hin).2
    by_cases hlen:xs.length=ys.length
    · rw[mZ hlen]
      have hsz:au.toArray.size=jts.toArray.size:=by simp only[List.size_toArray];omega
      have hx:xs.length=au.toArray.size:=by simp only[List.size_toArray];omega
      rw[hsz,Nat.min_self,beq_self_eq_true,Bool.and_true,←hsz,←hx]at key
      exact key
    · rw[nc hlen]
      have hne:(au.toArray.size==jts.toArray.size)=false:=by simp only[List.size_toArray,beq_eq_false_iff_ne,ne_eq];omega
      rw[hne,Bool.and_false]at key
      exact key
   case lst ys=>
    obtain⟨a,vs,au,rfl,r1,v1,l1⟩:=tup_is I rd rx
    obtain⟨b,ws,jts,rfl,r2,v2,l2⟩:=lst_is I re ry
    unfold cz
    exact⟨RcAt.tuple_list l1 l2 hu0,EqAt.tuple_list l1 l2 hu0⟩
   all_goals exact(wu I rfl rd re rx ry hu0).1
  all_goals
   cases e<;>try(cases he;done)
   case lst ys=>exact(wg I rfl re rd ry rx hu0).2
   case tup ys=>exact(wu I rfl re rd ry rx hu0).2
   all_goals exact AU rfl rfl rd re rx ry
noncomputable def KQ:dw:=fun x y st K=>pl 40 x=true∧pl 40 y=true∧K (.bl (cz x y)) st
theorem NG{k:Nat}(hr:cJ k X.A):bX X (compareOp .Eq) (LR KQ):=fun pins s σ H x y v u Q I rx ry ⟨α,d,e,st,K,G,F',P,r1,r2,S,q,k⟩=>by
 have hu:=hr.units
 exact(Ce I 40 X.A d e x y v u q.1 q.2.1 (r1.mono P.same) (r2.mono P.same) rx ry (by omega)).1 _ _ _ _ ⟨.bl (cz d e),H,I,rfl,k.here P q.2.2 S (by unfold Rep;rfl)⟩
noncomputable def Jd:dw:=fun x y st K=>match x,y with
 | .int i,.int j=>K (.bl (!decide (i=j))) st
 | .bl i,.bl j=>K (.bl (!decide (i=j))) st
 | .str i,.str j=>K (.bl (!decide (i=j))) st
 |_,_=>False
theorem NQ:bX X (compareOp .NotEq) (LR Jd):=bX.imp Mb fun x y H Q ⟨α,d,e,st,K,G,F',P,r1,r2,S,q,k⟩=>by
 cases d<;>cases e<;>try exact q.elim
 all_goals(unfold Rep at r1 r2;subst r1 r2)
 · exact⟨rfl,k.here P q S (by unfold Rep;congr 2;exact decide_eq_decide.mpr ⟨fun h=>by cases h;rfl,fun h=>by rw[h]⟩)⟩
 · exact⟨rfl,k.here P q S (by unfold Rep;congr 2;exact decide_eq_decide.mpr ⟨fun h=>by cases h;rfl,fun h=>by rw[h]⟩)⟩
 · exact⟨rfl,k.here P q S (by unfold Rep;congr 2;exact decide_eq_decide.mpr ⟨fun h=>by cases h;rfl,fun h=>by rw[h]⟩)⟩
end
end L3
namespace L3
open PySem PySem.Spec L2
open PyProof.Rows hiding St
noncomputable def LC(α:List (Option Addr))(G F:Hp)(K:bV→ag→Prop)(Q:L2.St→Hp→Prop):Prop:=∀σd' st',K σd' st'→∀α' G' H' σ',Step α G α' G'→bU G' F H'→dN α' G' σd' σ'→aS α' st' G'→Q σ' H'
structure xm(α:List (Option Addr))(G F:Hp)(DD:mz)(D:Ends):Prop where
 nx:LC α G F DD.nx D.nx
 rt:LK α G F DD.rt D.rt
 bk:LC α G F DD.bk D.bk
 ct:LC α G F DD.ct D.ct
inductive M4(t:DS)(D:Ends)(σ:L2.St)(H:Hp):Prop
 |mk (α:List (Option Addr)) (σd:bV) (st:ag) (DD:mz) (G F:Hp) (P:bU G F H) (R:dN α G σd σ) (S:aS α st G) (h:t DD σd st) (k:xm α G F DD D):M4 t D σ H
noncomputable def LS(t:DS):TS:=M4 t
theorem LC.at{α α1:List (Option Addr)}{G F G1:Hp}{K:bV→ag→Prop}{Q:L2.St→Hp→Prop}(h:LC α G F K Q)(s:Step α G α1 G1):LC α1 G1 F K Q:=fun d st' k α' G' H' v s' P R S=>h d st' k α' G' H' v (s.trans s') P R S
theorem LC.here{α:List (Option Addr)}{G F H:Hp}{K:bV→ag→Prop}{Q:L2.St→Hp→Prop}(h:LC α G F K Q)(P:bU G F H){σd:bV}{st:ag}{σ:L2.St}(k:K σd st)(R:dN α G σd σ)(S:aS α st G):Q σ H:=h σd st k α G H σ Step.refl P R S
theorem xm.at{α α1:List (Option Addr)}{G F G1:Hp}{DD:mz}{D:Ends}(h:xm α G F DD D)(s:Step α G α1 G1):xm α1 G1 F DD D:=⟨h.nx.at s,h.rt.at s,h.bk.at s,h.ct.at s⟩
section
variable {X:Cx}{a b c e o i:Expr}{es:List Expr}{ta tb tc te:DE}{pos:Pos}{st:Stmt}{sts:List Stmt}{t u:DS}
theorem PS.imp{t t':TS}(h:PS X st t)(f:∀D σ H,t' D σ H→t D σ H):PS X st t':=fun pins s σ H D I q=>h pins s σ H D I (f D σ H q)
theorem gj.imp{t t':TS}(h:gj X sts t)(f:∀D σ H,t' D σ H→t D σ H):gj X sts t':=fun pins s σ H D I q=>h pins s σ H D I (f D σ H q)
noncomputable def dM:DS:=fun D σ st=>D.nx σ st
noncomputable def aH(t u:DS):DS:=fun D σ st=>t {D with nx:=u D} σ st
theorem Ig:gj X [] (LS dM):=gj.imp Hx fun D σ H ⟨α,σd,st,DD,G,F,P,R,S,t,k⟩=>k.nx.here P t R S
theorem Hf(h:PS X st (LS t)):gj X [st] (LS t):=GG h
theorem FF(h:PS X st (LS t))(h2:gj X sts (LS u)):gj X (st::sts) (LS (aH t u)):=gj.imp (Ey h h2) fun D σ H ⟨α,σd,st,DD,G,F,P,R,S,t,k⟩=>
 ⟨α,σd,st,_,G,F,P,R,S,t,fun σd' st' q α' G' H' σ' s' P' R' S'=>⟨α',σd',st',DD,G',F,P',R',S',q,k.at s'⟩,k.rt,k.bk,k.ct⟩
noncomputable def bz(te:DE):DS:=fun D σ st=>te σ st D.rt
theorem JM(h:PE X e (LE te)):PS X (.Return (some e) pos) (LS (bz te)):=PS.imp (IB h) fun D σ H ⟨α,σd,st,DD,G,F,P,R,S,t,k⟩=>⟨α,σd,st,_,G,F,P,R,S,t,k.rt⟩
noncomputable def k6(te:DE):DS:=fun D σ st=>te σ st fun _ st1=>D.nx σ st1
theorem Hg(h:PE X e (LE te))(hs:swapsWith e none pos.line X.env=pure false:=by rfl):PS X (.Expr e pos) (LS (k6 te)):=PS.imp (HB h hs) fun D σ H ⟨α,σd,st,DD,G,F,P,R,S,t,k⟩=>
 ⟨α,σd,st,_,G,F,P,R,S,t,fun d st1 q α1 G1 H1 v s1 P1 S1 r1=>(k.nx.at s1).here P1 q (R.step s1) S1⟩
noncomputable def eY(c:DT)(t u:DS):DS:=fun D σ st=>c σ st fun b st1=>if b=true then t D σ st1 else u D σ st1
theorem Lj{x y:List Stmt}{tc:DT}(hc:PT X c (LT tc))(ha:gj X x (LS t))(hb:gj X y (LS u)):PS X (.If c x y pos) (LS (eY tc t u)):=PS.imp (MH hc ha hb) fun D σ H ⟨α,σd,st,DD,G,F,P,R,S,t,k⟩=>by
 refine⟨α,σd,st,_,G,F,P,R,S,t,fun b st1 q α1 G1 H1 s1 P1 S1=>?_⟩
 cases b with
 |true=>exact⟨α1,σd,st1,DD,G1,F,P1,R.step s1,S1,q,k.at s1⟩
 |false=>exact⟨α1,σd,st1,DD,G1,F,P1,R.step s1,S1,q,k.at s1⟩
noncomputable abbrev fk:=D→bV→Option bV
noncomputable def cw(i:Nat):fk:=fun d σ=>some (σ.set i (some d))
noncomputable def jd(i j:Nat):fk:=fun d σ=>match d with| .tup [x,y]=>some ((σ.set i (some x)).set j (some y))|_=>none
inductive M1(t:fk)(v:V)(σ:L2.St)(H:Hp)(Q:L2.St→Hp→Prop):Prop
 |mk (α:List (Option Addr)) (σd:bV) (st:ag) (d:D) (K:bV→ag→Prop) (G F:Hp) (P:bU G F H) (R:dN α G σd σ) (S:aS α st G) (r:Rep α G d v) (h:∃σ',t d σd=some σ'∧K σ' st) (k:LC α G F K Q):M1 t v σ H Q
noncomputable def LG(t:fk):TG:=M1 t
theorem PG.imp{tg:Expr}{t t':TG}(h:PG X tg t)(f:∀v σ H Q,t' v σ H Q→t v σ H Q):PG X tg t':=fun pins s σ H v u Q I r q=>h pins s σ H v u Q I r (f v σ H Q q)
theorem HR{tg:Expr}{i:Nat}(h:PG X tg (mv i)):PG X tg (LG (cw i)):=PG.imp h fun v σ H Q ⟨α,σd,st,d,K,G,F,P,R,S,r,⟨σ',e,q⟩,k⟩=>by
 cases e
 exact k.here P q (R.set i r) S
theorem Kn{tg:Expr}{i j:Nat}(h:PG X tg (KD X.K 2 (Bc (mv i) (Bc (mv j) Kz)))):PG X tg (LG (jd i j)):=PG.imp h fun v σ H Q ⟨α,σd,st,d,K,G,F,P,R,S,r,⟨σ',e,q⟩,k⟩=>by
 unfold jd at e
 split at e
 · rename_i x y
   cases e
   unfold Rep at r
   obtain⟨a,vs,rfl,na,h1,h2⟩:=r
   obtain⟨v1,v2,rfl,r1,r2⟩:=rN h2 rfl
   exact⟨a,_,rfl,.of (P.get h1),rfl,v1,_,rfl,v2,_,rfl,rfl,k.here P q ((R.set i r1).set j r2) S⟩
 · cases e
noncomputable def a_(i:Nat)(te:DE):DS:=fun D σ st=>te σ st fun d st1=>D.nx (σ.set i (some d)) st1
theorem Jl{i:Nat}(h:PS X st (ox (LE te) (mv i))):PS X st (LS (a_ i te)):=PS.imp h fun D σ H ⟨α,σd,st,DD,G,F,P,R,S,t,k⟩=>
 ⟨α,σd,st,_,G,F,P,R,S,t,fun d st1 q α1 G1 H1 v s1 P1 S1 r1=>(k.nx.at s1).here P1 q ((R.step s1).set i r1) S1⟩
noncomputable def EX(tg:fk)(te:DE):DS:=fun D σ st=>te σ st fun d st1=>∃σ',tg d σ=some σ'∧D.nx σ' st1
theorem IK{tg:fk}(h:PS X st (ox (LE te) (LG tg))):PS X st (LS (EX tg te)):=PS.imp h fun D σ H ⟨α,σd,st,DD,G,F,P,R,S,t,k⟩=>
 ⟨α,σd,st,_,G,F,P,R,S,t,fun d st1 q α1 G1 H1 v s1 P1 S1 r1=>⟨α1,σd,st1,d,DD.nx,G1,F,P1,R.step s1,S1,r1,q,k.nx.at s1⟩⟩
noncomputable def B9(i:Nat)(r:dw)(te:DE):DS:=fun D σ st=>match σ[i]? with|some (some x)=>te σ st fun y st1=>r x y st1 fun z st2=>D.nx (σ.set i (some z)) st2|_=>False
noncomputable def xN(f:Int→Int→Int):dw:=fun x y st K=>match x,y with| .int i,.int j=>K (.int (f i j)) st|_,_=>False
theorem JU{i:Nat}{f:Int→Int→Int}(h:PS X st (KH i (LE te) (Iz f))):PS X st (LS (B9 i (xN f) te)):=PS.imp h fun D σ H ⟨α,σd,st,DD,G,F,P,R,S,t,k⟩=>by
 unfold B9 at t
 split at t
 · rename_i x e
   obtain⟨v,ev,rv⟩:=R.at' i x e
   refine⟨v,ev,α,σd,st,_,G,F,P,R,S,t,fun y st1 q α1 G1 H1 w s1 P1 S1 r1=>?_⟩
   cases x<;>cases y<;>try exact q.elim
   have rv':=rv
   unfold Rep at rv r1
   exact⟨_,_,rv,r1,(k.nx.at s1).here P1 q ((R.step s1).set i (by unfold Rep;rfl)) S1⟩
 · exact t.elim
noncomputable def AZ(x y d:D)(st:ag)(K:ag→Prop):Prop:=match x,y with
 | .ref n,.int k=>(match st[n]? with
   |some (.lst xs)=>(match j9 xs.length k with|some j=>K (st.set n (.lst (xs.set j d)))|none=>False)
   |_=>False)
 |_,_=>False
noncomputable def KO(to ti te:DE):DS:=fun D σ st=>te σ st fun d st1=>to σ st1 fun x st2=>ti σ st2 fun y st3=>AZ x y d st3 fun st4=>D.nx σ st4
theorem EW{to ti:DE}(h:PS X st (ox (LE te) (Bi (LE to) (LE ti) xw))):PS X st (LS (KO to ti te)):=PS.imp h fun D σ H ⟨α,σd,st,DD,G,F,P,R,S,t,k⟩=>by
 refine⟨α,σd,st,_,G,F,P,R,S,t,fun d st1 q α1 G1 H1 v s1 P1 S1 r1=>?_⟩
 refine⟨α1,σd,st1,_,G1,F,P1,R.step s1,S1,q,fun x st2 q2 α2 G2 H2 v2 s2 P2 S2 r2=>?_⟩
 refine⟨α2,σd,st2,_,G2,F,P2,(R.step s1).step s2,S2,q2,fun y st3 q3 α3 G3 H3 v3 s3 P3 S3 r3=>?_⟩
 cases x<;>cases y<;>try exact q3.elim
 rename_i n kk
 unfold AZ at q3
 simp only at q3
 split at q3
 · rename_i xs e
   split at q3
   · rename_i j ej
     obtain⟨p,ep,vs,hv,rv⟩:=S3.ja e
     have r2':=dU ep (r2.step s3)
     subst r2'
     unfold Rep at r3
     have hm:some p∈α3:=List.mem_of_getElem? ep
     have rd:=(r1.step s2).step s3
     refine⟨p,vs,kk,j,rfl,r3,P3.get hv,by rw[←rv.length];exact ej,?_⟩
     refine(((k.nx.at s1).at s2).at s3) σd _ q3 α3 (upd G3 p (.lst (vs.set j v))) _ σ (Step.write hm) (P3.write hv) ((((R.step s1).step s2).step s3).step (Step.write hm)) ?_
     exact S3.write ep ⟨vs.set j v,a5,(bc.mpr (uO rd j (bc.mp rv))).step (Step.write hm)⟩
   · exact q3.elim
 · exact q3.elim
noncomputable def uW(c:DT)(tb:DS):DS:=fun D σ st=>∃W:Nat→bV→ag→Prop,(∃m,W m σ st)∧∀m σ st,W m σ st→
 c σ st fun b st1=>if b=true then tb {D with nx:=fun σ' st'=>∃m',m'<m∧W m' σ' st',ct:=fun σ' st'=>∃m',m'<m∧W m' σ' st',bk:=D.nx} σ st1 else D.nx σ st1
theorem EG{tc:DT}(h:PS X st (DV (LT tc) (LS t))):PS X st (LS (uW tc t)):=PS.imp h fun D σ H ⟨α,σd,st,DD,G,F,P,R,S,⟨W,⟨m0,w0⟩,turn⟩,k⟩=>by
 refine⟨fun m σ' H'=>∃α' σd' st' G',Step α G α' G'∧bU G' F H'∧dN α' G' σd' σ'∧aS α' st' G'∧W m σd' st',⟨m0,α,σd,st,G,Step.refl,P,R,S,w0⟩,?_⟩
 rintro m σ1 H1 ⟨α1,σd1,st1,G1,s1,P1,R1,S1,w1⟩
 refine⟨α1,σd1,st1,_,G1,F,P1,R1,S1,turn m σd1 st1 w1,fun b st2 q α2 G2 H2 s2 P2 S2=>?_⟩
 cases b with
 |false=>exact((k.nx.at s1).at s2).here P2 q (R1.step s2) S2
 |true=>
  refine⟨fun σ' H'=>∃m',m'<m∧∃α' σd' st' G',Step α G α' G'∧bU G' F H'∧dN α' G' σd' σ'∧aS α' st' G'∧W m' σd' st',fun σ' H' z=>z,?_⟩
  refine⟨α2,σd1,st2,_,G2,F,P2,R1.step s2,S2,q,?_⟩
  refine⟨?_,(k.rt.at s1).at s2,(k.nx.at s1).at s2,?_⟩
  · rintro σd3 st3 ⟨m',hm,w3⟩ α3 G3 H3 σ3 s3 P3 R3 S3
    exact⟨m',hm,α3,σd3,st3,G3,(s1.trans s2).trans s3,P3,R3,S3,w3⟩
  · rintro σd3 st3 ⟨m',hm,w3⟩ α3 G3 H3 σ3 s3 P3 R3 S3
    exact⟨m',hm,α3,σd3,st3,G3,(s1.trans s2).trans s3,P3,R3,S3,w3⟩
noncomputable abbrev DI:=bV→ag→(List D→(ag→Prop)→ag→Prop)→Prop
structure td(J:It)(α:List (Option Addr))(G:Hp)(ok:ag→Prop)(xs:List D):Prop where
 stop:∀(n:Nat) α' G' F' H' st',Step α G α' G'→bU G' F' H'→aS α' st' G'→ok st'→xs.length≤n→J.stop n H'
 go:∀(n:Nat) d α' G' F' H' st',Step α G α' G'→bU G' F' H'→aS α' st' G'→ok st'→xs[n]?=some d→J.go n H'
 nR:∀(n:Nat) d α' G' F' H' st' x H'',Step α G α' G'→bU G' F' H'→aS α' st' G'→ok st'→xs[n]?=some d→J.nR n H' x H''→∃G'',Step α' G' α' G''∧bU G'' F' H''∧aS α' st' G''∧Rep α' G'' d x
noncomputable def LI(t:DI):TI:=fun σ H R=>∃α σd st K G F,bU G F H∧dN α G σd σ∧aS α st G∧t σd st K∧∀xs ok st1,K xs ok st1→∀J α1 G1 H1,Step α G α1 G1→bU G1 F H1→aS α1 st1 G1→td J α1 G1 ok xs→R J H1
noncomputable def zD(d:D)(st1:ag)(K:List D→(ag→Prop)→ag→Prop):Prop:=match d with
 | .lst xs=>K xs (fun _=>True) st1
 | .tup xs=>K xs (fun _=>True) st1
 | .ref n=>(match st1[n]? with|some (.lst xs)=>K xs (fun st'=>st'[n]?=some (.lst xs)) st1|_=>False)
 |_=>False
noncomputable def Mf(t:DE):DI:=fun σ st K=>t σ st fun d st1=>zD d st1 K
theorem Am{K:PySem.W.Frag}{a:Addr}{α:List (Option Addr)}{G:Hp}{ok:ag→Prop}{xs:List D}
 (h:∀α' G' st',Step α G α' G'→aS α' st' G'→ok st'→∃vs,Rd G' a (.lst vs)∧aK α' G' xs vs):td (IE K a) α G ok xs where
 stop:=fun n α' G' F' H' st' s P S o hn=>by
  obtain⟨vs,h1,h2⟩:=h α' G' st' s S o
  exact⟨vs,.inl (fQ P h1),by rw[←h2.length];exact hn⟩
 go:=fun n d α' G' F' H' st' s P S o hn=>by
  obtain⟨vs,h1,h2⟩:=h α' G' st' s S o
  obtain⟨v,e,_⟩:=h2.get hn
  exact⟨vs,v,.inl (fQ P h1),e⟩
 nR:=fun n d α' G' F' H' st' x H'' s P S o hn y=>by
  obtain⟨vs,h1,h2⟩:=h α' G' st' s S o
  obtain⟨v,e,r⟩:=h2.get hn
  obtain⟨rfl,y⟩:=y
  have:=y vs (.inl (fQ P h1))
  rw[e]at this
  cases this
  exact⟨G',Step.refl,P,S,r⟩
theorem J9{K:PySem.W.Frag}{a:Addr}{α:List (Option Addr)}{G:Hp}{ok:ag→Prop}{xs:List D}
 (h:∀α' G' st',Step α G α' G'→aS α' st' G'→ok st'→∃vs,G' a=some (.tup vs)∧aK α' G' xs vs):td (J3 K a) α G ok xs where
 stop:=fun n α' G' F' H' st' s P S o hn=>by
  obtain⟨vs,h1,h2⟩:=h α' G' st' s S o
  exact⟨vs,.of (P.get h1),by rw[←h2.length];exact hn⟩
 go:=fun n d α' G' F' H' st' s P S o hn=>by
  obtain⟨vs,h1,h2⟩:=h α' G' st' s S o
  obtain⟨v,e,_⟩:=h2.get hn
  exact⟨vs,v,.of (P.get h1),e⟩
 nR:=fun n d α' G' F' H' st' x H'' s P S o hn y=>by
  obtain⟨vs,h1,h2⟩:=h α' G' st' s S o
  obtain⟨v,e,r⟩:=h2.get hn
  obtain⟨rfl,y⟩:=y
  have:=y vs (.of (P.get h1))
  rw[e]at this
  cases this
  exact⟨G',Step.refl,P,S,r⟩
theorem Fj{α α':List (Option Addr)}{G G':Hp}{a:Addr}{vs:List V}{xs:List D}(s:Step α G α' G')(na:some a∉α)(h1:Rd G a (.lst vs))(h2:aK α G xs vs):Rd G' a (.lst vs)∧aK α' G' xs vs:=by
 refine⟨?_,h2.step s⟩
 rcases h1 with h|⟨o,h⟩
 · exact .inl (s.ext _ _ na h)
 · exact .inr ⟨o,s.ext _ _ na h⟩
theorem Kp{l tg:Expr}{tl:DE}(hl:PE X l (LE tl)):PI X tg l (LI (Mf tl)):=by
 intro pins s σ H R I h
 obtain⟨α,σd,st,K,G,F,P,RS,S,t,k⟩:=h
 refine bO (hl pins s σ H (fun x H1=>∃d α1 G1 st1,Step α G α1 G1∧bU G1 F H1∧aS α1 st1 G1∧Rep α1 G1 d x∧zD d st1 K) I ⟨α,σd,st,_,G,F,P,RS,S,t,fun d st1 q α1 G1 H1 v s1 P1 S1 r1=>⟨d,α1,G1,st1,s1,P1,S1,r1,q⟩⟩) fun v s1 ⟨x,H1,I1,rx,d,α1,G1,st1,s1',P1,S1,r1,q⟩=>?_
 unfold zD at q
 have viaL:∀ {a:Addr} {vs:List V},x= .ref a→Rd H1 a (.lst vs)→R (IE X.K a) H1→wpAny (model X.prog X.w) X.A (pyIter v) (FH X pins σ tg R) X.xe s1:=by
  intro a vs ex hr hR
  subst ex
  cases rx
  obtain⟨au,rv,p,hz⟩:=I1.list (.inl hr)
  refine wpAny_pyIter_list p.isList ?_
  refine⟨s1.heap.objs.size,[s1.heap.objs.size],_,_,H1,rfl,I1.kept (t':=s1.toks) fun b o e=>Heap.get?_push_of_some _ e,DM a _,⟨_,Heap.get?_push_size _ rfl,rfl,rfl⟩,fun b hb=>?_,hR⟩
  have e:b=s1.heap.objs.size:=by simpa using hb
  subst e
  exact I1.tX (Nat.le_refl _) (I1.aL.fresh (Nat.le_refl _))
 have viaT:∀ {a:Addr} {vs:List V},x= .ref a→H1 a=some (.tup vs)→R (J3 X.K a) H1→wpAny (model X.prog X.w) X.A (pyIter v) (FH X pins σ tg R) X.xe s1:=by
  intro a vs ex hr hR
  subst ex
  cases rx
  obtain⟨au,rv,p,hz⟩:=I1.tuple (iz.of hr)
  refine wpAny_pyIter_tuple (show s1.heap.IsTuple a au.toArray from p) ?_
  refine⟨s1.heap.objs.size,[s1.heap.objs.size],_,_,H1,rfl,I1.kept (t':=s1.toks) fun b o e=>Heap.get?_push_of_some _ e,BF a _,⟨_,Heap.get?_push_size _ rfl,rfl,rfl⟩,fun b hb=>?_,hR⟩
  have e:b=s1.heap.objs.size:=by simpa using hb
  subst e
  exact I1.tX (Nat.le_refl _) (I1.aL.fresh (Nat.le_refl _))
 cases d<;>try exact q.elim
 · rename_i n
   simp only at q
   split at q
   · rename_i xs e
     obtain⟨a,ea,vs,h1,h2⟩:=S1.ja e
     have r1':=dU ea r1
     subst r1'
     refine viaL rfl (fQ P1 (.of h1)) (k _ _ st1 q _ α1 G1 H1 s1' P1 S1 (Am fun α' G' st' s S o=>?_))
     obtain⟨b,eb,ws,g1,g2⟩:=S.ja o
     have hb:b=a:=by
      rcases s.pre _ _ ea with z|z<;>(rw[z]at eb;cases eb)
      rfl
     subst hb
     exact⟨ws,.of g1,g2⟩
   · exact q.elim
 · unfold Rep at r1
   obtain⟨a,vs,rfl,na,ha,ra⟩:=r1
   exact viaL rfl (fQ P1 ha) (k _ _ st1 q _ α1 G1 H1 s1' P1 S1 (Am fun α' G' st' s S o=>⟨vs,Fj s na ha ra⟩))
 · unfold Rep at r1
   obtain⟨a,vs,rfl,na,ha,ra⟩:=r1
   exact viaT rfl (P1.get ha) (k _ _ st1 q _ α1 G1 H1 s1' P1 S1 (J9 fun α' G' st' s S o=>⟨vs,s.ext _ _ na ha,ra.step s⟩))
noncomputable def dS(lo:Int)(n:Nat):List D:=(List.range n).map fun(k:Nat)=>D.int (lo+(k:Int))
theorem uU{lo:Int}{n k:Nat}:(dS lo n)[k]?=if k<n then some (.int (lo+(k:Int)))else none:=by
 unfold dS
 rw[List.getElem?_map]
 by_cases h:k<n
 · rw[List.getElem?_range h,if_pos h];rfl
 · rw[List.getElem?_eq_none (by simpa using h),if_neg h];rfl
theorem fC{lo:Int}{n:Nat}:(dS lo n).length=n:=by unfold dS;simp
theorem zx{α:List (Option Addr)}{G:Hp}{lo:Int}{n:Nat}:td (wz lo n) α G (fun _=>True) (dS lo n) where
 stop:=fun m α' G' F' H' st' s P S o hn=>by rw[fC]at hn;exact hn
 go:=fun m d α' G' F' H' st' s P S o hn=>by
  rw[uU]at hn
  split at hn
  · assumption
  · cases hn
 nR:=fun m d α' G' F' H' st' x H'' s P S o hn y=>by
  obtain⟨rfl,rfl⟩:=y
  rw[uU]at hn
  split at hn
  · cases hn
    exact⟨G',Step.refl,P,S,by unfold Rep;rfl⟩
  · cases hn
theorem PI.imp{tg iter:Expr}{t t':TI}(h:PI X tg iter t)(f:∀σ H R,t' σ H R→t σ H R):PI X tg iter t':=fun pins s σ H R I q=>h pins s σ H R I (f σ H R q)
noncomputable def F8(ds:List D)(st1:ag)(K:List D→(ag→Prop)→ag→Prop):Prop:=match ds with
 | [.int j]=>(-(2^62)≤j∧j<2^62)∧K (dS 0 j.toNat) (fun _=>True) st1
 |_=>False
noncomputable def Gs(ds:List D)(st1:ag)(K:List D→(ag→Prop)→ag→Prop):Prop:=match ds with
 | [.int i,.int j]=>(-(2^62)≤i∧i<2^62∧ -(2^62)≤j∧j<2^62)∧K (dS i (j-i).toNat) (fun _=>True) st1
 |_=>False
noncomputable def G7(t:DA):DI:=fun σ st K=>t σ st fun ds st1=>F8 ds st1 K
noncomputable def Hv(t:DA):DI:=fun σ st K=>t σ st fun ds st1=>Gs ds st1 K
theorem CH{tg iter:Expr}{t:DA}(h:PI X tg iter (AW (LA t))):PI X tg iter (LI (G7 t)):=PI.imp h fun σ H R ⟨α,σd,st,K,G,F,P,RS,S,t,k⟩=>by
 refine⟨α,σd,st,_,G,F,P,RS,S,t,fun ds st1 q α1 G1 H1 vs s1 P1 S1 r1=>?_⟩
 match ds,q,r1 with
 | [.int j],q,r1=>
   obtain⟨v,rfl,r2⟩:=i8 r1 rfl
   unfold Rep at r2
   subst r2
   exact⟨j,rfl,q.1.1,q.1.2,k _ _ st1 q.2 _ α1 G1 H1 s1 P1 S1 zx⟩
theorem Dk{tg iter:Expr}{t:DA}(h:PI X tg iter (A4 (LA t))):PI X tg iter (LI (Hv t)):=PI.imp h fun σ H R ⟨α,σd,st,K,G,F,P,RS,S,t,k⟩=>by
 refine⟨α,σd,st,_,G,F,P,RS,S,t,fun ds st1 q α1 G1 H1 vs s1 P1 S1 r1=>?_⟩
 match ds,q,r1 with
 | [.int i,.int j],q,r1=>
   obtain⟨v,u,rfl,r2,r3⟩:=rN r1 rfl
   unfold Rep at r2 r3
   subst r2 r3
   exact⟨i,j,rfl,q.1,k _ _ st1 q.2 _ α1 G1 H1 s1 P1 S1 zx⟩
noncomputable def iy(tg:fk)(body:DS)(ok:ag→Prop)(E:mz):List D→bV→ag→Prop
 | [],σ,st=>ok st∧E.nx σ st
 |x::xs,σ,st=>ok st∧∃σ1,tg x σ=some σ1∧body {E with nx:=iy tg body ok E xs,ct:=iy tg body ok E xs,bk:=E.nx} σ1 st
noncomputable def jj(src:DI)(tg:fk)(body:DS):DS:=fun D σ st=>src σ st fun xs ok st1=>iy tg body ok D xs σ st1
theorem Je{src:DI}{tg:fk}(h:PS X st (Kb (LI src) (LG tg) (LS t))):PS X st (LS (jj src tg t)):=PS.imp h fun D σ H ⟨α,σd,st,DD,G,F,P,R,S,tt,k⟩=>by
 refine⟨α,σd,st,_,G,F,P,R,S,tt,fun xs ok st1 q J α1 G1 H1 s1 P1 S1 it=>?_⟩
 refine⟨fun i m σ' H'=>∃α' σd' st' G',Step α1 G1 α' G'∧bU G' F H'∧dN α' G' σd' σ'∧aS α' st' G'∧iy tg t ok DD (xs.drop i) σd' st'∧m=xs.length-i,⟨xs.length,α1,σd,st1,G1,Step.refl,P1,R.step s1,S1,q,rfl⟩,?_⟩
 rintro i m σ2 H2 ⟨α2,σd2,st2,G2,s2,P2,R2,S2,q2,rfl⟩
 cases e:xs[i]? with
 |none=>
  have hl:xs.length≤i:=List.getElem?_eq_none_iff.mp e
  rw[List.drop_eq_nil_of_le hl]at q2
  unfold iy at q2
  exact .inl ⟨it.stop i α2 G2 F H2 st2 s2 P2 S2 q2.1 hl,((k.nx.at s1).at s2).here P2 q2.2 R2 S2⟩
 |some d=>
  have hl:i<xs.length:=(List.getElem?_eq_some_iff.mp e).1
  have ed:xs.drop i=d::xs.drop (i+1):=by
   rw[List.drop_eq_getElem_cons hl]
   congr 1
   rw[List.getElem?_eq_getElem hl]at e
   exact Option.some.inj e
  rw[ed]at q2
  unfold iy at q2
  obtain⟨aL,σ3,e3,q3⟩:=q2
  refine .inr ⟨it.go i d α2 G2 F H2 st2 s2 P2 S2 aL e,fun σ' H'=>∃α' σd' st' G',Step α1 G1 α' G'∧bU G' F H'∧dN α' G' σd' σ'∧aS α' st' G'∧iy tg t ok DD (xs.drop (i+1)) σd' st',?_,?_⟩
  · rintro σ' H' ⟨α',σd',st',G',z1,z2,z3,z4,z5⟩
    exact⟨xs.length-(i+1),by omega,α',σd',st',G',z1,z2,z3,z4,z5,rfl⟩
  · intro x H' y
    obtain⟨G3,s3,P3,S3,r3⟩:=it.nR i d α2 G2 F H2 st2 x H' s2 P2 S2 aL e y
    refine⟨α2,σd2,st2,d,fun σ' st'=>σ'=σ3∧st'=st2,G3,F,P3,R2.step s3,S3,r3,⟨σ3,e3,rfl,rfl⟩,?_⟩
    rintro σ' st' ⟨rfl,rfl⟩ α4 G4 H4 σ4 s4 P4 R4 S4
    have s24:=(s2.trans s3).trans s4
    refine⟨α4,σ',st',_,G4,F,P4,R4,S4,q3,?_,((k.rt.at s1).at s24),(k.nx.at s1).at s24,?_⟩
    · intro σd5 st5 q5 α5 G5 H5 σ5 s5 P5 R5 S5
      exact⟨α5,σd5,st5,G5,s24.trans s5,P5,R5,S5,q5⟩
    · intro σd5 st5 q5 α5 G5 H5 σ5 s5 P5 R5 S5
      exact⟨α5,σd5,st5,G5,s24.trans s5,P5,R5,S5,q5⟩
end
end L3
namespace L3
open PySem PySem.Spec L2
open PyProof.Rows hiding St
noncomputable def gb(fr:List (Option Nat))(σ:bV):bV:=fr.map fun o=>o.bind fun j=>(σ[j]?).join
theorem dN.comp{α:List (Option Addr)}{G:Hp}{σd:bV}{σ:L2.St}{fr:List (Option Nat)}(h:dN α G σd σ):dN α G (gb fr σd) (σC fr σ):=by
 refine⟨by unfold gb σC;simp,fun i d e=>?_⟩
 unfold gb at e
 rw[List.getElem?_map]at e
 cases q:fr[i]? with
 |none=>rw[q]at e;cases e
 |some o=>
  rw[q]at e
  cases o with
  |none=>simp at e
  |some j=>
   simp only[Option.map_some,Option.some.injEq,Option.bind_some]at e
   have ej:σd[j]?=some (some d):=by
    cases r:σd[j]? with
    |none=>rw[r]at e;cases e
    |some u=>rw[r]at e;simp at e;rw[e]
   obtain⟨v,ev,rv⟩:=h.at' j d ej
   refine⟨v,?_,rv⟩
   unfold σC
   rw[List.getElem?_map,q]
   simp[ev]
noncomputable def cO(tg:fk)(c:DT)(te:DE)(ok:ag→Prop)(σc:bV):List D→List D→ag→(List D→ag→Prop)→Prop
 | [],acc,st,K=>ok st∧K acc st
 |x::xs,acc,st,K=>ok st∧∃σ2,tg x σc=some σ2∧c σ2 st fun b st1=>if b=true then te σ2 st1 fun y st2=>cO tg c te ok σc xs (acc++[y]) st2 K else cO tg c te ok σc xs acc st1 K
noncomputable def d7(src:DI)(fr:List (Option Nat))(tg:fk)(c:DT)(te:DE):DE:=fun σ st K=>src σ st fun xs ok st1=>xs.length≤sizeLine∧cO tg c te ok (gb fr σ) xs [] st1 fun ys st2=>K (.lst ys) st2
noncomputable def rl(src:DI)(fr:List (Option Nat))(tg:fk)(c:DT)(te:DE):DE:=fun σ st K=>src σ st fun xs ok st1=>xs.length≤sizeLine∧cO tg c te ok (gb fr σ) xs [] st1 fun ys st2=>K (.ref st2.length) (st2++[.lst ys])
noncomputable def cG:DT:=fun _ st K=>K true st
noncomputable def sJ(fr:List (Option Nat))(tg:fk):Prop:=∀(σ:bV) (d:D) (σ2:bV),tg d (gb fr σ)=some σ2→σ2.length=(gb fr σ).length∧∀(i:Nat) (e:D),(gb fr σ)[i]?=some (some e)→σ2[i]?=some (some e)
theorem qy{fr:List (Option Nat)}{σ:bV}{k:Nat}(h:fr[k]?=some none){e:D}(q:(gb fr σ)[k]?=some (some e)):False:=by
 unfold gb at q
 rw[List.getElem?_map,h]at q
 simp at q
theorem cS{fr:List (Option Nat)}{k:Nat}(h:fr[k]?=some none:=by rfl):sJ fr (cw k):=fun σ d σ2 e=>by
 cases e
 refine⟨List.length_set,fun i x q=>?_⟩
 by_cases hi:i=k
 · subst hi;exact(qy h q).elim
 · rw[List.getElem?_set_ne (Ne.symm hi)];exact q
theorem vC{fr:List (Option Nat)}{k j:Nat}(h:fr[k]?=some none:=by rfl)(h':fr[j]?=some none:=by rfl):sJ fr (jd k j):=fun σ d σ2 e=>by
 unfold jd at e
 split at e
 · cases e
   refine⟨by rw[List.length_set,List.length_set],fun i x q=>?_⟩
   by_cases hi:i=k
   · subst hi;exact(qy h q).elim
   · by_cases hj:i=j
     · subst hj;exact(qy h' q).elim
     · rw[List.getElem?_set_ne (Ne.symm hj),List.getElem?_set_ne (Ne.symm hi)];exact q
 · cases e
section
variable {X:Cx}
theorem KL{c:Expr}{t:DT}(h:PT X c (LT t)):qM X [c] (LT t):=Ij h
theorem Ec:qM X [] (LT cG):=fun pins s σ H Q I ⟨α,σd,st,K,G,F,P,R,S,t,k⟩=>Ie pins s σ H Q I (k true st t α G H Step.refl P S)
theorem LE.comp{src:DI}{fr:List (Option Nat)}{tg:fk}{c:DT}{te:DE}(fit:sJ fr tg){σ:L2.St}{H:Hp}{Q:VK}{α:List (Option Addr)}{σd:bV}{st:ag}{KE:List D→ag→Prop}{G F:Hp}(P:bU G F H)(R:dN α G σd σ)(S:aS α st G)
 (t:src σd st fun xs ok st1=>xs.length≤sizeLine∧cO tg c te ok (gb fr σd) xs [] st1 KE)
 (fin:∀ys st2 α2 G2 H2 l vs,KE ys st2→Step α G α2 G2→bU G2 (upd F l (.lst vs)) H2→F l=none→aS α2 st2 G2→aK α2 G2 ys vs→Q (.ref l) H2):
 uX (LI src) fr (LG tg) (LT c) (LE te) σ H Q:=by
 refine⟨α,σd,st,_,G,F,P,R,S,t,fun xs ok st1 q J α1 G1 H1 s1 P1 S1 it l hl=>?_⟩
 obtain⟨hsz,q⟩:=q
 obtain⟨hG,hF⟩:=P1.none hl
 refine⟨fun i m σ' H'=>∃α' st' G' acc vs,Step α1 G1 α' G'∧bU G' (upd F l (.lst vs)) H'∧dN α' G' (gb fr σd) σ'∧aS α' st' G'∧aK α' G' acc vs∧acc.length≤i∧i≤xs.length∧cO tg c te ok (gb fr σd) (xs.drop i) acc st' KE∧m=xs.length-i,
  ⟨xs.length,α1,st1,G1,[],[],Step.refl,P1.hide hl,(R.step s1).comp,S1,by unfold aK;rfl,Nat.le_refl _,Nat.zero_le _,q,rfl⟩,?_⟩
 rintro i m σ2 H2 ⟨α2,st2,G2,acc,vs,s2,P2,R2,S2,ra,hacc,hi,q2,rfl⟩
 cases e:xs[i]? with
 |none=>
  have hl2:xs.length≤i:=List.getElem?_eq_none_iff.mp e
  rw[List.drop_eq_nil_of_le hl2]at q2
  unfold cO at q2
  exact .inl ⟨it.stop i α2 G2 _ H2 st2 s2 P2 S2 q2.1 hl2,fin acc st2 α2 G2 H2 l vs q2.2 (s1.trans s2) P2 hF S2 ra⟩
 |some d=>
  have hl2:i<xs.length:=(List.getElem?_eq_some_iff.mp e).1
  have ed:xs.drop i=d::xs.drop (i+1):=by
   rw[List.drop_eq_getElem_cons hl2]
   congr 1
   rw[List.getElem?_eq_getElem hl2]at e
   exact Option.some.inj e
  rw[ed]at q2
  unfold cO at q2
  obtain⟨aL,σ3,e3,q3⟩:=q2
  refine .inr ⟨it.go i d α2 G2 _ H2 st2 s2 P2 S2 aL e,fun σ' H'=>∃α' st' G' acc vs,Step α1 G1 α' G'∧bU G' (upd F l (.lst vs)) H'∧dN α' G' (gb fr σd) σ'∧aS α' st' G'∧aK α' G' acc vs∧acc.length≤i+1∧cO tg c te ok (gb fr σd) (xs.drop (i+1)) acc st' KE,?_,?_⟩
  · rintro σ' H' ⟨α',st',G',acc',vs',z1,z2,z3,z4,z5,z6,z7⟩
    exact⟨xs.length-(i+1),by omega,α',st',G',acc',vs',z1,z2,z3,z4,z5,z6,hl2,z7,rfl⟩
  · intro x H' y
    obtain⟨G3,s3,P3,S3,r3⟩:=it.nR i d α2 G2 _ H2 st2 x H' s2 P2 S2 aL e y
    refine⟨α2,gb fr σd,st2,d,fun σ' st'=>σ'=σ3∧st'=st2,G3,_,P3,R2.step s3,S3,r3,⟨σ3,e3,rfl,rfl⟩,?_⟩
    rintro σ' st' ⟨rfl,rfl⟩ α4 G4 H4 σ4 s4 P4 R4 S4
    have s24:=(s2.trans s3).trans s4
    have Rc:dN α4 G4 (gb fr σd) σ4:=⟨by rw[←(fit σd d σ' e3).1];exact R4.len,fun j z hz=>R4.at' j z ((fit σd d σ' e3).2 j z hz)⟩
    refine⟨α4,σ',st',_,G4,_,P4,R4,S4,q3,fun b st5 q5 α5 G5 H5 s5 P5 S5=>?_⟩
    cases b with
    |false=>exact⟨α5,st5,G5,acc,vs,s24.trans s5,P5,Rc.step s5,S5,((ra.step s3).step s4).step s5,by omega,q5⟩
    |true=>
     refine⟨α5,σ',st5,_,G5,_,P5,R4.step s5,S5,q5,fun z st6 q6 α6 G6 H6 v6 s6 P6 S6 r6=>?_⟩
     have hr:=(((ra.step s3).step s4).step s5).step s6
     refine⟨vs,(P6.frame a5).1,by rw[←hr.length];omega,α6,st6,G6,acc++[z],vs++[v6],(s24.trans s5).trans s6,?_,(Rc.step s5).step s6,S6,bc.mpr (fw (bc.mp hr) (.cons r6 .nil)),by rw[List.length_append,List.length_singleton];omega,q6⟩
     have:=P6.Of (p:=l) (o':= .lst (vs++[v6])) a5
     rw[Hi]at this
     exact this
theorem Kv{scope:Scope}{Nc:List Str}{elt tg iter:Expr}{ifs:List Expr}{pos:Pos}{src:DI}{fr:List (Option Nat)}{dtg:fk}{c:DT}{te:DE}(S:bN X scope Nc fr)(hi:PI X tg iter (LI src))
 (hg:∀C s H ex,PG (ft X scope Nc C s H ex) tg (LG dtg)) (ht:∀C s H ex,qM (ft X scope Nc C s H ex) ifs (LT c)) (he:∀C s H ex,PE (ft X scope Nc C s H ex) elt (LE te)) (fit:sJ fr dtg)
 (hx:X.xe=fun _ _=>False:=by rfl) (hc:X.calm=true:=by rfl) (hs:∀x,foldedSetIterable iter X.env x=pure x:=by intro _;rfl):PE X (.ListComp elt [⟨tg,iter,ifs,0⟩] scope pos) (LE (d7 src fr dtg c te)):=
 PE.imp (AD hx hc S hi hg ht he hs) fun σ H Q ⟨α,σd,st,K,G,F,P,R,S,t,k⟩=>LE.comp fit P R S t fun ys st2 α2 G2 H2 l vs q s2 P2 hl S2 r=>by
  have hg:G2 l=none:=(P2.frame a5).2
  refine k _ st2 q α2 (upd G2 l (.lst vs)) H2 (.ref l) (s2.trans (Step.laid hg)) (P2.show hl) (S2.laid hg) ?_
  unfold Rep
  exact⟨l,vs,rfl,S2.jP hg,.of a5,r.step (Step.laid hg)⟩
theorem Iq{scope:Scope}{Nc:List Str}{elt tg iter:Expr}{ifs:List Expr}{pos:Pos}{src:DI}{fr:List (Option Nat)}{dtg:fk}{c:DT}{te:DE}(S:bN X scope Nc fr)(hi:PI X tg iter (LI src))
 (hg:∀C s H ex,PG (ft X scope Nc C s H ex) tg (LG dtg)) (ht:∀C s H ex,qM (ft X scope Nc C s H ex) ifs (LT c)) (he:∀C s H ex,PE (ft X scope Nc C s H ex) elt (LE te)) (fit:sJ fr dtg)
 (hx:X.xe=fun _ _=>False:=by rfl) (hc:X.calm=true:=by rfl) (hs:∀x,foldedSetIterable iter X.env x=pure x:=by intro _;rfl):PE X (.ListComp elt [⟨tg,iter,ifs,0⟩] scope pos) (LE (rl src fr dtg c te)):=
 PE.imp (AD hx hc S hi hg ht he hs) fun σ H Q ⟨α,σd,st,K,G,F,P,R,S,t,k⟩=>LE.comp fit P R S t fun ys st2 α2 G2 H2 l vs q s2 P2 hl S2 r=>by
  have hg:G2 l=none:=(P2.frame a5).2
  refine k _ _ q (α2++[some l]) (upd G2 l (.lst vs)) H2 (.ref l) (s2.trans (Step.cell hg)) (P2.show hl) (S2.cell hg ⟨vs,a5,r.step (Step.cell hg)⟩) ?_
  unfold Rep
  refine .inr ⟨l,?_,rfl⟩
  rw[List.getElem?_append_right (by rw[S2.len];exact Nat.le_refl _),S2.len,Nat.sub_self]
  rfl
theorem GS{st:Stmt}{k:Nat}{src:DI}{fr:List (Option Nat)}{dtg:fk}{c:DT}{te:DE}(fit:sJ fr dtg)(h:PS X st (ox (uX (LI src) fr (LG dtg) (LT c) (LE te)) (mv k))):PS X st (LS (a_ k (d7 src fr dtg c te))):=
 PS.imp h fun D σ H ⟨α,σd,st,DD,G,F,P,R,S,t,q⟩=>LE.comp fit P R S t fun ys st2 α2 G2 H2 l vs qq s2 P2 hl S2 r=>by
  have hg:G2 l=none:=(P2.frame a5).2
  have s3:=s2.trans (Step.laid (o:= .lst vs) hg)
  refine q.nx _ st2 qq α2 (upd G2 l (.lst vs)) H2 _ s3 (P2.show hl) ((R.step s3).set k ?_) (S2.laid hg)
  unfold Rep
  exact⟨l,vs,rfl,S2.jP hg,.of a5,r.step (Step.laid hg)⟩
noncomputable def aR(N:List Str)(ds:List D):bV:=ds.map some++List.replicate (N.length-ds.length) none
theorem dN.start{α:List (Option Addr)}{G:Hp}{N:List Str}{ds:List D}{vs:List V}(r:aK α G ds vs):dN α G (aR N ds) (L2.start N vs):=by
 have hl:=r.length
 refine⟨by unfold aR L2.start;simp[hl],fun i d e=>?_⟩
 unfold aR at e
 by_cases hi:i<ds.length
 · rw[List.getElem?_append_left (by simpa using hi),List.getElem?_map]at e
   cases q:ds[i]? with
   |none=>rw[q]at e;cases e
   |some x=>
    rw[q]at e
    cases e
    obtain⟨v,ev,rv⟩:=r.get q
    refine⟨v,?_,rv⟩
    unfold L2.start
    rw[List.getElem?_append_left (by rw[List.length_map];omega),List.getElem?_map,ev]
    rfl
 · rw[List.getElem?_append_right (by simpa using hi),List.getElem?_replicate]at e
   split at e<;>cases e
theorem Lr{P:Program}{w:World}{K:PySem.W.Frag}{mg:Str→Option Value}{base:Heap}{x qual:Str}{st:Stmt}{f:Addr}{fd:FuncData}{N ps:List Str}{k:Nat}{sp:bW}{t:DS}(F:m_ K x qual st f fd)(S:aN N ps (ai st))
 (hbody:∀(cdv:Value) (A:Around) (outer:List Env) (s:Shared) (H:Hp) (E:XK),cJ k (A.deeper (envOfC qual (ai st) s.heap.objs.size f cdv))→gj (pk cf P w K mg base N qual (ai st) f cdv A outer s H E).uJ (gf st) (LS t))
 (hsp:∀ds st K,sp ds st K→ds.length=ps.length∧t {nx:=fun _ st'=>K .aE st',rt:=K} (aR N ds) st):a8 P w K mg base cf (k+1) f fd ps (cn sp):=by
 refine F.ok S (fun vs H Q E h=>?_) fun cdv A outer s H vs Q E hr h=>⟨_,hbody cdv A outer s H E hr,?_⟩
 · obtain⟨α,ds,st,K,G,F,P,r,S,q,k⟩:=h
   rw[←r.length]
   exact(hsp ds st K q).1
 · obtain⟨α,ds,st,K,G,F,P,r,S,q,k⟩:=h
   refine⟨α,aR N ds,st,_,G,F,P,dN.start r,S,(hsp ds st K q).2,?_,k,?_,?_⟩
   · intro σd' st' kk α' G' H' σ' s' P' R' S'
     exact k .aE st' kk α' G' H' .aE s' P' S' (by unfold Rep;rfl)
   · intro σd' st' kk
     exact kk.elim
   · intro σd' st' kk
     exact kk.elim
noncomputable def o6(to te:DE):DE:=fun σ st K=>to σ st fun x st1=>match x with
 | .ref n=>(match st1[n]? with
   |some (.lst _)=>te σ st1 fun y st2=>∃y',[y]=[y']∧(match st2[n]? with|some (.lst xs)=>xs.length<sizeLine∧K .aE (st2.set n (.lst (xs++[y'])))|_=>False)
   |_=>False)
 |_=>False
end
end L3
namespace L3
open PySem PySem.Spec L2
open PyProof.Rows hiding St
structure bg(K:PySem.W.Frag)(mg:Str→Option Value)(x qual:Str)(st:Stmt)(ps:List Str)(f:Addr)(fd:FuncData):Prop where
 fn:m_ K x qual st f fd
 mg:mg x=some (.ref f)
 bd:Binds K fd ps []
noncomputable def CO(sc:Scope)(N:List Str)(scope:Scope)(Nc:List Str)(fr:List (Option Nat)):Bool:=
 (scope.kind== .function)&&scope.names.all (fun x=>x.2 != .cell||scope.names.lookup x.1==some .cell)&&scope.names.all (fun x=>x.2 != .local||scope.names.lookup x.1==some .local)&&
 scope.names.all (fun x=>x.2 != .free||sc.names.lookup x.1==some .cell||sc.names.lookup x.1==some .free)&&(fr.length==Nc.length)&&
 (List.range fr.length).all fun i=>match fr[i]?,Nc[i]? with
   |some (some j),some x=>(N[j]?==some x)&&(scope.names.lookup x==some .free)&&(sc.names.lookup x==some .cell||sc.names.lookup x==some .free)
   |_,_=>true
theorem bN.look{X:Cx}{scope:Scope}{Nc:List Str}{fr:List (Option Nat)}(sc:Scope)(N:List Str)(h:CO sc N scope Nc fr=true)(hsc:X.env.scope=sc:=by rfl)(hN:X.N=N:=by rfl):bN X scope Nc fr:=by
 unfold CO at h
 simp only[Bool.and_eq_true]at h
 obtain⟨⟨⟨⟨⟨h1,h2⟩,h3⟩,h4⟩,h5⟩,h6⟩:=h
 subst hsc hN
 refine⟨by simpa using h1,fun x hx hk=>?_,fun x hx hk=>?_,fun x hx hk=>?_,by simpa using h5,fun i j x e1 e2=>?_⟩
 · have:=List.all_eq_true.mp h2 x hx
   rw[hk]at this
   simpa using this
 · have:=List.all_eq_true.mp h3 x hx
   rw[hk]at this
   simpa using this
 · have:=List.all_eq_true.mp h4 x hx
   rw[hk]at this
   have z:X.env.scope.names.lookup x.1=some .cell∨X.env.scope.names.lookup x.1=some .free:=by simpa using this
   exact z
 · have hi:i<fr.length:=(List.getElem?_eq_some_iff.mp e2).1
   have:=List.all_eq_true.mp h6 i (List.mem_range.mpr hi)
   rw[e1,e2]at this
   simp only[Bool.and_eq_true,Bool.or_eq_true,beq_iff_eq]at this
   exact⟨this.1.1,this.1.2,this.2⟩
section
variable {X:Cx}
theorem NS{e:Expr}{es:List Expr}{pos p:Pos}{x:Str}{id:String}{r:fZ}{t:DA}(hc:cx X (.builtin id) (iu r))(ha:PA X (e::es) (LA t))(hm:X.mg x=none)(hv:bootBuiltins x=some (.builtin id))(hg:Gl X x:=by rfl)(hn:x≠"__name__":=by decide)(hdb:(x==("__debug__":Str))=false:=by decide)
 (he:starEach (e::es) X.env=(false,eval e X.env)::starEach es X.env:=by rfl) (hpl:(backTo pos (starEach es X.env)).any (·.1)=false:=by rfl):PE X (.Call (.Name x p) (e::es) [] pos) (LE (cq r t)):=PE.imp (EO hc hg hm hv ha hn hdb he hpl) fun _ _ _ h=>LE.cb h
theorem NU{e:Expr}{es:List Expr}{pos p:Pos}{x:Str}{T:String}{r:fZ}{t:DA}(hc:cx X (.type T) (iu r))(ha:PA X (e::es) (LA t))(hm:X.mg x=none)(hv:bootBuiltins x=some (.type T))(hg:Gl X x:=by rfl)(hn:x≠"__name__":=by decide)(hdb:(x==("__debug__":Str))=false:=by decide)
 (he:starEach (e::es) X.env=(false,eval e X.env)::starEach es X.env:=by rfl) (hpl:(backTo pos (starEach es X.env)).any (·.1)=false:=by rfl):PE X (.Call (.Name x p) (e::es) [] pos) (LE (cq r t)):=PE.imp (DF hc hg hm hv ha hn hdb he hpl) fun _ _ _ h=>LE.cb h
theorem Nz{pos:Pos}{x:Str}{T:String}(hm:X.mg x=none)(hv:bootBuiltins x=some (.type T))(hg:Gl X x:=by rfl)(hn:x≠"__name__":=by decide)(hdb:(x==("__debug__":Str))=false:=by decide):PE X (.Name x pos) (LE (dC (.ty T))):=
 oS (v:= .ty T) (GN hg hm hv rfl hn hdb) fun _ _=>by unfold Rep;rfl
theorem Nv{e:Expr}{es:List Expr}{pos p:Pos}{x qual:Str}{st:Stmt}{ps:List Str}{f:Addr}{fd:FuncData}{k:Nat}{S:bW}{t:DA}(A:bg X.K X.mg x qual st ps f fd)(F:a8 X.prog X.w X.K X.mg X.base cf k f fd ps (cn S))(hr:cJ k X.A)
 (ha:PA X (e::es) (LA t)) (hg:Gl X x:=by rfl) (hdb:(x==("__debug__":Str))=false:=by decide) (he:starEach (e::es) X.env=(false,eval e X.env)::starEach es X.env:=by rfl) (hpl:(backTo pos (starEach es X.env)).any (·.1)=false:=by rfl):
 PE X (.Call (.Name x p) (e::es) [] pos) (LE (aC S t)):=JD F hr hg A.mg A.fn.kp A.bd ha hdb he hpl
noncomputable def Ji(d:D)(b:Bool):Bool:=match d with| .bl c=>c==b|_=>false
noncomputable def MU(d:D):Bool:=match d with| .aE=>true|_=>false
theorem Ih{α:List (Option Addr)}{H:Hp}{st:ag}{d:D}{v:V}{u:Value}{b:Bool}(S:aS α st H)(hl:live st d=true)(r:Rep α H d v)(ru:RelV v u):(u==Value.bool b)=Ji d b:=by
 cases d
 case ref n=>
  obtain⟨a,rfl⟩:=yo S hl r
  cases ru;rfl
 all_goals unfold Rep at r
 case bl c=>
  subst r
  cases ru
  cases c<;>cases b<;>rfl
 all_goals first
  |(subst r;first|(cases ru;rfl)|(obtain⟨t,rfl⟩:=ru;rfl))
  |(obtain⟨a,vs,rfl,_⟩:=r;cases ru;rfl)
theorem LE.append{to te:DE}{σ:L2.St}{H:Hp}{Q:VK}(h:LE (o6 to te) σ H Q):M7 X.K "list" Ah (LE to) (LA (af te ao)) σ H Q:=by
 obtain⟨α,σd,st,K,G,F,P,R,S,t,k⟩:=h
 refine⟨α,σd,st,_,G,F,P,R,S,t,fun x st1 q α1 G1 H1 v s1 P1 S1 r1=>?_⟩
 cases x<;>try exact q.elim
 rename_i n
 simp only at q
 split at q
 · rename_i ys e
   obtain⟨p,ep,vs,h1,h2⟩:=S1.ja e
   have r1':=dU ep r1
   subst r1'
   refine⟨.inl ⟨rfl,vs,.inl (.of (P1.get h1))⟩,α1,σd,st1,fun ds st2=>∃y,ds=[y]∧(match st2[n]? with|some (.lst xs)=>xs.length<sizeLine∧K .aE (st2.set n (.lst (xs++[y])))|_=>False),G1,F,P1,R.step s1,S1,?_,?_⟩
   · refine Eq.mp ?_ q
     rfl
   · rintro ds st2 ⟨y,rfl,q2⟩ α2 G2 H2 ws s2 P2 S2 r2
     obtain⟨w,rfl,rw'⟩:=i8 r2 rfl
     split at q2
     · rename_i xs e2
       obtain⟨p2,ep2,us,g1,g2⟩:=S2.ja e2
       have:p2=p:=by
        rcases s2.pre _ _ ep with z|z<;>(rw[z]at ep2;cases ep2)
        rfl
       subst this
       have hm:some p2∈α2:=List.mem_of_getElem? ep2
       refine⟨p2,us,w,rfl,rfl,P2.get g1,by rw[←g2.length];exact q2.1,?_⟩
       refine((k.at s1).at s2) _ _ q2.2 α2 (upd G2 p2 (.lst (us++[w]))) _ .aE (Step.write hm) (P2.write g1) ?_ (by unfold Rep;rfl)
       exact S2.write ep2 ⟨us++[w],a5,(bc.mpr (fw (bc.mp g2) (.cons rw' .nil))).step (Step.write hm)⟩
     · exact q2.elim
 · exact q.elim
theorem Fb{o e:Expr}{to te:DE}{apos cpos:Pos}(ho:PE X o (LE to))(he:PE X e (LE te))(hbase:attributeBase o "append" X.env (eval o X.env)=eval o X.env:=by rfl)
 (hfew:((backTo cpos (starEach [e] X.env)).all (fun x=> !x.1)&&(backToKw cpos (keywordEach [] X.env)).all (fun x=>x.1.isSome)
   &&decide (([e]:List Expr).length+([]:List Keyword).length+(if([]:List Keyword).isEmpty then 0 else 1)<30))=true:=by rfl)
 (hline:(apos.endLine==cpos.line)=true:=by rfl) (hs:starEach [e] X.env=(false,eval e X.env)::starEach [] X.env:=by rfl) (hplain:(backTo cpos (starEach [] X.env)).any (·.1)=false:=by rfl):PE X (.Call (.Attribute o "append" apos) [e] [] cpos) (LE (o6 to te)):=
 PE.imp (L5 PySem.F.plainAttrs_list PySem.F.slot_list_append PySem.F.type_list_append wW ho (vP he yV hs) hbase hfew hline hs hplain) fun _ _ _ h=>LE.append h
end
end L3
namespace L3
open PySem L2
open PySem.Spec hiding items?
open PyProof.Rows hiding St
section
variable {X:Cx}
@[irreducible] noncomputable def cN:dw:=FR
theorem dz:bX X (binaryOp .Add) (LR cN):=by unfold cN;exact MM
@[irreducible] noncomputable def lS:dw:=Gu
theorem nZ:bX X (binaryOp .Sub) (LR lS):=by unfold lS;exact LV
@[irreducible] noncomputable def cF:dw:=Gj
theorem cY:bX X (binaryOp .Mult) (LR cF):=by unfold cF;exact Mn
@[irreducible] noncomputable def oa:dw:=Dj
theorem yk:bX X (binaryOp .FloorDiv) (LR oa):=by unfold oa;exact J8
@[irreducible] noncomputable def g6:dw:=Gm
theorem mB:bX X (binaryOp .Mod) (LR g6):=by unfold g6;exact LP
@[irreducible] noncomputable def rj:dw:=Gq
theorem xB:bX X (binaryOp .Pow) (LR rj):=by unfold rj;exact ME
@[irreducible] noncomputable def p_:dw:=Jx
theorem yj:bX X (compareOp .Lt) (LR p_):=by unfold p_;exact NA
@[irreducible] noncomputable def oX:dw:=K8
theorem vf:bX X (compareOp .Gt) (LR oX):=by unfold oX;exact NZ
@[irreducible] noncomputable def nE:dw:=Jd
theorem zw:bX X (compareOp .NotEq) (LR nE):=by unfold nE;exact NQ
@[irreducible] noncomputable def gg:dw:=KQ
theorem gy{k:Nat}(hr:cJ k X.A):bX X (compareOp .Eq) (LR gg):=by unfold gg;exact NG hr
@[irreducible] noncomputable def iU:xQ:=F0
theorem L7:AL X (unaryOp .USub) (FY iU):=by unfold iU;exact ML
@[irreducible] noncomputable def aY:dw:=pS
theorem NF{a b:Expr}{ta tb:DE}{pos:Pos}(ha:PE X a (LE ta))(hb:PE X b (LE tb))(hs:rM b:=by intro _ _;rfl):PE X (.Subscript a b pos) (LE (av aY ta tb)):=by unfold aY;exact NV ha hb hs
@[irreducible] noncomputable def eC:fZ:=xk
theorem d6:cx X (.builtin "len") (iu eC):=by unfold eC;exact MI
@[irreducible] noncomputable def pF:fZ:=Bd
theorem ur:cx X (.builtin "abs") (iu pF):=by unfold pF;exact MG
@[irreducible] noncomputable def dD:fZ:=rE
theorem dY:cx X (.type "tuple") (iu dD):=by unfold dD;exact GL
@[irreducible] noncomputable def mq:fZ:=uQ
theorem rD:cx X (.type "list") (iu mq):=by unfold mq;exact J_
@[irreducible] noncomputable def rp:fZ:=sq
theorem HJ:cx X (.type "list") (iu rp):=by unfold rp;exact HL
@[irreducible] noncomputable def uc:fZ:=xv
theorem BU(hc:X.calm=true):cx X (.builtin "all") (iu uc):=by unfold uc;exact LX hc
@[irreducible] noncomputable def pe:fZ:=u5
theorem BC:cx X (.builtin "isinstance") (iu pe):=by unfold pe;exact LJ
@[irreducible] noncomputable def qJ:D→ag→(List D→(ag→Prop)→ag→Prop)→Prop:=zD
noncomputable def eZ(t:DE):DI:=fun σ st K=>t σ st fun d st1=>qJ d st1 K
theorem K2{l tg:Expr}{tl:DE}(hl:PE X l (LE tl)):PI X tg l (LI (eZ tl)):=by unfold eZ qJ;exact Kp hl
@[irreducible] noncomputable def xp:List D→ag→(List D→(ag→Prop)→ag→Prop)→Prop:=F8
@[irreducible] noncomputable def xo:List D→ag→(List D→(ag→Prop)→ag→Prop)→Prop:=Gs
noncomputable def fV(t:DA):DI:=fun σ st K=>t σ st fun ds st1=>xp ds st1 K
noncomputable def si(t:DA):DI:=fun σ st K=>t σ st fun ds st1=>xo ds st1 K
theorem CW{tg iter:Expr}{t:DA}(h:PI X tg iter (AW (LA t))):PI X tg iter (LI (fV t)):=by unfold fV xp;exact CH h
theorem CV{tg iter:Expr}{t:DA}(h:PI X tg iter (A4 (LA t))):PI X tg iter (LI (si t)):=by unfold si xo;exact Dk h
@[irreducible] noncomputable def yg:D→D→D→ag→(ag→Prop)→Prop:=AZ
noncomputable def eA(to ti te:DE):DS:=fun D σ st=>te σ st fun d st1=>to σ st1 fun x st2=>ti σ st2 fun y st3=>yg x y d st3 fun st4=>D.nx σ st4
theorem Fx{st:Stmt}{to ti te:DE}(h:PS X st (ox (LE te) (Bi (LE to) (LE ti) xw))):PS X st (LS (eA to ti te)):=by unfold eA yg;exact EW h
end
section
variable {st:ag}{K:DK}{i j:Int}{b c:Bool}{xs ys:List D}{d e:D}{n:Nat}
theorem dH(k:K (.int (i+j)) st):cN (.int i) (.int j) st K:=by unfold cN;exact k
theorem AI(h:xs.length+ys.length≤sizeLine)(k:K (.tup (xs++ys)) st):cN (.tup xs) (.tup ys) st K:=by unfold cN;exact⟨h,k⟩
theorem AA(h:xs.length+ys.length≤sizeLine)(k:K (.lst (xs++ys)) st):cN (.lst xs) (.lst ys) st K:=by unfold cN;exact⟨h,k⟩
theorem lB(k:K (.int (i-j)) st):lS (.int i) (.int j) st K:=by unfold lS;exact⟨trivial,k⟩
theorem dE(h:IntMulOk i j)(k:K (.int (i*j)) st):cF (.int i) (.int j) st K:=by unfold cF;exact⟨h,k⟩
theorem vp(h: -(2^63)≤i∧i<2^63∧xs.length*i.toNat≤sizeLine)(k:K (.lst (List.replicate i.toNat xs).flatten) st):cF (.lst xs) (.int i) st K:=by unfold cF;exact⟨h,k⟩
theorem vV(h: -(2^63)≤i∧i<2^63∧xs.length*i.toNat≤sizeLine)(k:K (.tup (List.replicate i.toNat xs).flatten) st):cF (.tup xs) (.int i) st K:=by unfold cF;exact⟨h,k⟩
theorem vx(h0:j≠0)(h:j.natAbs.log2<9000)(k:K (.int (i.fdiv j)) st):oa (.int i) (.int j) st K:=by unfold oa;exact⟨⟨h0,h⟩,k⟩
theorem lg(h0:j≠0)(k:K (.int (i.fmod j)) st):g6 (.int i) (.int j) st K:=by unfold g6;exact⟨h0,k⟩
theorem Ld(h:E5 i j)(k:K (.int (i^j.toNat)) st):rj (.int i) (.int j) st K:=by unfold rj;exact⟨h,k⟩
theorem BX(k:K (.bl (decide (i<j))) st):p_ (.int i) (.int j) st K:=by unfold p_;exact⟨trivial,k⟩
theorem rT(k:K (.bl (decide (j<i))) st):oX (.int i) (.int j) st K:=by unfold oX;exact⟨trivial,k⟩
theorem Gg(k:K (.bl (!decide (i=j))) st):nE (.int i) (.int j) st K:=by unfold nE;exact k
theorem CC(k:K (.bl (!decide (b=c))) st):nE (.bl b) (.bl c) st K:=by unfold nE;exact k
theorem nS(h1:pl 40 d=true)(h2:pl 40 e=true)(k:K (.bl (cz d e)) st):gg d e st K:=by unfold gg;exact⟨h1,h2,k⟩
theorem Il(a b:Int):(a==b)=decide (a=b):=by
 by_cases h:a=b
 · subst h;simp
 · simp[h]
theorem yx(k:K (.bl (decide (i=j))) st):gg (.int i) (.int j) st K:=by
 refine nS rfl rfl ?_
 have:cz (.int i) (.int j)=decide (i=j):=by unfold cz;exact Il i j
 rw[this];exact k
theorem iY(k:K (.int (-i)) st):iU (.int i) st K:=by unfold iU;exact k
theorem EK(h:items? st d=some xs)(a:eB xs i=some e)(k:K e st):pS d (.int i) st K:=by
 cases d<;>unfold items? at h<;>first
  |(cases h;done)
  |(cases h;simp only[pS,a];exact k)
  |(simp only at h
    split at h
    · rename_i q
      cases h
      simp only[pS,q,a]
      exact k
    · cases h)
theorem aB(h:items? st d=some xs)(a:eB xs i=some e)(k:K e st):aY d (.int i) st K:=by unfold aY;exact EK h a k
theorem df(h:items? st d=some xs)(k:K (.int xs.length) st):eC [d] st K:=by
 unfold eC xk
 split
 · rename_i z;cases z;cases h
 · rename_i z;cases z;rw[h];exact k
 · rename_i z1 z2;exact absurd rfl (z2 d)
theorem HF(i:Int):(if i<0 then-i else i)=((i.natAbs:Nat):Int):=by split<;>omega
theorem qZ(k:K (.int ((i.natAbs:Nat):Int)) st):pF [.int i] st K:=by unfold pF;show K (.int (if i<0 then-i else i)) st;rw[HF];exact k
theorem di(h:items? st d=some xs)(k:K (.tup xs) st):dD [d] st K:=by unfold dD rE;simp only[h];exact k
theorem oM(h:items? st d=some xs)(k:K (.lst xs) st):mq [d] st K:=by unfold mq uQ;simp only[h];exact k
theorem Ft(h:items? st d=some xs)(k:K (.ref st.length) (st++[.lst xs])):rp [d] st K:=by unfold rp sq;simp only[h];exact k
theorem zi{bs:List Bool}(h:fy xs=some bs)(k:K (.bl (bs.all id)) st):uc [.lst xs] st K:=by unfold uc xv;simp only[h];exact k
theorem zj{t c:String}(h:e7 st d=some t)(hc:c∈kh)(k:K (.bl (qp t c)) st):pe [d,.ty c] st K:=by unfold pe u5;simp only[h];exact⟨hc,k⟩
theorem GI{t:String}{cs:List D}{cl:List String}(h:e7 st d=some t)(h2:mS cs=some cl)(hc:∀c∈cl,c∈kh)(k:K (.bl (cl.any (qp t))) st):pe [d,.tup cs] st K:=by unfold pe u5;simp only[h,h2];exact⟨hc,k⟩
theorem qF{K:List D→(ag→Prop)→ag→Prop}(h:items? st d=some xs)(k:∀ok:ag→Prop,ok st→K xs ok st):qJ d st K:=by
 unfold qJ zD
 cases d<;>unfold items? at h<;>first
  |(cases h;done)
  |(cases h;exact k _ trivial)
  |(simp only at h
    split at h
    · rename_i q
      cases h
      simp only[q]
      exact k _ q
    · cases h)
theorem AS{K:List D→(ag→Prop)→ag→Prop}(k:K xs (fun _=>True) st):qJ (.lst xs) st K:=by unfold qJ;exact k
theorem jx{K:List D→(ag→Prop)→ag→Prop}(k:K xs (fun _=>True) st):qJ (.tup xs) st K:=by unfold qJ;exact k
theorem ju{K:List D→(ag→Prop)→ag→Prop}(h: -(2^62)≤j∧j<2^62)(k:K (dS 0 j.toNat) (fun _=>True) st):xp [.int j] st K:=by unfold xp;exact⟨h,k⟩
theorem Ik{K:List D→(ag→Prop)→ag→Prop}(h: -(2^62)≤i∧i<2^62∧ -(2^62)≤j∧j<2^62)(k:K (dS i (j-i).toNat) (fun _=>True) st):xo [.int i,.int j] st K:=by unfold xo;exact⟨h,k⟩
theorem ik{K:ag→Prop}{m:Nat}(h:st[n]?=some (.lst xs))(e:j9 xs.length i=some m)(k:K (st.set n (.lst (xs.set m d)))):yg (.ref n) (.int i) d st K:=by unfold yg AZ;simp only[h,e];exact k
end
end L3
namespace L3
open PySem L2
open PySem.Spec hiding items?
open PyProof.Rows hiding St
noncomputable def Ea(K:PySem.W.Frag):Bool:=K.all fun p=>p.2.cls != .type "list"
theorem sT{a:Addr}{o:Obj}:∀ {l:List (Addr×Obj)},l.lookup a=some o→(a,o)∈l
 | [],h=>by cases h
 |(b,u)::r,h=>by
  rw[List.lookup_cons]at h
  split at h
  · rename_i z
    cases h
    have:a=b:=by simpa using z
    subst this
    exact List.mem_cons_self
  · exact List.mem_cons_of_mem _ (sT h)
theorem xi{K:PySem.W.Frag}(h:Ea K=true){a:Addr}{o:Obj}(e:K.lookup a=some o):o.cls≠ .type "list":=by
 have:=List.all_eq_true.mp h (a,o) (sT e)
 simpa using this
theorem wk{α:List (Option Addr)}{G:Hp}:∀ns:List Int,aK α G (ns.map D.int) (ns.map V.int)
 | []=>by unfold aK;rfl
 |n::ns=>by
  rw[List.map_cons,List.map_cons]
  unfold aK
  exact⟨_,_,rfl,by unfold Rep;rfl,wk ns⟩
end L3
namespace L3
open PySem L2
open PySem.Spec hiding items?
open PyProof.Rows hiding St
noncomputable def notStar:Expr→Bool
 | .Starred .. =>false
 |_=>true
theorem cD{e:Expr}{es:List Expr}{env:Env}(h:notStar e=true):starEach (e::es) env=(false,eval e env)::starEach es env:=by
 cases e<;>first|rfl|cases h
noncomputable def fx:List Expr→Bool
 | []=>true
 |e::es=>notStar e&&fx es
theorem jo{pos:Pos}{env:Env}:∀ {es:List Expr},fx es=true→(backTo pos (starEach es env)).any (·.1)=false
 | [],_=>rfl
 |e::es,h=>by
  unfold fx at h
  rw[Bool.and_eq_true]at h
  rw[cD h.1]
  have ih:=jo (pos:=pos) (env:=env) h.2
  unfold backTo at ih⊢
  rw[List.map_cons,List.any_cons,ih]
  rfl
noncomputable def nu:Expr→Bool
 | .Slice .. =>false
 |_=>true
noncomputable def ql:Expr→Bool
 | .Name .. =>true
 | .Call .. =>true
 | .Subscript .. =>true
 | .Attribute .. =>true
 |_=>false
noncomputable def kG:Expr→Bool
 | .ListComp .. =>false
 | .SetComp .. =>false
 | .DictComp .. =>false
 |_=>true
section
variable {X:Cx}
theorem Eu{b:Expr}(h:nu b=true):rM b:=by
 intro o i
 cases b<;>first|rfl|cases h
theorem BG{e:Expr}(h:ql e=true):∀whole,isTrue e X.env whole=(do let v ←whole;standAt e.pos;holding [v] (truthy v)):=by
 intro whole
 cases e<;>first|(cases h;done)|rfl
theorem vm{e:Expr}{tg:Option Expr}{n:Nat}{env:Env}(h:kG e=true):swapsWith e tg n env=pure false:=by
 cases e<;>first|(cases h;done)|rfl
theorem Fi{e:Expr}{es:List Expr}{te:DE}{tr:DA}(ha:PE X e (LE te))(hr:PA X es (LA tr))(hs:notStar e=true:=by rfl):PA X (e::es) (LA (af te tr)):=vP ha hr (cD hs)
theorem LF{e:Expr}{es:List Expr}{pos p:Pos}{x:Str}{id:String}{r:fZ}{t:DA}(hc:cx X (.builtin id) (iu r))(ha:PA X (e::es) (LA t))(hm:X.mg x=none)(hv:bootBuiltins x=some (.builtin id))(hn:x≠"__name__")(hdb:(x==("__debug__":Str))=false)(hg:Gl X x:=by rfl)(hs:notStar e=true:=by rfl)(hs2:fx es=true:=by rfl):
 PE X (.Call (.Name x p) (e::es) [] pos) (LE (cq r t)):=NS hc ha hm hv hg hn hdb (cD hs) (jo hs2)
theorem Mz{e:Expr}{es:List Expr}{pos p:Pos}{x:Str}{T:String}{r:fZ}{t:DA}(hc:cx X (.type T) (iu r))(ha:PA X (e::es) (LA t))(hm:X.mg x=none)(hv:bootBuiltins x=some (.type T))(hn:x≠"__name__")(hdb:(x==("__debug__":Str))=false)(hg:Gl X x:=by rfl)(hs:notStar e=true:=by rfl)(hs2:fx es=true:=by rfl):
 PE X (.Call (.Name x p) (e::es) [] pos) (LE (cq r t)):=NU hc ha hm hv hg hn hdb (cD hs) (jo hs2)
theorem Ll{e:Expr}{es:List Expr}{pos p:Pos}{x qual:Str}{st:Stmt}{ps:List Str}{f:Addr}{fd:FuncData}{k:Nat}{S:bW}{t:DA}(A:bg X.K X.mg x qual st ps f fd)(F:a8 X.prog X.w X.K X.mg X.base cf k f fd ps (cn S))(hr:cJ k X.A)
 (ha:PA X (e::es) (LA t)) (hdb:(x==("__debug__":Str))=false) (hg:Gl X x:=by rfl) (hs:notStar e=true:=by rfl) (hs2:fx es=true:=by rfl):
 PE X (.Call (.Name x p) (e::es) [] pos) (LE (aC S t)):=Nv A F hr ha hg hdb (cD hs) (jo hs2)
theorem MD{a b:Expr}{ta tb:DE}{pos:Pos}(ha:PE X a (LE ta))(hb:PE X b (LE tb))(hs:nu b=true:=by rfl):PE X (.Subscript a b pos) (LE (av aY ta tb)):=NF ha hb (Eu hs)
theorem HG{e:Expr}{te:DE}(he:PE X e (LE te))(h:ql e=true:=by rfl):PT X e (LT (bS te)):=IW he (BG h)
theorem E2{e:Expr}{te:DE}{pos:Pos}(he:PE X e (LE te))(h:kG e=true:=by rfl):PS X (.Expr e pos) (LS (k6 te)):=Hg he (vm h)
theorem Hn{i:Nat}{x:Str}{e:Expr}{te:TE}{pos pos':Pos}(hN:X.N.Nodup)(hi:X.N[i]?=some x)(hx:Loc X.env.scope x)(he:PE X e te)(hf:X.fn x=true∨X.env.scope.names.lookup x=some .local:=by first|exact .inl rfl|exact .inr rfl)(h:kG e=true:=by rfl):
 PS X (.Assign [.Name x pos'] e pos) (ox te (mv i)):=K_ hN hi hx he (vm h) hf
theorem G0{i:Nat}{x:Str}{pos:Pos}(hd:(x==("__debug__":Str))=false)(hcd:(x==("__classdict__":Str))=false)(hv:xG X.env.scope x)(hN:X.N[i]?=some x:=by rfl):PE X (.Name x pos) (LE (ae i)):=MC (Jq hN hv hd hcd)
theorem I_{o i e:Expr}{to ti te:TE}{pos pos':Pos}(he:PE X e te)(ho:PE X o to)(hi:PE X i ti)(h1:kG e=true:=by rfl)(h2:nu i=true:=by rfl):PS X (.Assign [.Subscript o i pos'] e pos) (ox te (Bi to ti xw)):=
 CJ he (Ke ho hi set_list (by intro v;cases i<;>first|rfl|cases h2)) (by unfold swapsWithSole;exact vm h1) (by cases e<;>rfl) rfl
end
end L3
namespace L3
open PySem L2
open PySem.Spec hiding items?
open PyProof.Rows hiding St
@[irreducible] noncomputable def JE(X:Cx)(e:Expr)(t:DE):Prop:=PE X e (LE t)
@[irreducible] noncomputable def JT(X:Cx)(e:Expr)(t:DT):Prop:=PT X e (LT t)
@[irreducible] noncomputable def JW(X:Cx)(e:Expr)(t:DT):Prop:=PW X e (LT t)
@[irreducible] noncomputable def JA(X:Cx)(es:List Expr)(t:DA):Prop:=PA X es (LA t)
@[irreducible] noncomputable def JS(X:Cx)(s:Stmt)(t:DS):Prop:=PS X s (LS t)
@[irreducible] noncomputable def JB(X:Cx)(s:List Stmt)(t:DS):Prop:=gj X s (LS t)
@[irreducible] noncomputable def JG(X:Cx)(e:Expr)(t:fk):Prop:=PG X e (LG t)
@[irreducible] noncomputable def JI(X:Cx)(tg e:Expr)(t:DI):Prop:=PI X tg e (LI t)
@[irreducible] noncomputable def JC(X:Cx)(es:List Expr)(t:DT):Prop:=qM X es (LT t)
section
variable {X:Cx}{a b c e o i:Expr}{es:List Expr}{ta tb tc te to ti:DE}{t u:DT}{ar:DA}{pos p pos':Pos}{s:Stmt}{ss:List Stmt}{T U:DS}
theorem DR{n:Nat}{x:Str}(hd:(x==("__debug__":Str))=false)(hcd:(x==("__classdict__":Str))=false)(hv:xG X.env.scope x)(hN:X.N[n]?=some x:=by rfl):JE X (.Name x pos) (ae n):=by unfold JE;exact G0 hd hcd hv hN
theorem BR{x:Str}{T:String}(hm:X.mg x=none)(hv:bootBuiltins x=some (.type T))(hn:x≠"__name__")(hdb:(x==("__debug__":Str))=false)(hg:Gl X x):JE X (.Name x pos) (dC (.ty T)):=by unfold JE;exact Nz hm hv hg hn hdb
theorem ak{k:Int}{j:Nat}:JE X (.Constant (.int k) j pos) (dC (.int k)):=by unfold JE;exact LZ
theorem tV{k:Bool}{j:Nat}:JE X (.Constant (.bool k) j pos) (dC (.bl k)):=by unfold JE;exact NI
theorem uK{k:Str}{j:Nat}:JE X (.Constant (.str k) j pos) (dC (.str k)):=by unfold JE;exact Mu
theorem Gn{j:Nat}:JE X (.Constant .none j pos) (dC .aE):=by unfold JE;exact LL
theorem aW{op:Operator}{r:dw}(ho:bX X (binaryOp op) (LR r))(ha:JE X a ta)(hb:JE X b tb):JE X (.BinOp a op b pos) (av r ta tb):=by unfold JE at*;exact Nl ho ha hb
theorem jY(ha:JE X a ta):JE X (.UnaryOp .USub a pos) (nM iU ta):=by unfold JE at*;exact NJ L7 ha
theorem Mc(ha:JE X a ta):JE X (.UnaryOp .Not a pos) (BH (bS ta)):=by unfold JE at*;exact L0 ha
theorem pM{op:BoolOp}(ha:JE X a ta):JE X (.BoolOp op [a] pos) ta:=by unfold JE at*;exact Mv ha
theorem n_(ha:JE X a ta)(hb:JE X (.BoolOp .And (b::es) pos) tb):JE X (.BoolOp .And (a::b::es) pos) (la ta tb):=by unfold JE at*;exact MK ha hb
theorem kW{op:CmpOp}{r:dw}(ho:bX X (compareOp op) (LR r))(hm:behindInMarks op b=false)(ha:JE X a ta)(hb:JE X b tb):JE X (.Compare a [op] [b] pos) (av r ta tb):=by unfold JE at*;exact L8 ho ha hb hm
theorem Lm(hc:JT X c t)(ha:JE X a ta)(hb:JE X b tb):JE X (.IfExp c a b pos) (Jz t ta tb):=by unfold JE at*;unfold JT at hc;exact LH hc ha hb
theorem iO{n:Nat}(h:JA X es ar):JE X (.Tuple es n pos) (jr ar):=by unfold JE;unfold JA at h;exact Lk h
theorem nI(h:JA X es ar):JE X (.List es pos) (oy ar):=by unfold JE;unfold JA at h;exact Mh h
theorem Bh(h:JA X es ar):JE X (.List es pos) (xI ar):=by unfold JE;unfold JA at h;exact LN h
theorem aj:JA X [] ao:=by unfold JA;exact yV
theorem aa(ha:JE X e te)(hr:JA X es ar)(hs:notStar e=true:=by rfl):JA X (e::es) (af te ar):=by unfold JA at*;unfold JE at ha;exact Fi ha hr hs
theorem aO(ha:JE X a ta)(hb:JE X b tb)(hs:nu b=true:=by rfl):JE X (.Subscript a b pos) (av aY ta tb):=by unfold JE at*;exact MD ha hb hs
theorem c8{x:Str}{id:String}{r:fZ}(hc:cx X (.builtin id) (iu r))(ha:JA X (e::es) ar)(hm:X.mg x=none)(hv:bootBuiltins x=some (.builtin id))(hn:x≠"__name__")(hdb:(x==("__debug__":Str))=false)(hg:Gl X x)(hs:notStar e=true:=by rfl)(hs2:fx es=true:=by rfl):JE X (.Call (.Name x p) (e::es) [] pos) (cq r ar):=by
 unfold JE;unfold JA at ha;exact LF hc ha hm hv hn hdb hg hs hs2
theorem fu{x:Str}{T:String}{r:fZ}(hc:cx X (.type T) (iu r))(ha:JA X (e::es) ar)(hm:X.mg x=none)(hv:bootBuiltins x=some (.type T))(hn:x≠"__name__")(hdb:(x==("__debug__":Str))=false)(hg:Gl X x)(hs:notStar e=true:=by rfl)(hs2:fx es=true:=by rfl):JE X (.Call (.Name x p) (e::es) [] pos) (cq r ar):=by
 unfold JE;unfold JA at ha;exact Mz hc ha hm hv hn hdb hg hs hs2
theorem aP{x qual:Str}{st:Stmt}{ps:List Str}{f:Addr}{fd:FuncData}{k:Nat}{S:bW}(A:bg X.K X.mg x qual st ps f fd)(F:a8 X.prog X.w X.K X.mg X.base cf k f fd ps (cn S))(hr:cJ k X.A)(ha:JA X (e::es) ar)(hdb:(x==("__debug__":Str))=false)(hg:Gl X x)(hs:notStar e=true:=by rfl)(hs2:fx es=true:=by rfl):
 JE X (.Call (.Name x p) (e::es) [] pos) (aC S ar):=by unfold JE;unfold JA at ha;exact Ll A F hr ha hdb hg hs hs2
theorem Fh{apos cpos:Pos}(ho:JE X o to)(he:JE X e te)(hbase:attributeBase o "append" X.env (eval o X.env)=eval o X.env:=by rfl)(hline:(apos.endLine==cpos.line)=true:=by rfl)(hs:notStar e=true:=by rfl):JE X (.Call (.Attribute o "append" apos) [e] [] cpos) (o6 to te):=by
 unfold JE at*
 refine Fb ho he hbase ?_ hline (cD hs) rfl
 rw[cD hs]
 rfl
theorem cE{op:CmpOp}{r:dw}(ho:bX X (compareOp op) (LR r))(hm:behindInMarks op b=false)(ha:JE X a ta)(hb:JE X b tb):JT X (.Compare a [op] [b] pos) (bS (av r ta tb)):=by unfold JE at*;unfold JT;exact J5 ho ha hb hm
theorem x5(ha:JT X a t):JT X (.UnaryOp .Not a pos) (u7 t):=by unfold JT at*;exact Lh ha
theorem oO(he:JE X e te)(h:ql e=true:=by rfl):JT X e (bS te):=by unfold JT;unfold JE at he;exact HG he h
theorem vG(ha:JT X a t):JW X (.BoolOp .And [a] pos) t:=by unfold JW;unfold JT at ha;exact G9 ha
theorem yn(ha:JT X a t):JW X (.BoolOp .Or [a] pos) t:=by unfold JW;unfold JT at ha;exact Ky ha
theorem zz(ha:JT X a t)(hb:JW X (.BoolOp .And (b::es) pos) u):JW X (.BoolOp .And (a::b::es) pos) (rQ t u):=by unfold JW at*;unfold JT at ha;exact Kk ha hb
theorem xF(ha:JT X a t)(hb:JW X (.BoolOp .Or (b::es) pos) u):JW X (.BoolOp .Or (a::b::es) pos) (tK t u):=by unfold JW at*;unfold JT at ha;exact LM ha hb
theorem rS(h:JW X e t):JT X e t:=by unfold JT;unfold JW at h;exact PW.pt h
theorem fS{l tg:Expr}(hl:JE X l ta):JI X tg l (eZ ta):=by unfold JI;unfold JE at hl;exact K2 hl
theorem iw{tg:Expr}(hg:Gl X "range")(hm:X.mg "range"=none)(ha:JA X [a] ar)(hs:notStar a=true:=by rfl):JI X tg (.Call (.Name "range" p) [a] [] pos) (fV ar):=by unfold JI;unfold JA at ha;exact CW (CI hg hm ha (cD hs))
theorem EF{tg:Expr}(hg:Gl X "range")(hm:X.mg "range"=none)(ha:JA X [a,b] ar)(hs:notStar a=true:=by rfl)(hs2:notStar b=true:=by rfl):JI X tg (.Call (.Name "range" p) [a,b] [] pos) (si ar):=by unfold JI;unfold JA at ha;exact CV (Cr hg hm ha (by rw[cD hs,cD hs2];rfl) (cD hs2))
theorem eF{k:Nat}{x:Str}(hN:X.N.Nodup)(hx:Loc X.env.scope x)(hf:X.fn x=true∨X.env.scope.names.lookup x=some .local)(hi:X.N[k]?=some x:=by rfl):JG X (.Name x pos) (cw k):=by unfold JG;exact HR (vL hN hi hx hf)
theorem pG{k j n:Nat}{x y:Str}{px py:Pos}(hc:X.calm=true)(hN:X.N.Nodup)(hx:Loc X.env.scope x)(hf:X.fn x=true∨X.env.scope.names.lookup x=some .local)(hy:Loc X.env.scope y)(hg:X.fn y=true∨X.env.scope.names.lookup y=some .local)(hi:X.N[k]?=some x:=by rfl)(hj:X.N[j]?=some y:=by rfl):
 JG X (.Tuple [.Name x px,.Name y py] n pos) (jd k j):=by unfold JG;exact Kn (JK hc (zg (vL hN hi hx hf) (zg (vL hN hj hy hg) GJ)))
theorem cW:JC X [] cG:=by unfold JC;exact Ec
theorem Jo(h:JT X c t):JC X [c] t:=by unfold JC;unfold JT at h;exact KL h
theorem gI{scope:Scope}{Nc:List Str}{elt tg iter:Expr}{ifs:List Expr}{src:DI}{fr:List (Option Nat)}{dtg:fk}(S:bN X scope Nc fr)(hi:JI X tg iter src)(hg:∀C s H ex,JG (ft X scope Nc C s H ex) tg dtg)(ht:∀C s H ex,JC (ft X scope Nc C s H ex) ifs t)(he:∀C s H ex,JE (ft X scope Nc C s H ex) elt te)(fit:sJ fr dtg)
 (hx:X.xe=fun _ _=>False:=by rfl) (hc:X.calm=true:=by rfl) (hs:∀x,foldedSetIterable iter X.env x=pure x:=by intro _;rfl):JE X (.ListComp elt [⟨tg,iter,ifs,0⟩] scope pos) (d7 src fr dtg t te):=by
 unfold JE JI JG JC at*;exact Kv S hi hg ht he fit hx hc hs
theorem vj{scope:Scope}{Nc:List Str}{elt tg iter:Expr}{ifs:List Expr}{src:DI}{fr:List (Option Nat)}{dtg:fk}(S:bN X scope Nc fr)(hi:JI X tg iter src)(hg:∀C s H ex,JG (ft X scope Nc C s H ex) tg dtg)(ht:∀C s H ex,JC (ft X scope Nc C s H ex) ifs t)(he:∀C s H ex,JE (ft X scope Nc C s H ex) elt te)(fit:sJ fr dtg)
 (hx:X.xe=fun _ _=>False:=by rfl) (hc:X.calm=true:=by rfl) (hs:∀x,foldedSetIterable iter X.env x=pure x:=by intro _;rfl):JE X (.ListComp elt [⟨tg,iter,ifs,0⟩] scope pos) (rl src fr dtg t te):=by
 unfold JE JI JG JC at*;exact Iq S hi hg ht he fit hx hc hs
theorem dg:JB X [] dM:=by unfold JB;exact Ig
theorem aA(h:JS X s T):JB X [s] T:=by unfold JB;unfold JS at h;exact Hf h
theorem aw(h:JS X s T)(h2:JB X ss U):JB X (s::ss) (aH T U):=by unfold JB at*;unfold JS at h;exact FF h h2
theorem aT(h:JE X e te):JS X (.Return (some e) pos) (bz te):=by unfold JS;unfold JE at h;exact JM h
theorem ku(h:JE X e te)(hc:kG e=true:=by rfl):JS X (.Expr e pos) (k6 te):=by unfold JS;unfold JE at h;exact E2 h hc
theorem dZ{x y:List Stmt}(hc:JT X c t)(ha:JB X x T)(hb:JB X y U):JS X (.If c x y pos) (eY t T U):=by unfold JS;unfold JB at*;unfold JT at hc;exact Lj hc ha hb
theorem zo{x:List Stmt}(hc:JT X c t)(hb:JB X x T)(hx:X.xe=fun _ _=>False:=by rfl):JS X (.While c x [] pos) (uW t T):=by unfold JS;unfold JB at hb;unfold JT at hc;exact EG (E_ (by rw[hx];exact PassesOwn.never) hc hb)
theorem ie{tg iter:Expr}{x:List Stmt}{src:DI}{dtg:fk}(hi:JI X tg iter src)(hg:JG X tg dtg)(hb:JB X x T)(hx:X.xe=fun _ _=>False:=by rfl)(hc:X.calm=true:=by rfl)(hs:∀x,foldedSetIterable iter X.env x=pure x:=by intro _;rfl):JS X (.For tg iter x [] pos) (jj src dtg T):=by
 unfold JS;unfold JI at hi;unfold JG at hg;unfold JB at hb;exact Je (Jk (by rw[hx];exact PassesOwn.never) hc hi hg hb hs)
theorem aU{k:Nat}{x:Str}(hN:X.N.Nodup)(hx:Loc X.env.scope x)(he:JE X e te)(hf:X.fn x=true∨X.env.scope.names.lookup x=some .local:=by first|exact .inl rfl|exact .inr rfl)(h:kG e=true:=by rfl)(hi:X.N[k]?=some x:=by rfl):JS X (.Assign [.Name x pos'] e pos) (a_ k te):=by
 unfold JS;unfold JE at he;exact Jl (Hn hN hi hx he hf h)
theorem mL{scope:Scope}{Nc:List Str}{elt tg iter:Expr}{ifs:List Expr}{src:DI}{fr:List (Option Nat)}{dtg:fk}{k:Nat}{x:Str}(hN:X.N.Nodup)(hl:Loc X.env.scope x)(S:bN X scope Nc fr)(hi:JI X tg iter src)(hg:∀C s H ex,JG (ft X scope Nc C s H ex) tg dtg)(ht:∀C s H ex,JC (ft X scope Nc C s H ex) ifs t)(he:∀C s H ex,JE (ft X scope Nc C s H ex) elt te)(fit:sJ fr dtg)
 (hf:X.fn x=true∨X.env.scope.names.lookup x=some .local:=by first|exact .inl rfl|exact .inr rfl) (hsw:swapsWith (.ListComp elt [⟨tg,iter,ifs,0⟩] scope p) (some (.Name x pos')) pos.line X.env=pure true:=by rfl) (hni:X.N[k]?=some x:=by rfl) (hx:X.xe=fun _ _=>False:=by rfl) (hc:X.calm=true:=by rfl) (hs:∀x,foldedSetIterable iter X.env x=pure x:=by intro _;rfl):
 JS X (.Assign [.Name x pos'] (.ListComp elt [⟨tg,iter,ifs,0⟩] scope p) pos) (a_ k (d7 src fr dtg t te)):=by
 unfold JS;unfold JE JI JG JC at*;exact GS fit (HP hx hc S hi hg ht he hN hni hl hf hsw hs)
theorem dR(he:JE X e te)(ho:JE X o to)(hi:JE X i ti)(h1:kG e=true:=by rfl)(h2:nu i=true:=by rfl):JS X (.Assign [.Subscript o i pos'] e pos) (eA to ti te):=by unfold JS;unfold JE at*;exact Fx (I_ he ho hi h1 h2)
theorem Lb{k:Nat}{x:Str}{op:Operator}{f:Int→Int→Int}(hN:X.N.Nodup)(hx:Loc X.env.scope x)(he:JE X e te)(ho:ID X op (Iz f))(hf:X.fn x=true∨X.env.scope.names.lookup x=some .local:=by first|exact .inl rfl|exact .inr rfl)(hi:X.N[k]?=some x:=by rfl):JS X (.AugAssign (.Name x pos') op e pos) (B9 k (xN f) te):=by
 unfold JS;unfold JE at he;exact JU (Jm hN hi hx he ho hf)
theorem Jp{tg:Expr}{dtg:fk}(he:JE X e te)(hg:JG X tg dtg)(hs:swapsWithSole [tg] e pos.line X.env=pure false:=by rfl)(hw:swappedStores [tg] e X.env=pure none:=by rfl)(h1:(assignEach [tg] X.env).map (·.2)=[assign tg X.env]:=by rfl):JS X (.Assign [tg] e pos) (EX dtg te):=by
 unfold JS;unfold JE at he;unfold JG at hg;exact IK (CJ he hg hs hw h1)
end
theorem bh{P:Program}{w:World}{K:PySem.W.Frag}{mg:Str→Option Value}{base:Heap}{x qual:Str}{st:Stmt}{f:Addr}{fd:FuncData}{N ps:List Str}{k:Nat}{sp:bW}{t:DS}(F:m_ K x qual st f fd)(S:aN N ps (ai st))
 (hbody:∀(cdv:Value) (A:Around) (outer:List Env) (s:Shared) (H:Hp) (E:XK),cJ k (A.deeper (envOfC qual (ai st) s.heap.objs.size f cdv))→JB (pk cf P w K mg base N qual (ai st) f cdv A outer s H E).uJ (gf st) t)
 (hsp:∀ds st K,sp ds st K→ds.length=ps.length∧t {nx:=fun _ st'=>K .aE st',rt:=K} (aR N ds) st):a8 P w K mg base cf (k+1) f fd ps (cn sp):=by
 unfold JB at hbody;exact Lr F S hbody hsp
end L3
namespace HT
open PySem PyProof.Rows
section
variable {prog:Program}{w:World}{A:Around}{E:Value→Shared→Prop}{s:Shared}
theorem qi{t sl:Addr}{items:Array Value}{vl vu:Value}{lo hi:Option Int}{Q:Value→Shared→Prop}(ht:IsTup s.heap t items)(hs:s.heap.IsSliceOf sl vl vu .none)(pl:IsPart vl lo)(pu:IsPart vu hi)
 (hw:bK items.size 0 lo=0∧bK items.size items.size hi=items.size) (h:Q (.ref t) s):wpAny (model prog w) A (getItem (.ref t) (.ref sl)) Q E s:=by
 obtain⟨os,hos,hcs,hds⟩:=id hs
 have hTs:s.TypeIs (.ref sl) "slice":=⟨os,hos,hcs⟩
 unfold getItem
 try with_reducible refine wpAny_holding ?_
 first|refine wpAny_bind (wpAny_pure ?_)|skip
 refine wpAny_bind (wpAny_sequenceKey ht.typeIs (by decide) ?_)
 refine wpAny_bind (wpAny_callSpecial?_slot (name:=Str.ofString "__getitem__") ht.typeIs PyProof.Rows.slot_tuple_getitem
  (wpAny_call_entry PyProof.Rows.slot_tuple_getitem ht.typeIs entry_tuple_getitem ?_ (args_tuple_getitem _ _)))
 show wpAny _ _ (Builtin.Tuple.tupleItemsOf (.ref t) >>= _) _ _ s
 refine wpAny_bind (tupleItemsOf_ ht ?_)
 refine wpAny_bind (wpAny_typeOf hTs ?_)
 rw[if_pos (by decide)]
 refine wpAny_bind (m7 hs pl pu ?_)
 have hyes:(((bK items.size 0 lo:Nat):Int)==0&&(1:Int)==1&&(bK items.size items.size hi-bK items.size 0 lo)==items.size)=true:=by
  rw[hw.1,hw.2]
  simp
 show wpAny _ _ (if(((bK items.size 0 lo:Nat):Int)==0&&(1:Int)==1&&(bK items.size items.size hi-bK items.size 0 lo)==items.size)=true then _ else _) _ _ s
 rw[if_pos hyes]
 refine wpAny_bind ?_
 unfold Builtin.Tuple.tupleIsExact
 exact wpAny_bind (wpAny_typeOf ht.typeIs (wpAny_pure (wpAny_bind (wpAny_rule (wpAny_pure ⟨_,rfl,wpAny_pure h⟩)))))
end
end HT
namespace L3
open PySem L2
open PySem.Spec hiding items?
open PyProof.Rows hiding St
noncomputable abbrev DO:=bV→ag→(Option Int→ag→Prop)→Prop
noncomputable def gX:DO:=fun _ st K=>K none st
noncomputable def kX(t:DE):DO:=fun σ st K=>t σ st fun d st1=>match d with| .int i=>K (some i) st1|_=>False
noncomputable def cutD(xs:List D)(lo hi:Option Int):List D:=(xs.drop (HT.bK xs.length 0 lo)).take (HT.bK xs.length xs.length hi-HT.bK xs.length 0 lo)
noncomputable def yH(d:D)(lo hi:Option Int)(st:ag)(K:DK):Prop:=match d with
 | .lst xs=>K (.lst (cutD xs lo hi)) st
 | .tup xs=>K (.tup (cutD xs lo hi)) st
 | .ref n=>(match st[n]? with|some (.lst xs)=>K (.lst (cutD xs lo hi)) st|_=>False)
 |_=>False
@[irreducible] noncomputable def jM:D→Option Int→Option Int→ag→DK→Prop:=yH
noncomputable def iW(t:DE)(lo hi:DO):DE:=fun σ st K=>t σ st fun d st1=>lo σ st1 fun l st2=>hi σ st2 fun u st3=>jM d l u st3 K
theorem tf{α:List (Option Addr)}{G:Hp}{xs:List D}{vs:List V}{lo hi:Option Int}(r:aK α G xs vs):aK α G (cutD xs lo hi) (pP vs lo hi):=by
 unfold cutD pP
 rw[←r.length]
 exact bc.mpr (sO _ (sM _ (bc.mp r)))
noncomputable def N6(α:List (Option Addr))(G F:Hp)(K:Option Int→ag→Prop)(Q:Option Int→Hp→Prop):Prop:=∀o st',K o st'→∀α' G' H',Step α G α' G'→bU G' F H'→aS α' st' G'→Q o H'
inductive M9(t:DO)(σ:L2.St)(H:Hp)(Q:Option Int→Hp→Prop):Prop
 |mk (α:List (Option Addr)) (σd:bV) (st:ag) (K:Option Int→ag→Prop) (G F:Hp) (P:bU G F H) (R:dN α G σd σ) (S:aS α st G) (h:t σd st K) (k:N6 α G F K Q):M9 t σ H Q
noncomputable def LO(t:DO):TO:=M9 t
section
variable {X:Cx}
theorem PO.imp{e:Option Expr}{t t':TO}(h:PO X e t)(f:∀σ H Q,t' σ H Q→t σ H Q):PO X e t':=fun pins s σ H Q I q=>h pins s σ H Q I (f σ H Q q)
theorem GK:PO X none (LO gX):=PO.imp Ia fun σ H Q ⟨α,σd,st,K,G,F,P,R,S,t,k⟩=>k none st t α G H Step.refl P S
theorem G_{e:Expr}{te:DE}(h:PE X e (LE te)):PO X (some e) (LO (kX te)):=PO.imp (HK h) fun σ H Q ⟨α,σd,st,K,G,F,P,R,S,t,k⟩=>by
 refine⟨α,σd,st,_,G,F,P,R,S,t,fun d st1 q α1 G1 H1 v s1 P1 S1 r1=>?_⟩
 cases d<;>try exact q.elim
 unfold Rep at r1
 exact⟨_,r1,k _ st1 q α1 G1 H1 s1 P1 S1⟩
noncomputable def Ou(x:V)(lo hi:Option Int)(H:Hp)(Q:VK):Prop:=∃α d st K G F,bU G F H∧Rep α G d x∧aS α st G∧jM d lo hi st K∧LK α G F K Q
theorem Hc:Ci X (fun x lo hi H Q=>∃a xs,x= .ref a∧H a=some (.tup xs)∧((HT.bK xs.length 0 lo=0∧HT.bK xs.length xs.length hi=xs.length)→Q (.ref a) H)∧(¬(HT.bK xs.length 0 lo=0∧HT.bK xs.length xs.length hi=xs.length)→∀p,H p=none→Q (.ref p) (upd H p (.tup (pP xs lo hi))))):=by
 intro pins s σ H x v vl vu lo hi sl Q I rx hs pl pu h
 obtain⟨a,xs,rfl,hx,q1,q2⟩:=h
 by_cases hw:HT.bK xs.length 0 lo=0∧HT.bK xs.length xs.length hi=xs.length
 · cases rx
   obtain⟨au,r,ht,hz⟩:=I.tuple (iz.of hx)
   have hlen:au.toArray.size=xs.length:=by rw[List.size_toArray];exact r.length.symm
   exact⟨"tuple",_,PyProof.Rows.slot_tuple_getitem.lookup,ht.typeIs,HT.qi ht hs pl pu (by rw[hlen];exact hw) ⟨.ref a,H,I,rfl,q1 hw⟩⟩
 · exact JP pins s σ H _ v vl vu lo hi sl Q I rx hs pl pu ⟨a,xs,rfl,.of hx,hw,q2 hw⟩
theorem Dv{xs:List D}{lo hi:Option Int}(hw:HT.bK xs.length 0 lo=0∧HT.bK xs.length xs.length hi=xs.length):cutD xs lo hi=xs:=by
 unfold cutD
 rw[hw.1,hw.2]
 simp
theorem IL:Ci X Ou:=by
 intro pins s σ H x v vl vu lo hi sl Q I rx hs pl pu ⟨α,d,st,K,G,F',P,r1,S,q,k⟩
 unfold jM yH at q
 cases d<;>try exact q.elim
 · rename_i n
   simp only at q
   split at q
   · rename_i xs e
     obtain⟨a,ea,vs,h1,h2⟩:=S.ja e
     have r1':=dU ea r1
     subst r1'
     exact AB pins s σ H _ v vl vu lo hi sl Q I rx hs pl pu ⟨a,vs,rfl,.inl (.of (P.get h1)),fun p hp=>k.lst P q S (tf h2) hp⟩
   · exact q.elim
 · unfold Rep at r1
   obtain⟨a,vs,rfl,na,ha,ra⟩:=r1
   exact AB pins s σ H _ v vl vu lo hi sl Q I rx hs pl pu ⟨a,vs,rfl,.inl (fQ P ha),fun p hp=>k.lst P q S (tf ra) hp⟩
 · rename_i xs
   have r0:=r1
   unfold Rep at r1
   obtain⟨a,vs,rfl,na,ha,ra⟩:=r1
   refine Hc pins s σ H _ v vl vu lo hi sl Q I rx hs pl pu ⟨a,vs,rfl,P.get ha,fun hw=>?_,fun _ p hp=>k.tup P q S (tf ra) hp⟩
   rw[←ra.length]at hw
   simp only at q
   rw[Dv hw]at q
   exact k.here P q S r0
theorem HS{e:Expr}{lo hi:Option Expr}{te:DE}{tl th:DO}{p2 pos:Pos}(he:PE X e (LE te))(hl:PO X lo (LO tl))(hh:PO X hi (LO th)):PE X (.Subscript e (.Slice lo hi none p2) pos) (LE (iW te tl th)):=PE.imp (EN IL he hl hh) fun σ H Q ⟨α,σd,st,K,G,F,P,R,S,t,k⟩=>by
 refine⟨α,σd,st,_,G,F,P,R,S,t,fun d st1 q α1 G1 H1 v s1 P1 S1 r1=>?_⟩
 refine⟨α1,σd,st1,_,G1,F,P1,R.step s1,S1,q,fun l st2 q2 α2 G2 H2 s2 P2 S2=>?_⟩
 refine⟨α2,σd,st2,_,G2,F,P2,(R.step s1).step s2,S2,q2,fun u st3 q3 α3 G3 H3 s3 P3 S3=>?_⟩
 exact⟨α3,d,st3,K,G3,F,P3,(r1.step s2).step s3,S3,q3,((k.at s1).at s2).at s3⟩
@[irreducible] noncomputable def JO(X:Cx)(e:Option Expr)(t:DO):Prop:=PO X e (LO t)
theorem jC:JO X none gX:=by unfold JO;exact GK
theorem jG{e:Expr}{te:DE}(h:JE X e te):JO X (some e) (kX te):=by unfold JO;unfold JE at h;exact G_ h
theorem jA{e:Expr}{lo hi:Option Expr}{te:DE}{tl th:DO}{p2 pos:Pos}(he:JE X e te)(hl:JO X lo tl)(hh:JO X hi th):JE X (.Subscript e (.Slice lo hi none p2) pos) (iW te tl th):=by unfold JE at*;unfold JO at*;exact HS he hl hh
end
theorem qU{st:ag}{K:DK}{xs:List D}{lo hi:Option Int}(k:K (.lst (cutD xs lo hi)) st):jM (.lst xs) lo hi st K:=by unfold jM;exact k
theorem nY{st:ag}{K:DK}{xs:List D}{lo hi:Option Int}(k:K (.tup (cutD xs lo hi)) st):jM (.tup xs) lo hi st K:=by unfold jM;exact k
theorem C4{st:ag}{K:DK}{xs:List D}{lo hi:Option Int}{n:Nat}(h:st[n]?=some (.lst xs))(k:K (.lst (cutD xs lo hi)) st):jM (.ref n) lo hi st K:=by unfold jM yH;simp only[h];exact k
end L3
namespace L3
open PySem L2
open PySem.Spec hiding items?
open PyProof.Rows hiding St
section
variable {prog:Program}{w:World}{A:Around}{E:Value→Shared→Prop}{s:Shared}
theorem Ca{iT tp:Addr}{n:Nat}{au:Array Value}{v:Value}{Q:Value→Shared→Prop}(hI:s.heap.IsTupleIter iT tp n)(hT:s.heap.IsTuple tp au)(hv:au[n]?=some v)
 (q:∀g,g.IsTupleIter iT tp (n+1)→Heap.SameBut iT s.heap g→Q v {s with heap:=g}):wpAny (model prog w) A (Builtin.SmallTypes.nextOf (.ref iT)) Q E s:=by
 obtain⟨oI,eI,cI,dI⟩:=id hI
 obtain⟨oT,eT,_,nT,dT⟩:=hT
 unfold Builtin.SmallTypes.nextOf
 refine wpAny_bind (wpAny_callSpecial?_slot (name:=Str.ofString "__next__") hI.typeIs F.slot_tuple_iterator_next (wpAny_call_entry F.slot_tuple_iterator_next hI.typeIs F.entry_tuple_iterator_next ?_ (F.args_tuple_iterator_next_1 _)))
 show wpAny _ _ (field (.ref iT) 0 >>= _) _ _ s
 refine wpAny_bind (wpAny_field eI dI (x:= .ref tp) rfl ?_)
 show wpAny _ _ (if(Value.ref tp==Value.none)=true then _ else _) _ _ s
 rw[if_neg (show¬((Value.ref tp==Value.none)=true)from Bool.false_ne_true)]
 show wpAny _ _ (field (.ref iT) 1 >>= _) _ _ s
 refine wpAny_bind (wpAny_field eI dI (x:= .int n 0) rfl ?_)
 show wpAny _ _ (seqItems? (.ref tp) >>= _) _ _ s
 refine wpAny_bind (wpAny_seqItems eT dT ?_)
 simp only[Int.toNat_natCast,hv]
 refine wpAny_bind (wpAny_setField eI dI (by simp) (wpAny_pure ⟨v,rfl,wpAny_pure (q _ ?_ (Heap.SameBut.update ..))⟩))
 refine⟨_,Heap.get?_update_self _ eI (Obj.isFreed_of_fields (Obj.data_mapFields dI _)),(Obj.cls_mapFields ..).trans cI,?_⟩
 rw[Obj.data_mapFields dI]
 simp[rawInt]
theorem DL{iT tp:Addr}{n:Nat}{au:Array Value}{Q:Value→Shared→Prop}(hh:A.handled=none)(hI:s.heap.IsTupleIter iT tp n)(hT:s.heap.IsTuple tp au)(hv:au[n]?=none)
 (q:∀g e,Heap.ExtBut iT s.heap g→(∃o,g.get? e=some o∧o.cls= .type "StopIteration")→E (.ref e) {s with heap:=g}):wpAny (model prog w) A (Builtin.SmallTypes.nextOf (.ref iT)) Q E s:=by
 obtain⟨oI,eI,cI,dI⟩:=id hI
 obtain⟨oT,eT,_,nT,dT⟩:=hT
 unfold Builtin.SmallTypes.nextOf
 refine wpAny_bind (wpAny_callSpecial?_slot (name:=Str.ofString "__next__") hI.typeIs F.slot_tuple_iterator_next (wpAny_call_entry F.slot_tuple_iterator_next hI.typeIs F.entry_tuple_iterator_next ?_ (F.args_tuple_iterator_next_1 _)))
 show wpAny _ _ (field (.ref iT) 0 >>= _) _ _ s
 refine wpAny_bind (wpAny_field eI dI (x:= .ref tp) rfl ?_)
 show wpAny _ _ (if(Value.ref tp==Value.none)=true then _ else _) _ _ s
 rw[if_neg (show¬((Value.ref tp==Value.none)=true)from Bool.false_ne_true)]
 show wpAny _ _ (field (.ref iT) 1 >>= _) _ _ s
 refine wpAny_bind (wpAny_field eI dI (x:= .int n 0) rfl ?_)
 show wpAny _ _ (seqItems? (.ref tp) >>= _) _ _ s
 refine wpAny_bind (wpAny_seqItems eT dT ?_)
 simp only[Int.toNat_natCast,hv]
 refine wpAny_bind (wpAny_rule (wpAny_bind (wpAny_setField eI dI (by simp) ?_)))
 show wpAny _ _ (newExc (.type "StopIteration") [] >>= _) _ _ _
 refine wpAny_bind ?_
 simp only[newExc,newTuple]
 refine wpAny_bind (wpAny_newObj_type ?_ (by size_fits))
 refine wpAny_bind (m:=firstArgMember _ _) (wpAny_of_eq (a:=Value.none) (by first|rfl|(simp only[firstArgMember];rfl)) ?_)
 refine wpAny_newObj_type ?_ (by size_fits)
 simp only[raiseNew]
 refine wpAny_bind (wpAny_handled ?_)
 first|rw[show A.in1.handled=none from hh]|rw[hh]
 refine wpAny_bind (wpAny_pure (wpAny_throw ?_))
 exact q _ _ (((Heap.SameBut.update ..).extBut.push _).push _) ⟨_,Heap.get?_push_size _ rfl,rfl⟩
end
end L3
namespace L3
open PySem L2
open PySem.Spec hiding items?
open PyProof.Rows hiding St
section
variable {st:ag}{K:DK}{i j:Int}{b c:Bool}{xs ys:List D}{d e:D}{n:Nat}
theorem eqT(h:i=j)(k:K (.bl true) st):gg (.int i) (.int j) st K:=yx (by rw[decide_eq_true h];exact k)
theorem Oe(h:i≠j)(k:K (.bl false) st):gg (.int i) (.int j) st K:=yx (by rw[decide_eq_false h];exact k)
theorem eq2(h1:i=j→K (.bl true) st)(h2:i≠j→K (.bl false) st):gg (.int i) (.int j) st K:=by
 by_cases h:i=j
 · exact eqT h (h1 h)
 · exact Oe h (h2 h)
theorem neT(h:i≠j)(k:K (.bl true) st):nE (.int i) (.int j) st K:=Gg (by rw[decide_eq_false h];exact k)
theorem N5(h:i=j)(k:K (.bl false) st):nE (.int i) (.int j) st K:=Gg (by rw[decide_eq_true h];exact k)
theorem ne2(h1:i≠j→K (.bl true) st)(h2:i=j→K (.bl false) st):nE (.int i) (.int j) st K:=by
 by_cases h:i=j
 · exact N5 h (h2 h)
 · exact neT h (h1 h)
theorem Oc(h:i<j)(k:K (.bl true) st):p_ (.int i) (.int j) st K:=BX (by rw[decide_eq_true h];exact k)
theorem N_(h:j≤i)(k:K (.bl false) st):p_ (.int i) (.int j) st K:=BX (by rw[decide_eq_false (by omega)];exact k)
theorem K9(h1:i<j→K (.bl true) st)(h2:j≤i→K (.bl false) st):p_ (.int i) (.int j) st K:=by
 by_cases h:i<j
 · exact Oc h (h1 h)
 · exact N_ (by omega) (h2 (by omega))
theorem MT(h:j<i)(k:K (.bl true) st):oX (.int i) (.int j) st K:=rT (by rw[decide_eq_true h];exact k)
theorem Og(h:i≤j)(k:K (.bl false) st):oX (.int i) (.int j) st K:=rT (by rw[decide_eq_false (by omega)];exact k)
theorem Oi(h1:j<i→K (.bl true) st)(h2:i≤j→K (.bl false) st):oX (.int i) (.int j) st K:=by
 by_cases h:j<i
 · exact MT h (h1 h)
 · exact Og (by omega) (h2 (by omega))
theorem KC{P:Prop}(h:xs.length≤1000)(k:P):xs.length≤sizeLine∧P:=⟨by rw[sizeLine_eq];omega,k⟩
theorem cp{m:Nat}(h:m≤1000):m≤sizeLine:=by rw[sizeLine_eq];omega
theorem vM(h0:0≤i)(e:xs[i.toNat]?=some d):eB xs i=some d:=by
 have:=ki e
 rw[Int.toNat_of_nonneg h0]at this
 exact this
theorem Jw{m:Nat}(h0:0≤i)(h:i.toNat<m):j9 m i=some i.toNat:=by
 unfold j9
 have:i<(m:Int):=by omega
 simp[h0,this]
end
theorem gM{tg:fk}{body:DS}{ok:ag→Prop}{E:mz}(I:List D→bV→ag→Prop)(hend:∀σ st,I [] σ st→ok st∧E.nx σ st)
 (hstep:∀x xs σ st,I (x::xs) σ st→(∀σ' st',I xs σ' st'→iy tg body ok E xs σ' st')→ok st∧∃σ1,tg x σ=some σ1∧body {E with nx:=iy tg body ok E xs,ct:=iy tg body ok E xs,bk:=E.nx} σ1 st):
 ∀xs σ st,I xs σ st→iy tg body ok E xs σ st
 | [],σ,st,h=>by unfold iy;exact hend σ st h
 |x::xs,σ,st,h=>by unfold iy;exact hstep x xs σ st h fun σ' st' h'=>gM I hend hstep xs σ' st' h'
theorem ip{tg:fk}{c:DT}{te:DE}{ok:ag→Prop}{σc:bV}{K:List D→ag→Prop}(I:List D→List D→ag→Prop)(hend:∀acc st,I [] acc st→ok st∧K acc st)
 (hstep:∀x xs acc st,I (x::xs) acc st→(∀acc' st',I xs acc' st'→cO tg c te ok σc xs acc' st' K)→ok st∧∃σ2,tg x σc=some σ2∧c σ2 st fun b st1=>if b=true then te σ2 st1 fun y st2=>cO tg c te ok σc xs (acc++[y]) st2 K else cO tg c te ok σc xs acc st1 K):
 ∀xs acc st,I xs acc st→cO tg c te ok σc xs acc st K
 | [],acc,st,h=>by unfold cO;exact hend acc st h
 |x::xs,acc,st,h=>by unfold cO;exact hstep x xs acc st h fun acc' st' h'=>ip I hend hstep xs acc' st' h'
theorem comp_map{tg:fk}{te:DE}{ok:ag→Prop}{σc:bV}{st:ag}{K:List D→ag→Prop}{g:D→D}(aL:ok st)(xs:List D)(hx:∀x∈xs,∀K',K' (g x) st→∃σ2,tg x σc=some σ2∧te σ2 st K')(k:K (xs.map g) st):cO tg cG te ok σc xs [] st K:=by
 refine ip (fun r acc st'=>st'=st∧(∀x∈r,x∈xs)∧acc++r.map g=xs.map g) (fun acc st' h=>?_) (fun x r acc st' h next=>?_) xs [] st ⟨rfl,fun _ h=>h,rfl⟩
 · obtain⟨rfl,_,e⟩:=h
   rw[List.map_nil,List.append_nil]at e
   rw[e];exact⟨aL,k⟩
 · obtain⟨rfl,hm,e⟩:=h
   obtain⟨σ2,e2,q⟩:=hx x (hm x List.mem_cons_self) (fun y st2=>cO tg cG te ok σc r (acc++[y]) st2 K) (next _ _ ⟨rfl,fun z hz=>hm z (List.mem_cons_of_mem _ hz),by rw[←e];simp⟩)
   exact⟨aL,σ2,e2,q⟩
theorem gW{A B:DS}{E:mz}{σ:bV}{st:ag}(J:bV→ag→Prop)(h:∀nx,(∀σ' st',J σ' st'→nx σ' st')→A {E with nx:=nx} σ st)(k:∀σ' st',J σ' st'→B E σ' st'):aH A B E σ st:=h (B E) k
noncomputable def IC(n:Nat)(K:DK)(y:D)(st2:ag):Prop:=∃y',[y]=[y']∧(match st2[n]? with|some (.lst xs)=>xs.length<sizeLine∧K .aE (st2.set n (.lst (xs++[y'])))|_=>False)
theorem AR{n:Nat}{K:DK}{y:D}{st:ag}{xs:List D}(e:st[n]?=some (.lst xs))(h:xs.length<sizeLine)(k:K .aE (st.set n (.lst (xs++[y])))):IC n K y st:=by
 refine⟨y,rfl,?_⟩;simp only[e];exact⟨h,k⟩
@[irreducible] noncomputable def mH(to te:DE):DE:=o6 to te
theorem Cm{σ:bV}{st:ag}{K:DK}{i n:Nat}{xs:List D}{te:DE}(ei:σ[i]?=some (some (.ref n)))(e:st[n]?=some (.lst xs))(h:te σ st (IC n K)):mH (ae i) te σ st K:=by
 unfold mH o6 ae
 simp only[ei,e]
 exact h
theorem wA{X:Cx}{o e:Expr}{to te:DE}{apos cpos:Pos}(ho:JE X o to)(he:JE X e te)(hbase:attributeBase o "append" X.env (eval o X.env)=eval o X.env:=by rfl)(hline:(apos.endLine==cpos.line)=true:=by rfl)(hs:notStar e=true:=by rfl):JE X (.Call (.Attribute o "append" apos) [e] [] cpos) (mH to te):=by
 unfold mH;exact Fh ho he hbase hline hs
section
variable {X:Cx}
end
end L3
namespace L3
open PySem L2
open PySem.Spec hiding items?
open PyProof.Rows hiding St
structure Src(P:Program)(w:World)(t a:Addr)(J:Nat→Heap→Prop)(us:Array Value):Prop where
 fr:∀n g k,J n g→(∀b,b=t∨b=a→∀o,g.get? b=some o→k.get? b=some o)→J n k
 lv:∀n g,J n g→(∃o,g.get? t=some o)∧∃o,g.get? a=some o
 nx:∀n (A:Around) (s:Shared) (Q:Value→Shared→Prop) (E:Value→Shared→Prop) v,J n s.heap→us[n]?=some v→(∀k,J (n+1) k→Heap.SameBut t s.heap k→Q v {s with heap:=k})→wpAny (model P w) A (Builtin.SmallTypes.nextOf (.ref t)) Q E s
 en:∀n (A:Around) (s:Shared) (Q:Value→Shared→Prop) (E:Value→Shared→Prop),A.handled=none→J n s.heap→us[n]?=none→(∀k e,Heap.ExtBut t s.heap k→(∃o,k.get? e=some o∧o.cls= .type "StopIteration")→E (.ref e) {s with heap:=k})→wpAny (model P w) A (Builtin.SmallTypes.nextOf (.ref t)) Q E s
section
variable {P:Program}{w:World}
theorem src_list(t a:Addr)(hne:a≠t)(us:Array Value):Src P w t a (fun n g=>g.IsListIter t a n∧g.IsList a us) us where
 fr:=fun n g k j kp=>⟨j.1.at fun o e=>kp t (.inl rfl) o e,j.2.at fun o e=>kp a (.inr rfl) o e⟩
 lv:=fun n g j=>⟨let⟨o,e,_⟩:=j.1;⟨o,e⟩,let⟨o,e,_⟩:=j.2;⟨o,e⟩⟩
 nx:=fun n A s Q E v j hv q=>wpAny_nextOf_list_item j.1 j.2 hv fun k jk sb=>q k ⟨jk,j.2.extBut sb.extBut hne⟩ sb
 en:=fun n A s Q E hh j hv q=>wpAny_nextOf_list_end hh j.1 j.2 hv q
theorem Hr(t a:Addr)(hne:a≠t)(us:Array Value):Src P w t a (fun n g=>g.IsTupleIter t a n∧g.IsTuple a us) us where
 fr:=fun n g k j kp=>by
  obtain⟨⟨o,e,r⟩,⟨o2,e2,r2⟩⟩:=j
  exact⟨⟨o,kp t (.inl rfl) o e,r⟩,⟨o2,kp a (.inr rfl) o2 e2,r2⟩⟩
 lv:=fun n g j=>⟨let⟨o,e,_⟩:=j.1;⟨o,e⟩,let⟨o,e,_⟩:=j.2;⟨o,e⟩⟩
 nx:=fun n A s Q E v j hv q=>Ca j.1 j.2 hv fun k jk sb=>q k ⟨jk,j.2.extBut sb.extBut hne⟩ sb
 en:=fun n A s Q E hh j hv q=>DL hh j.1 j.2 hv q
theorem Src.ext{t a c:Addr}{J:Nat→Heap→Prop}{us:Array Value}(S:Src P w t a J us){n:Nat}{g k:Heap}(j:J n g)(x:Heap.ExtBut c g k)(h1:c≠t)(h2:c≠a):J n k:=
 S.fr n g k j fun b hb o e=>x b o (by rcases hb with rfl|rfl;exact Ne.symm h1;exact Ne.symm h2) e
structure AK(z ti to t1 t2 a1 a2:Addr):Prop where
 nd: [z,ti,to,t1,t2].Nodup
 a1:a1∉[z,ti,to,t1,t2]
 a2:a2∉[z,ti,to,t1,t2]
section
variable {z ti to t1 t2 a1 a2:Addr}
theorem AK.n(D:AK z ti to t1 t2 a1 a2):(ti≠z∧to≠z∧t1≠z∧t2≠z)∧(ti≠to∧ti≠t1∧ti≠t2)∧(to≠t1∧to≠t2)∧t1≠t2:=by
 have:=D.nd
 simp only[List.nodup_cons,List.mem_cons,not_or,List.not_mem_nil,not_false_eq_true,and_true,List.nodup_nil]at this
 obtain⟨⟨b1,b2,b3,b4⟩,⟨b5,b6,b7⟩,⟨b8,b9⟩,b10⟩:=this
 exact⟨⟨Ne.symm b1,Ne.symm b2,Ne.symm b3,Ne.symm b4⟩,⟨b5,b6,b7⟩,⟨b8,b9⟩,b10⟩
theorem Di{A:Around}{s:Shared}{E:Value→Shared→Prop}{J1 J2:Nat→Heap→Prop}{us vs:Array Value}{n:Nat}{x y a b:Value}{Q:Value→Shared→Prop}(D:AK z ti to t1 t2 a1 a2)(S1:Src P w t1 a1 J1 us)(S2:Src P w t2 a2 J2 vs)
 (Z:IsZip s.heap z ti to .none) (pI:IsPair s.heap ti (.ref t1) (.ref t2)) (pO:IsPair s.heap to a b) (j1:J1 n s.heap) (j2:J2 n s.heap) (ex:us[n]?=some x) (ey:vs[n]?=some y)
 (q:∀k,IsZip k z ti to (rawInt s.heap.objs.size)→IsPair k to x y→J1 (n+1) k→J2 (n+1) k→IsPair k s.heap.objs.size x y→k.objs.size=s.heap.objs.size+1→
   (∀c o,c≠z→c≠to→c≠t1→c≠t2→s.heap.get? c=some o→k.get? c=some o)→Q (.ref s.heap.objs.size) {s with heap:=k}):
 wpAny (model P w) A (Builtin.«zip.__next__» ⟨[.ref z],[]⟩) (fun fin s'=>∃v,fin= .done (.ret v)∧Q v s') E s:=by
 obtain⟨⟨n1,n2,n3,n4⟩,⟨n5,n6,n7⟩,⟨n8,n9⟩,n10⟩:=D.n
 have m1:=D.a1
 have m2:=D.a2
 simp only[List.mem_cons,not_or,List.not_mem_nil,not_false_eq_true,and_true]at m1 m2
 show wpAny _ _ (field (.ref z) 2 >>= _) _ _ _
 refine wpAny_bind (wpAny_field Z rfl (x:= .bool false) rfl ?_)
 show wpAny _ _ (field (.ref z) 3 >>= _) _ _ _
 refine wpAny_bind (wpAny_field Z rfl (x:= .ref ti) rfl ?_)
 refine wpAny_bind (wpAny_seqItems pI rfl ?_)
 show wpAny _ _ (Builtin.SmallTypes.ownedTupleIsFree (.ref z) >>= _) _ _ _
 refine wpAny_bind ?_
 unfold Builtin.SmallTypes.ownedTupleIsFree
 refine wpAny_bind (wpAny_field Z rfl (x:= .none) rfl (wpAny_pure ?_))
 simp only[if_true]
 refine wpAny_bind (wpAny_rule ?_)
 refine wpAny_bind (wpAny_field Z rfl (x:= .ref to) rfl ?_)
 refine wpAny_bind (wpAny_setField_rec Z (by simp) fun k1 Z1 b1=>?_)
 replace Z1:IsZip k1 z ti to .ellipsis:=Z1
 refine wpAny_bind ?_
 simp only[List.zipIdx_cons,List.zipIdx_nil,List.forIn_cons,List.forIn_nil]
 refine wpAny_bind (wpAny_bind (wpAny_onRaise ?_))
 show wpAny _ _ (Builtin.SmallTypes.nextOf (.ref t1) >>= _) _ _ _
 refine wpAny_bind (S1.nx n _ _ _ _ x (S1.ext j1 b1.extBut (Ne.symm n3) (Ne.symm m1.1)) ex fun k2 j1b b2=>wpAny_pure ?_)
 have pO2:IsPair k2 to a b:=b2.extBut _ _ n8 (b1.extBut _ _ n2 pO)
 refine wpAny_bind (wpAny_seqItems pO2 rfl ?_)
 refine wpAny_bind (wpAny_updateSeq_pair pO2 fun k3 pO3 b3=>?_)
 replace pO3:IsPair k3 to x b:=pO3
 refine wpAny_bind (wpAny_letGo (wpAny_pure ?_))
 refine wpAny_bind (wpAny_bind (wpAny_onRaise ?_))
 show wpAny _ _ (Builtin.SmallTypes.nextOf (.ref t2) >>= _) _ _ _
 have j2c:J2 n k3:=S2.ext (S2.ext (S2.ext j2 b1.extBut (Ne.symm n4) (Ne.symm m2.1)) b2.extBut n10 (Ne.symm m2.2.2.2.1)) b3.extBut n9 (Ne.symm m2.2.2.1)
 refine wpAny_bind (S2.nx n _ _ _ _ y j2c ey fun k4 j2d b4=>wpAny_pure ?_)
 have pO4:IsPair k4 to x b:=b4.extBut _ _ n9 pO3
 refine wpAny_bind (wpAny_seqItems pO4 rfl ?_)
 refine wpAny_bind (wpAny_updateSeq_pair pO4 fun k5 pO5 b5=>?_)
 replace pO5:IsPair k5 to x y:=pO5
 refine wpAny_bind (wpAny_letGo (wpAny_pure (wpAny_pure ?_)))
 refine wpAny_bind (wpAny_seqItems pO5 rfl ?_)
 refine wpAny_bind (wpAny_newTuple ?_)
 have sz:k5.objs.size=s.heap.objs.size:=by rw[b5.1,b4.1,b3.1,b2.1,b1.1]
 have Z5:IsZip k5 z ti to .ellipsis:=b5.extBut _ _ (Ne.symm n2) (b4.extBut _ _ (Ne.symm n4) (b3.extBut _ _ (Ne.symm n2) (b2.extBut _ _ (Ne.symm n3) Z1)))
 have kp5:∀c o,c≠z→c≠to→c≠t1→c≠t2→s.heap.get? c=some o→k5.get? c=some o:=fun c o c1 c2 c3 c4 e=>b5.extBut _ _ c2 (b4.extBut _ _ c4 (b3.extBut _ _ c2 (b2.extBut _ _ c3 (b1.extBut _ _ c1 e))))
 have j1e:J1 (n+1) k5:=S1.ext (S1.ext (S1.ext j1b b3.extBut n8 (Ne.symm m1.2.2.1)) b4.extBut (Ne.symm n10) (Ne.symm m1.2.2.2.2)) b5.extBut n8 (Ne.symm m1.2.2.1)
 have j2e:J2 (n+1) k5:=S2.ext j2d b5.extBut n9 (Ne.symm m2.2.2.1)
 have ltz:z<k5.objs.size:=Heap.lt_size Z5
 show wpAny _ _ (Builtin.SmallTypes.ownedTupleHandOut (.ref z) (.ref k5.objs.size) >>= _) _ _ _
 refine wpAny_bind ?_
 unfold Builtin.SmallTypes.ownedTupleHandOut
 have Z6:IsZip (k5.push {cls:= .type "tuple",data:= .seq #[x,y]}) z ti to .ellipsis:=Heap.get?_push_of_some _ Z5
 refine wpAny_bind (wpAny_setField_rec Z6 (by simp) fun k7 Z7 b7=>?_)
 replace Z7:IsZip k7 z ti to (rawInt k5.objs.size):=Z7
 refine wpAny_setField_rec Z7 (by simp) fun k8 Z8 b8=>?_
 replace Z8:IsZip k8 z ti to (rawInt k5.objs.size):=Z8
 have up:∀c o,c≠z→k5.get? c=some o→k8.get? c=some o:=fun c o c1 e=>b8.extBut _ _ c1 (b7.extBut _ _ c1 (Heap.get?_push_of_some _ e))
 have pT:IsPair k8 k5.objs.size x y:=b8.extBut _ _ (Nat.ne_of_gt ltz) (b7.extBut _ _ (Nat.ne_of_gt ltz) (Heap.get?_push_size _ rfl))
 have sz8:k8.objs.size=k5.objs.size+1:=by rw[b8.1,b7.1,Heap.size_push]
 rw[sz]at Z8 pT sz8
 refine wpAny_pure ⟨_,rfl,?_⟩
 show Q (.ref k5.objs.size) _
 rw[sz]
 refine q k8 Z8 (up _ _ n2 pO5) (S1.fr _ _ _ j1e fun b hb o e=>up b o ?_ e) (S2.fr _ _ _ j2e fun b hb o e=>up b o ?_ e) pT sz8 fun c o c1 c2 c3 c4 e=>up c o c1 (kp5 c o c1 c2 c3 c4 e)
 · rcases hb with rfl|rfl
   · exact n3
   · exact m1.1
 · rcases hb with rfl|rfl
   · exact n4
   · exact m2.1
theorem Fm{A:Around}{s:Shared}{E:Value→Shared→Prop}{J1 J2:Nat→Heap→Prop}{us vs:Array Value}{n:Nat}{a b:Value}{Q:Fin→Shared→Prop}(hh:A.handled=none)(D:AK z ti to t1 t2 a1 a2)(S1:Src P w t1 a1 J1 us)(S2:Src P w t2 a2 J2 vs)
 (Z:IsZip s.heap z ti to .none) (pI:IsPair s.heap ti (.ref t1) (.ref t2)) (pO:IsPair s.heap to a b) (j1:J1 n s.heap) (j2:J2 n s.heap) (he:us[n]?=none∨vs[n]?=none)
 (q:∀k e,(∀c o,c≠z→c≠to→c≠t1→c≠t2→s.heap.get? c=some o→k.get? c=some o)→(∃o,k.get? e=some o∧o.cls= .type "StopIteration")→E (.ref e) {s with heap:=k}):
 wpAny (model P w) A (Builtin.«zip.__next__» ⟨[.ref z],[]⟩) Q E s:=by
 obtain⟨⟨n1,n2,n3,n4⟩,⟨n5,n6,n7⟩,⟨n8,n9⟩,n10⟩:=D.n
 have m1:=D.a1
 have m2:=D.a2
 simp only[List.mem_cons,not_or,List.not_mem_nil,not_false_eq_true,and_true]at m1 m2
 show wpAny _ _ (field (.ref z) 2 >>= _) _ _ _
 refine wpAny_bind (wpAny_field Z rfl (x:= .bool false) rfl ?_)
 show wpAny _ _ (field (.ref z) 3 >>= _) _ _ _
 refine wpAny_bind (wpAny_field Z rfl (x:= .ref ti) rfl ?_)
 refine wpAny_bind (wpAny_seqItems pI rfl ?_)
 show wpAny _ _ (Builtin.SmallTypes.ownedTupleIsFree (.ref z) >>= _) _ _ _
 refine wpAny_bind ?_
 unfold Builtin.SmallTypes.ownedTupleIsFree
 refine wpAny_bind (wpAny_field Z rfl (x:= .none) rfl (wpAny_pure ?_))
 simp only[if_true]
 refine wpAny_bind (wpAny_rule ?_)
 refine wpAny_bind (wpAny_field Z rfl (x:= .ref to) rfl ?_)
 refine wpAny_bind (wpAny_setField_rec Z (by simp) fun k1 Z1 b1=>?_)
 replace Z1:IsZip k1 z ti to .ellipsis:=Z1
 refine wpAny_bind ?_
 simp only[List.zipIdx_cons,List.zipIdx_nil,List.forIn_cons,List.forIn_nil]
 refine wpAny_bind (wpAny_bind (wpAny_onRaise ?_))
 show wpAny _ _ (Builtin.SmallTypes.nextOf (.ref t1) >>= _) _ _ _
 have j1a:J1 n k1:=S1.ext j1 b1.extBut (Ne.symm n3) (Ne.symm m1.1)
 cases ex:us[n]? with
 |none=>
  refine wpAny_bind (S1.en n _ _ _ _ hh j1a ex fun k2 e b2 hx=>?_)
  obtain⟨oe,he1,he2⟩:=hx
  have Z2:IsZip k2 z ti to .ellipsis:=b2 _ _ (Ne.symm n3) Z1
  have hez:e≠z:=fun c=>by subst c;rw[Z2]at he1;cases he1;simp at he2
  refine wpAny_setField_rec Z2 (by simp) fun k3 _ b3=>q k3 e (fun c o c1 _ c3 _ f=>b3.extBut _ _ c1 (b2 _ _ c3 (b1.extBut _ _ c1 f))) ⟨oe,b3.extBut _ _ hez he1,he2⟩
 |some x=>
  have ey:vs[n]?=none:=by
   rcases he with h|h
   · rw[ex]at h;cases h
   · exact h
  refine wpAny_bind (S1.nx n _ _ _ _ x j1a ex fun k2 j1b b2=>wpAny_pure ?_)
  have pO2:IsPair k2 to a b:=b2.extBut _ _ n8 (b1.extBut _ _ n2 pO)
  refine wpAny_bind (wpAny_seqItems pO2 rfl ?_)
  refine wpAny_bind (wpAny_updateSeq_pair pO2 fun k3 pO3 b3=>?_)
  refine wpAny_bind (wpAny_letGo (wpAny_pure ?_))
  refine wpAny_bind (wpAny_bind (wpAny_onRaise ?_))
  show wpAny _ _ (Builtin.SmallTypes.nextOf (.ref t2) >>= _) _ _ _
  have j2c:J2 n k3:=S2.ext (S2.ext (S2.ext j2 b1.extBut (Ne.symm n4) (Ne.symm m2.1)) b2.extBut n10 (Ne.symm m2.2.2.2.1)) b3.extBut n9 (Ne.symm m2.2.2.1)
  refine wpAny_bind (S2.en n _ _ _ _ hh j2c ey fun k4 e b4 hx=>?_)
  obtain⟨oe,he1,he2⟩:=hx
  have Z4:IsZip k4 z ti to .ellipsis:=b4 _ _ (Ne.symm n4) (b3.extBut _ _ (Ne.symm n2) (b2.extBut _ _ (Ne.symm n3) Z1))
  have hez:e≠z:=fun c=>by subst c;rw[Z4]at he1;cases he1;simp at he2
  refine wpAny_setField_rec Z4 (by simp) fun k5 _ b5=>q k5 e (fun c o c1 c2 c3 c4 f=>b5.extBut _ _ c1 (b4 _ _ c4 (b3.extBut _ _ c2 (b2.extBut _ _ c3 (b1.extBut _ _ c1 f))))) ⟨oe,b5.extBut _ _ hez he1,he2⟩
end
end
end L3
namespace L3
open PySem L2
open PySem.Spec hiding items?
open PyProof.Rows hiding St
theorem FG{X:Cx}{pins:List (Addr×Obj)}{σ:L2.St}{H:Hp}{s:Shared}{g:Heap}{tk:Nat}{fp:List Addr}{T:Addr}{xs:List V}(I:Inv X pins σ H s)(hf:∀b∈fp,kn X pins H b)
 (k:∀b o,b∉fp→s.heap.get? b=some o→g.get? b=some o) (hT:s.heap.objs.size≤T) (new:dc X.prog X.w (upd H T (.tup xs)) g T (.tup xs)):Inv X pins σ (upd H T (.tup xs)) {s with heap:=g,toks:=tk}:=by
 have hn:H T=none:=I.aL.fresh hT
 have nfp:∀b u,H b=some u→b∉fp:=fun b u e z=>by rw[(hf b z).1]at e;cases e
 have nT:∀b u,H b=some u→b≠T:=fun b u e=>c9 e hn
 refine I.step (g':=s.gens) (d':=s.drawn) (ch:=fp) (fun b hb=>?_) (fun b o _ _ hc e _=>k b o hc e) (fun b o _ _ hc e _=>⟨o.slots,k b o hc e⟩) (fun b o _ e n=>?_) (fun b o hc e=>⟨o,k b o hc e⟩)
  (fun b ys e=>by rw[ax (nT b _ e)];exact e) (fun b o u e=>by rw[ax (nT b _ e)];exact e) (fun b ps e=>⟨#[],by rw[ax (nT b _ e),e];simp⟩) (fun m hm=>?_) (fun b u e=>?_) I.bare
 · obtain⟨f0,f1,f2,f3,f4,f5⟩:=hf b hb
   exact⟨f3,f1,f4,f5⟩
 · rw[ax (Nat.ne_of_lt (Nat.lt_of_lt_of_le (Heap.lt_size e) hT))];exact n
 · obtain⟨o,es,ep,ho,r⟩:=hm
   exact⟨o,es,ep,k _ o (fun z=>(hf _ z).2.1 rfl) ho,r⟩
 · by_cases hb:b=T
   · subst hb;rw[a5]at e;cases e;exact new
   · rw[ax hb]at e
     refine(I.aL b u e).oF (fun c v hc q=>k c v ?_ q) (fun c q=>by rw[ax (nT c _ q)];exact q) fun c ys q=>by rw[ax (nT c _ q)];exact q
     rcases hc with z|z
     · rw[z];exact nfp b u e
     · exact nfp c _ z
theorem Gf{X:Cx}{pins:List (Addr×Obj)}{σ:L2.St}{H:Hp}{s:Shared}{g:Heap}{tk:Nat}{fp:List Addr}(I:Inv X pins σ H s)(hf:∀b∈fp,kn X pins H b)
 (k:∀b o,b∉fp→s.heap.get? b=some o→g.get? b=some o):Inv X pins σ H {s with heap:=g,toks:=tk}:=by
 have nfp:∀b u,H b=some u→b∉fp:=fun b u e z=>by rw[(hf b z).1]at e;cases e
 refine I.step (g':=s.gens) (d':=s.drawn) (ch:=fp) (fun b hb=>?_) (fun b o _ _ hc e _=>k b o hc e) (fun b o _ _ hc e _=>⟨o.slots,k b o hc e⟩) (fun b o _ e n=>n) (fun b o hc e=>⟨o,k b o hc e⟩)
  (fun b ys e=>e) (fun b o u e=>e) (fun b ps e=>⟨#[],by rw[e];simp⟩) (fun m hm=>?_) (fun b u e=>?_) I.bare
 · obtain⟨f0,f1,f2,f3,f4,f5⟩:=hf b hb
   exact⟨f3,f1,f4,f5⟩
 · obtain⟨o,es,ep,ho,r⟩:=hm
   exact⟨o,es,ep,k _ o (fun z=>(hf _ z).2.1 rfl) ho,r⟩
 · refine(I.aL b u e).oF (fun c v hc q=>k c v ?_ q) (fun c q=>q) fun c ys q=>q
   rcases hc with z|z
   · rw[z];exact nfp b u e
   · exact nfp c _ z
inductive SK where
 |l|t
noncomputable def o4(k:SK)(K:PySem.W.Frag)(H:Hp)(a:Addr)(xs:List V):Prop:=match k with
 | .l=>lH K H a xs
 | .t=>iz K H a xs
noncomputable def p7(k:SK)(t a:Addr)(n:Nat)(g:Heap):Prop:=match k with
 | .l=>g.IsListIter t a n
 | .t=>g.IsTupleIter t a n
noncomputable def lD(k:SK)(g:Heap)(a:Addr)(us:Array Value):Prop:=match k with
 | .l=>g.IsList a us
 | .t=>g.IsTuple a us
noncomputable def yI(k:SK)(a:Addr):Obj:=match k with
 | .l=>{cls:= .type "list_iterator",data:= .fields #[.ref a,.int 0 0]}
 | .t=>{cls:= .type "tuple_iterator",data:= .fields #[.ref a,.int 0 0]}
theorem mx{P:Program}{w:World}(k:SK)(t a:Addr)(hne:a≠t)(us:Array Value):Src P w t a (fun n g=>p7 k t a n g∧lD k g a us) us:=by
 cases k
 · exact src_list t a hne us
 · exact Hr t a hne us
theorem jS{X:Cx}{pins:List (Addr×Obj)}{σ:L2.St}{H:Hp}{s:Shared}{k:SK}{a:Addr}{xs:List V}(I:Inv X pins σ H s)(h:o4 k X.K H a xs):∃au:List Value,Vals xs au∧lD k s.heap a au.toArray:=by
 cases k
 · obtain⟨au,rv,p,_⟩:=I.list h
   exact⟨au,rv,p.isList⟩
 · obtain⟨au,rv,p,_⟩:=I.tuple h
   exact⟨au,rv,p⟩
theorem vz{X:Cx}{pins:List (Addr×Obj)}{σ:L2.St}{H:Hp}{s:Shared}{k:SK}{a:Addr}{xs ys:List V}(I:Inv X pins σ H s)(h:o4 k X.K H a xs)(h':o4 k X.K H a ys):xs=ys:=by
 cases k
 · exact I.yQ h h'
 · exact I.wD h h'
theorem Df{P:Program}{w:World}{A:Around}{s:Shared}{E:Value→Shared→Prop}{k:SK}{a:Addr}{us:Array Value}{Q:Value→Shared→Prop}(h:lD k s.heap a us)(q:Q (.ref s.heap.objs.size) {s with heap:=s.heap.push (yI k a)}):wpAny (model P w) A (pyIter (.ref a)) Q E s:=by
 cases k
 · exact wpAny_pyIter_list h q
 · exact wpAny_pyIter_tuple h q
theorem lD.push{k:SK}{g:Heap}{a:Addr}{us:Array Value}(h:lD k g a us)(o:Obj):lD k (g.push o) a us:=by
 cases k
 · obtain⟨o',e,r⟩:=h;exact⟨o',Heap.get?_push_of_some _ e,r⟩
 · obtain⟨o',e,r⟩:=h;exact⟨o',Heap.get?_push_of_some _ e,r⟩
theorem lD.some{k:SK}{g:Heap}{a:Addr}{us:Array Value}(h:lD k g a us):∃o,g.get? a=Option.some o:=by
 cases k
 · obtain⟨o',e,r⟩:=h;exact⟨o',e⟩
 · obtain⟨o',e,r⟩:=h;exact⟨o',e⟩
theorem AN{k:SK}{g h:Heap}{t a:Addr}(e:g.get? t=Option.some (yI k a)):p7 k t a 0 g:=by
 cases k
 · exact⟨_,e,rfl,rfl⟩
 · exact⟨_,e,rfl,rfl⟩
theorem oK{k:SK}{t a:Addr}{n:Nat}{g g':Heap}(h:p7 k t a n g)(kp:∀o,g.get? t=Option.some o→g'.get? t=Option.some o):p7 k t a n g':=by
 cases k
 · obtain⟨o,e,r⟩:=h;exact⟨o,kp o e,r⟩
 · obtain⟨o,e,r⟩:=h;exact⟨o,kp o e,r⟩
theorem mG{k:SK}{t a:Addr}{n:Nat}{g:Heap}(h:p7 k t a n g):∃o,g.get? t=Option.some o∧∀v,o.data≠ .cell v:=by
 cases k
 · obtain⟨o,e,c,d⟩:=h;exact⟨o,e,fun v z=>by rw[d]at z;cases z⟩
 · obtain⟨o,e,c,d⟩:=h;exact⟨o,e,fun v z=>by rw[d]at z;cases z⟩
noncomputable def M3(K:PySem.W.Frag)(k1 k2:SK)(a1 a2:Addr):It:=
 ⟨fun i H=>∃xs ys x y,o4 k1 K H a1 xs∧o4 k2 K H a2 ys∧xs[i]?=some x∧ys[i]?=some y,
  fun i H v H'=>∃T x y,H T=none∧v= .ref T∧H'=upd H T (.tup [x,y])∧(∀xs,o4 k1 K H a1 xs→xs[i]?=some x)∧∀ys,o4 k2 K H a2 ys→ys[i]?=some y,
  fun i H=>∃xs ys,o4 k1 K H a1 xs∧o4 k2 K H a2 ys∧(xs.length≤i∨ys.length≤i)⟩
noncomputable def Lz(z ti to t1 t2 a1 a2:Addr)(k1 k2:SK)(i:Nat)(h:Heap):Prop:=IsZip h z ti to .none∧IsPair h ti (.ref t1) (.ref t2)∧(∃a b,IsPair h to a b)∧p7 k1 t1 a1 i h∧p7 k2 t2 a2 i h
theorem EL{P:Program}{w:World}{K:PySem.W.Frag}{elts:List Expr}{kx:Nat}{pos:Pos}{z ti to t1 t2 a1 a2:Addr}(k1 k2:SK)(D:AK z ti to t1 t2 a1 a2):
 Turn P w K (.Tuple elts kx pos) (M3 K k1 k2 a1 a2) [z,ti,to,t1,t2] z (Lz z ti to t1 t2 a1 a2 k1 k2) where
 mem:=by simp
 obj:=fun i h st b hb=>by
  obtain⟨Z,pI,⟨a,b',pO⟩,i1,i2⟩:=st
  simp only[List.mem_cons,List.not_mem_nil,or_false]at hb
  rcases hb with rfl|rfl|rfl|rfl|rfl
  · exact⟨_,Z,fun v e=>by cases e⟩
  · exact⟨_,pI,fun v e=>by cases e⟩
  · exact⟨_,pO,fun v e=>by cases e⟩
  · exact mG i1
  · exact mG i2
 keep:=fun i h h' st k=>by
  obtain⟨Z,pI,⟨a,b',pO⟩,i1,i2⟩:=st
  exact⟨k z (by simp) _ Z,k ti (by simp) _ pI,⟨a,b',k to (by simp) _ pO⟩,oK i1 (k t1 (by simp)),oK i2 (k t2 (by simp))⟩
 item:=by
  intro X hP hw hK hc i pins s σ H E I hf st hg
  subst hP hw hK
  obtain⟨Z,pI,⟨a,b',pO⟩,i1,i2⟩:=st
  obtain⟨xs,ys,x,y,q1,q2,ex,ey⟩:=hg
  obtain⟨us,r1,l1⟩:=jS I q1
  obtain⟨vs,r2,l2⟩:=jS I q2
  obtain⟨u,eu,ru⟩:=r1.get ex
  obtain⟨v,ev,rv⟩:=r2.get ey
  have m1:=D.a1
  have m2:=D.a2
  simp only[List.mem_cons,not_or,List.not_mem_nil,not_false_eq_true,and_true]at m1 m2
  obtain⟨⟨n1,n2,n3,n4⟩,⟨n5,n6,n7⟩,⟨n8,n9⟩,n10⟩:=D.n
  have tz:s.TypeIs (.ref z) "zip":=⟨_,Z,rfl⟩
  unfold pyNext
  refine wpAny_bind (wpAny_attempt (wpAny_callSpecial?_slot (name:=Str.ofString "__next__") tz F.slot_zip_next (wpAny_call_entry F.slot_zip_next tz F.entry_zip_next (Di D (mx k1 t1 a1 m1.2.2.2.1 us.toArray) (mx k2 t2 a2 m2.2.2.2.2 vs.toArray) Z pI pO ⟨i1,l1⟩ ⟨i2,l2⟩ (x:=u) (y:=v) (by simpa using eu) (by simpa using ev) fun k Z2 pO2 j1 j2 pT szk kp=>wpAny_pure ⟨_,rfl,?_⟩) (F.args_zip_next_1 _))))
  refine wpAny_letOwnedTupleGo_zip (s:={s with heap:=k}) Z2 fun k' Z3 b3=>?_
  have hT:s.heap.objs.size≠z:=Nat.ne_of_gt (Heap.lt_size Z)
  have kp3:∀b o,b∉[z,ti,to,t1,t2]→s.heap.get? b=some o→k'.get? b=some o:=fun b o hb e=>by
   simp only[List.mem_cons,not_or,List.not_mem_nil,not_false_eq_true,and_true]at hb
   exact b3.extBut _ _ hb.1 (kp b o hb.1 hb.2.2.1 hb.2.2.2.1 hb.2.2.2.2 e)
  refine⟨.ref s.heap.objs.size,upd H s.heap.objs.size (.tup [x,y]),FG (s:=s) (tk:=s.toks) I hf kp3 (Nat.le_refl _) ?_,rfl,⟨s.heap.objs.size,x,y,I.aL.fresh (Nat.le_refl _),rfl,rfl,?_,?_⟩,?_,?_⟩
  · refine⟨Nat.le_of_ble_eq_true rfl,[u,v],.cons ru (.cons rv .nil),?_⟩
    exact⟨_,b3.extBut _ _ hT pT,rfl,_,rfl⟩
  · intro xs' q'
    rw[vz I q' q1];exact ex
  · intro ys' q'
    rw[vz I q' q2];exact ey
  · refine⟨Z3,b3.extBut _ _ n1 (kp _ _ n1 n5 n6 n7 pI),⟨_,_,b3.extBut _ _ n2 pO2⟩,oK j1.1 fun o e=>b3.extBut _ _ n3 e,oK j2.1 fun o e=>b3.extBut _ _ n4 e⟩
  · intro b hb
    have:b≠s.heap.objs.size:=by
     obtain⟨o,e,_⟩:∃o,s.heap.get? b=some o∧True:=by
      simp only[List.mem_cons,List.not_mem_nil,or_false]at hb
      rcases hb with rfl|rfl|rfl|rfl|rfl
      · exact⟨_,Z,trivial⟩
      · exact⟨_,pI,trivial⟩
      · exact⟨_,pO,trivial⟩
      · obtain⟨o,e,_⟩:=mG i1;exact⟨o,e,trivial⟩
      · obtain⟨o,e,_⟩:=mG i2;exact⟨o,e,trivial⟩
     exact Nat.ne_of_lt (Heap.lt_size e)
    rw[ax this]
    exact(hf b hb).1
 done:=by
  intro X hP hw hK hc i pins s σ H E I hf st hg
  subst hP hw hK
  obtain⟨Z,pI,⟨a,b',pO⟩,i1,i2⟩:=st
  obtain⟨xs,ys,q1,q2,he⟩:=hg
  obtain⟨us,r1,l1⟩:=jS I q1
  obtain⟨vs,r2,l2⟩:=jS I q2
  have e1:=r1.length
  have e2:=r2.length
  have m1:=D.a1
  have m2:=D.a2
  simp only[List.mem_cons,not_or,List.not_mem_nil,not_false_eq_true,and_true]at m1 m2
  have tz:s.TypeIs (.ref z) "zip":=⟨_,Z,rfl⟩
  unfold pyNext
  refine wpAny_bind (wpAny_attempt (wpAny_callSpecial?_slot (name:=Str.ofString "__next__") tz F.slot_zip_next (wpAny_call_entry F.slot_zip_next tz F.entry_zip_next (Fm (I.ok.hd hc) D (mx k1 t1 a1 m1.2.2.2.1 us.toArray) (mx k2 t2 a2 m2.2.2.2.2 vs.toArray) Z pI pO ⟨i1,l1⟩ ⟨i2,l2⟩ ?_ fun k e kp hx=>?_) (F.args_zip_next_1 _))))
  · rcases he with h|h
    · left;simp;omega
    · right;simp;omega
  · obtain⟨o,ho,hc2⟩:=hx
    refine wpAny_bind (wpAny_isInstance (T:="StopIteration") (b:=true) ⟨o,ho,hc2⟩ isSubtype_stop ?_)
    refine wpAny_pure ⟨rfl,Gf (s:=s) (tk:=s.toks) I hf fun b o hb e=>?_⟩
    simp only[List.mem_cons,not_or,List.not_mem_nil,not_false_eq_true,and_true]at hb
    exact kp b o hb.1 hb.2.2.1 hb.2.2.2.1 hb.2.2.2.2 e
 self:=fun _ _ _ _ _ st h=>wpAny_pyIter_zip st.1 h
end L3
namespace L3
open PySem L2
open PySem.Spec hiding items?
open PyProof.Rows hiding St
noncomputable abbrev F2(h:Heap)(k1:SK)(a1:Addr):Heap:=h.push (yI k1 a1)
noncomputable abbrev Gd(h:Heap)(k1 k2:SK)(a1 a2:Addr):Heap:=(F2 h k1 a1).push (yI k2 a2)
noncomputable abbrev F_(h:Heap)(k1 k2:SK)(a1 a2:Addr):Heap:=(Gd h k1 k2 a1 a2).push {cls:= .type "tuple",data:= .seq #[.ref h.objs.size,.ref (F2 h k1 a1).objs.size]}
noncomputable abbrev FJ(h:Heap)(k1 k2:SK)(a1 a2:Addr):Heap:=(F_ h k1 k2 a1 a2).push {cls:= .type "tuple",data:= .seq #[.none,.none]}
noncomputable abbrev Al(h:Heap)(k1 k2:SK)(a1 a2:Addr):Heap:=(FJ h k1 k2 a1 a2).push {cls:= .type "zip",data:= .fields #[.none,.bool false,.bool false,.ref (Gd h k1 k2 a1 a2).objs.size,.ref (F_ h k1 k2 a1 a2).objs.size]}
theorem CF(k1 k2:SK)(a1 a2:Addr)(us vs:Array Value):Meets (Builtin.«zip.__new__» ⟨[.type "zip",.ref a1,.ref a2],[]⟩) (fun _ R s=>lD k1 s.heap a1 us∧lD k2 s.heap a2 vs∧
 R (.ok (.ret (.ref (FJ s.heap k1 k2 a1 a2).objs.size))) {s with heap:=Al s.heap k1 k2 a1 a2}):=
 .of_wp fun P w A R s h=>by
  obtain⟨hp,g,d,tk,os⟩:=s
  obtain⟨c1,c2,h⟩:=h
  have hsub:=sub_zip
  have L1:lD k1 (Shared.heap ⟨hp,g,d,tk,os⟩) a1 us:=c1
  have L2:lD k2 (Shared.heap ⟨hp.push (yI k1 a1),g,d,tk,os⟩) a2 vs:=lD.push c2 _
  wp_walk using Df L1,Df L2
  exact⟨_,rfl,h⟩
theorem Fy{P:Program}{w:World}{A:Around}{s:Shared}{E:Value→Shared→Prop}{k1 k2:SK}{a1 a2:Addr}{us vs:Array Value}{Q:Value→Shared→Prop}(c1:lD k1 s.heap a1 us)(c2:lD k2 s.heap a2 vs)
 (q:∀g n,n=s.heap.objs.size→IsZip g (n+4) (n+2) (n+3) .none→IsPair g (n+2) (.ref n) (.ref (n+1))→IsPair g (n+3) .none .none→p7 k1 n a1 0 g→p7 k2 (n+1) a2 0 g→(∀c o,s.heap.get? c=some o→g.get? c=some o)→Q (.ref (n+4)) {s with heap:=g}):
 wpAny (model P w) A (call (.type "zip") [.ref a1,.ref a2]) Q E s:=by
 refine callType_new F.called_zip (by decide) (F.typeCall_zip_2 _ _) (F.newCall_zip_2 _ _) (fun ob=>F.args_object_init_3 ob _ _) F.entry_zip_new (CF k1 k2 a1 a2 us vs) ⟨c1,c2,?_⟩
 have y1:(F2 s.heap k1 a1).objs.size=s.heap.objs.size+1:=Heap.size_push ..
 have y2:(Gd s.heap k1 k2 a1 a2).objs.size=s.heap.objs.size+2:=by rw[Heap.size_push,y1]
 have y3:(F_ s.heap k1 k2 a1 a2).objs.size=s.heap.objs.size+3:=by rw[Heap.size_push,y2]
 have y4:(FJ s.heap k1 k2 a1 a2).objs.size=s.heap.objs.size+4:=by rw[Heap.size_push,y3]
 have e5:(Al s.heap k1 k2 a1 a2).get? (FJ s.heap k1 k2 a1 a2).objs.size=some _:=Heap.get?_push_size _ rfl
 have e4:(Al s.heap k1 k2 a1 a2).get? (F_ s.heap k1 k2 a1 a2).objs.size=some _:=Heap.get?_push_of_some _ (Heap.get?_push_size _ rfl)
 have e3:(Al s.heap k1 k2 a1 a2).get? (Gd s.heap k1 k2 a1 a2).objs.size=some _:=Heap.get?_push_of_some _ (Heap.get?_push_of_some _ (Heap.get?_push_size _ rfl))
 have e2:(Al s.heap k1 k2 a1 a2).get? (F2 s.heap k1 a1).objs.size=some (yI k2 a2):=Heap.get?_push_of_some _ (Heap.get?_push_of_some _ (Heap.get?_push_of_some _ (Heap.get?_push_size _ (by cases k2<;>rfl))))
 have e1:(Al s.heap k1 k2 a1 a2).get? s.heap.objs.size=some (yI k1 a1):=Heap.get?_push_of_some _ (Heap.get?_push_of_some _ (Heap.get?_push_of_some _ (Heap.get?_push_of_some _ (Heap.get?_push_size _ (by cases k1<;>rfl)))))
 show _∧_
 rw[y2,y3,y4]at e5
 rw[y1,y2]at e3
 rw[y3]at e4
 rw[y1]at e2
 rw[y4]
 exact⟨⟨_,e5,rfl⟩,q _ _ rfl e5 e3 e4 (AN (h:=s.heap) e1) (AN (h:=s.heap) e2) fun c o x=>Heap.get?_push_of_some _ (Heap.get?_push_of_some _ (Heap.get?_push_of_some _ (Heap.get?_push_of_some _ (Heap.get?_push_of_some _ x))))⟩
noncomputable def FX:D→SK
 | .tup _=> .t
 |_=> .l
noncomputable def Dx(k:SK)(G:Hp)(a:Addr)(vs:List V):Prop:=match k with
 | .l=>Rd G a (.lst vs)
 | .t=>G a=some (.tup vs)
theorem i9{K:PySem.W.Frag}{k:SK}{G F H:Hp}(P:bU G F H){a:Addr}{vs:List V}(h:Dx k G a vs):o4 k K H a vs:=by
 cases k
 · exact .inl (fQ P h)
 · exact iz.of (P.get h)
theorem mX{α:List (Option Addr)}{H:Hp}{st:ag}{d:D}{v:V}{xs:List D}(S:aS α st H)(r:Rep α H d v)(e:items? st d=some xs):∃p vs,v= .ref p∧aK α H xs vs∧Dx (FX d) H p vs:=by
 cases d<;>try(cases e;done)
 · unfold items? at e
   simp only at e
   split at e
   · rename_i ys q
     cases e
     obtain⟨a,ea,vs,h1,h2⟩:=S.ja q
     exact⟨a,vs,dU ea r,h2,Rd.of h1⟩
   · cases e
 · cases e
   unfold Rep at r
   obtain⟨a,vs,rfl,_,h1,h2⟩:=r
   exact⟨a,vs,rfl,h2,h1⟩
 · cases e
   unfold Rep at r
   obtain⟨a,vs,rfl,_,h1,h2⟩:=r
   exact⟨a,vs,rfl,h2,h1⟩
noncomputable def fY(xs ys:List D):List D:=(xs.zip ys).map fun p=> .tup [p.1,p.2]
theorem pJ{xs ys:List D}:(fY xs ys).length=min xs.length ys.length:=by unfold fY;simp
theorem tP{xs ys:List D}{n:Nat}{d:D}(e:(fY xs ys)[n]?=some d):∃x y,xs[n]?=some x∧ys[n]?=some y∧d= .tup [x,y]:=by
 unfold fY at e
 rw[List.getElem?_map]at e
 cases q:(xs.zip ys)[n]? with
 |none=>rw[q]at e;cases e
 |some p=>
  rw[q]at e
  cases e
  rw[List.getElem?_zip_eq_some]at q
  exact⟨p.1,p.2,q.1,q.2,rfl⟩
theorem Jh{K:PySem.W.Frag}{k1 k2:SK}{a1 a2:Addr}{α:List (Option Addr)}{G:Hp}{ok:ag→Prop}{xs ys:List D}
 (h:∀α' G' st',Step α G α' G'→aS α' st' G'→ok st'→∃vs ws,Dx k1 G' a1 vs∧Dx k2 G' a2 ws∧aK α' G' xs vs∧aK α' G' ys ws):td (M3 K k1 k2 a1 a2) α G ok (fY xs ys) where
 stop:=fun n α' G' F' H' st' s P S o hn=>by
  obtain⟨vs,ws,h1,h2,r1,r2⟩:=h α' G' st' s S o
  rw[pJ]at hn
  refine⟨vs,ws,i9 P h1,i9 P h2,?_⟩
  have:=r1.length
  have:=r2.length
  omega
 go:=fun n d α' G' F' H' st' s P S o hn=>by
  obtain⟨vs,ws,h1,h2,r1,r2⟩:=h α' G' st' s S o
  obtain⟨x,y,ex,ey,rfl⟩:=tP hn
  obtain⟨v,ev,_⟩:=r1.get ex
  obtain⟨u,eu,_⟩:=r2.get ey
  exact⟨vs,ws,v,u,i9 P h1,i9 P h2,ev,eu⟩
 nR:=fun n d α' G' F' H' st' x H'' s P S o hn y=>by
  obtain⟨vs,ws,h1,h2,r1,r2⟩:=h α' G' st' s S o
  obtain⟨c,e,ec,ee,rfl⟩:=tP hn
  obtain⟨T,v,u,hT,rfl,rfl,y1,y2⟩:=y
  obtain⟨v',ev,rv⟩:=r1.get ec
  obtain⟨u',eu,ru⟩:=r2.get ee
  rw[y1 vs (i9 P h1)]at ev
  rw[y2 ws (i9 P h2)]at eu
  cases ev
  cases eu
  have hg:=(P.none hT).1
  refine⟨upd G' T (.tup [v,u]),Step.laid hg,P.laid hT,S.laid hg,?_⟩
  unfold Rep
  refine⟨T,[v,u],rfl,S.jP hg,a5,?_⟩
  unfold aK
  refine⟨v,[u],rfl,rv.step (Step.laid hg),?_⟩
  unfold aK
  exact⟨u,[],rfl,ru.step (Step.laid hg),by unfold aK;rfl⟩
noncomputable def E4(ds:List D)(st1:ag)(K:List D→(ag→Prop)→ag→Prop):Prop:=match ds with
 | [x,y]=>(match items? st1 x,items? st1 y with
   |some xs,some ys=>K (fY xs ys) (fun st'=>items? st' x=some xs∧items? st' y=some ys) st1
   |_,_=>False)
 |_=>False
@[irreducible] noncomputable def uw:List D→ag→(List D→(ag→Prop)→ag→Prop)→Prop:=E4
noncomputable def tN(t:DA):DI:=fun σ st K=>t σ st fun ds st1=>uw ds st1 K
theorem H_{n a1 a2:Nat}(h1:a1<n)(h2:a2<n):AK (n+4) (n+2) (n+3) n (n+1) a1 a2:=by
 have e0:([n+4,n+2,n+3,n,n+1]:List Nat).Nodup:=by
  simp only[List.nodup_cons,List.mem_cons,not_or,List.not_mem_nil,not_false_eq_true,and_true,List.nodup_nil]
  omega
 have e1:∀a:Nat,a<n→a∉([n+4,n+2,n+3,n,n+1]:List Nat):=fun a ha=>by
  simp only[List.mem_cons,not_or,List.not_mem_nil,not_false_eq_true,and_true]
  omega
 exact⟨e0,e1 a1 h1,e1 a2 h2⟩
theorem IZ{X:Cx}{a b:Expr}{elts:List Expr}{kx:Nat}{tpos p pos:Pos}{t:DA}(hg:Gl X "zip")(hm:X.mg "zip"=none)(ha:PA X [a,b] (LA t))(hs:starEach [a,b] X.env=[(false,eval a X.env),(false,eval b X.env)])(hs2:starEach [b] X.env=[(false,eval b X.env)]):
 PI X (.Tuple elts kx tpos) (.Call (.Name "zip" p) [a,b] [] pos) (LI (tN t)):=by
 intro pins s σ H R I h
 obtain⟨α,σd,st,K,G,F,P,RS,S,t,k⟩:=h
 refine Call_ (jO I hg hm boot_zip (PyProof.Rows.callWith_type1 (bO (ha pos pins s σ H (fun vs H1=>∃ds α1 G1 st1,Step α G α1 G1∧bU G1 F H1∧aS α1 st1 G1∧aK α1 G1 ds vs∧uw ds st1 K) I ⟨α,σd,st,_,G,F,P,RS,S,t,fun ds st1 q α1 G1 H1 vs s1 P1 S1 r1=>⟨ds,α1,G1,st1,s1,P1,S1,r1,q⟩⟩) fun us s1 ⟨vs,H1,I1,rv,ds,α1,G1,st1,w1,P1,S1,r1,q⟩=>?_) (by rw[hs,hs2]) (by rw[hs2];rfl)))
 unfold uw E4 at q
 split at q
 · rename_i x y
   split at q
   · rename_i xs ys ex ey
     obtain⟨v1,v2,rfl,q1,q2⟩:=rN r1 rfl
     obtain⟨p1,vs1,rfl,g1,c1⟩:=mX S1 q1 ex
     obtain⟨p2,vs2,rfl,g2,c2⟩:=mX S1 q2 ey
     obtain⟨u1,u2,rfl,ru1,ru2⟩:=vals2 rv
     cases ru1
     cases ru2
     obtain⟨its1,_,l1⟩:=jS I1 (i9 P1 c1)
     obtain⟨its2,_,l2⟩:=jS I1 (i9 P1 c2)
     refine Fy l1 l2 fun g n hn Z pI pO i1 i2 kp=>?_
     obtain⟨o1,eo1⟩:=l1.some
     obtain⟨o2,eo2⟩:=l2.some
     refine wpAny_pyIter_zip (s:={s1 with heap:=g}) Z ?_
     refine⟨n+4,[n+4,n+2,n+3,n,n+1],_,_,H1,rfl,I1.kept (t':=s1.toks) kp,EL (FX x) (FX y) (H_ (by rw[hn];exact Heap.lt_size eo1) (by rw[hn];exact Heap.lt_size eo2)),⟨Z,pI,⟨_,_,pO⟩,i1,i2⟩,fun b hb=>?_,?_⟩
     · have hb':s1.heap.objs.size≤b:=by
        simp only[List.mem_cons,List.not_mem_nil,or_false]at hb
        rcases hb with rfl|rfl|rfl|rfl|rfl<;>(rw[←hn];first|exact Nat.le_refl _|exact Nat.le_add_right _ _)
       exact I1.tX hb' (I1.aL.fresh hb')
     · refine k _ _ st1 q _ α1 G1 H1 w1 P1 S1 (Jh fun α' G' st' s' S' o=>?_)
       obtain⟨p1',ws1,e1,f1,d1⟩:=mX S' (q1.step s') o.1
       obtain⟨p2',ws2,e2,f2,d2⟩:=mX S' (q2.step s') o.2
       cases e1
       cases e2
       exact⟨ws1,ws2,d1,d2,f1,f2⟩
   · exact q.elim
 · exact q.elim
theorem qz{st:ag}{x y:D}{xs ys:List D}{K:List D→(ag→Prop)→ag→Prop}(ex:items? st x=some xs)(ey:items? st y=some ys)(k:∀ok:ag→Prop,(∀st',items? st' x=some xs→items? st' y=some ys→ok st')→K (fY xs ys) ok st):uw [x,y] st K:=by
 unfold uw E4
 simp only[ex,ey]
 exact k _ fun st' h1 h2=>⟨h1,h2⟩
theorem uC{X:Cx}{a b:Expr}{elts:List Expr}{kx:Nat}{tpos p pos:Pos}{ar:DA}(hg:Gl X "zip")(hm:X.mg "zip"=none)(ha:JA X [a,b] ar)(hs:notStar a=true:=by rfl)(hs2:notStar b=true:=by rfl):JI X (.Tuple elts kx tpos) (.Call (.Name "zip" p) [a,b] [] pos) (tN ar):=by
 unfold JI;unfold JA at ha;exact IZ hg hm ha (by rw[cD hs,cD hs2];rfl) (cD hs2)
end L3
namespace L3
open PySem L2
open PySem.Spec hiding items?
open PyProof.Rows hiding St
section
variable {X:Cx}
end
end L3
namespace L3
open PySem L2
open PySem.Spec hiding items?
open PyProof.Rows hiding St
section
variable {X:Cx}{pos:Pos}
theorem L6{α:List (Option Addr)}{H:Hp}{ds:List D}{xs:List V}{d e f:D}(r:aK α H ds xs)(q:ds=[d,e,f]):∃v u t,xs=[v,u,t]∧Rep α H d v∧Rep α H e u∧Rep α H f t:=by
 subst q
 unfold aK at r
 obtain⟨v,q,rfl,h1,h2⟩:=r
 obtain⟨u,t,rfl,h3,h4⟩:=rN h2 rfl
 exact⟨v,u,t,rfl,h1,h3,h4⟩
end
end L3
namespace L3
open PySem L2 PySem.SeqAt
open PySem.Spec hiding items?
open PyProof.Rows hiding St
section
variable {X:Cx}{pins:List (Addr×Obj)}{σ:L2.St}{H:Hp}{s:Shared}{α:List (Option Addr)}
theorem Ak{A:Around}{d e:D}{x y:V}{u v:Value}(hd:wK d=true)(he:wK e=true)(rd:Rep α H d x)(re:Rep α H e y)(rx:RelV x u)(ry:RelV y v):RcNeAt A s u v (!cz d e):=by
 cases d<;>cases e<;>try(first|(cases hd;done)|(cases he;done))
 all_goals(unfold Rep at rd re;subst rd re)
 all_goals(first|(obtain⟨t,rfl⟩:=rx;obtain⟨t',rfl⟩:=ry)|(obtain⟨t,rfl⟩:=rx;cases ry)|(cases rx;obtain⟨t,rfl⟩:=ry)|(cases rx;cases ry))
 all_goals unfold cz
 · exact RcNeAt.none_none
 · exact RcNeAt.none_bool _
 · exact RcNeAt.none_int _ _
 · exact RcNeAt.none_str _ _
 · exact RcNeAt.bool_none _
 · exact RcNeAt.bool_bool _ _
 · exact RcNeAt.bool_int _ _ _
 · exact RcNeAt.bool_str _ _ _
 · exact RcNeAt.int_none _ _
 · exact RcNeAt.int_bool _ _ _
 · exact RcNeAt.int_int _ _ _ _
 · exact RcNeAt.int_str _ _ _ _
 · exact RcNeAt.str_none _ _
 · exact RcNeAt.str_bool _ _ _
 · exact RcNeAt.str_int _ _ _ _
 · exact RcNeAt.str_str _ _ _ _
theorem wQ(I:Inv X pins σ H s){A:Around}{xs:List D}{e:D}{x y:V}{u v:Value}(he:wK e=true)(rd:Rep α H (.lst xs) x)(re:Rep α H e y)(rx:RelV x u)(ry:RelV y v)(hu:A.units<cLine):
 RcNeAt A s u v (!cz (.lst xs) e)∧RcNeAt A s v u (!cz e (.lst xs)):=by
 obtain⟨a,vs,au,rfl,_,_,hl⟩:=lst_is I rd rx
 cases e<;>try(cases he;done)
 all_goals(unfold Rep at re;subst re)
 all_goals(first|(obtain⟨t,rfl⟩:=ry)|(cases ry))
 all_goals unfold cz
 · exact⟨RcNeAt.list_none hl hu,RcNeAt.none_list hl hu⟩
 · exact⟨RcNeAt.list_bool _ hl hu,RcNeAt.bool_list _ hl hu⟩
 · exact⟨RcNeAt.list_int _ _ hl hu,RcNeAt.int_list _ _ hl hu⟩
 · exact⟨RcNeAt.list_str _ _ hl hu,RcNeAt.str_list _ _ hl hu⟩
theorem wV(I:Inv X pins σ H s){A:Around}{xs:List D}{e:D}{x y:V}{u v:Value}(he:wK e=true)(rd:Rep α H (.tup xs) x)(re:Rep α H e y)(rx:RelV x u)(ry:RelV y v)(hu:A.units<cLine):
 RcNeAt A s u v (!cz (.tup xs) e)∧RcNeAt A s v u (!cz e (.tup xs)):=by
 obtain⟨a,vs,au,rfl,_,_,hl⟩:=tup_is I rd rx
 cases e<;>try(cases he;done)
 all_goals(unfold Rep at re;subst re)
 all_goals(first|(obtain⟨t,rfl⟩:=ry)|(cases ry))
 all_goals unfold cz
 · exact⟨RcNeAt.tuple_none hl hu,RcNeAt.none_tuple hl hu⟩
 · exact⟨RcNeAt.tuple_bool _ hl hu,RcNeAt.bool_tuple _ hl hu⟩
 · exact⟨RcNeAt.tuple_int _ _ hl hu,RcNeAt.int_tuple _ _ hl hu⟩
 · exact⟨RcNeAt.tuple_str _ _ hl hu,RcNeAt.str_tuple _ _ hl hu⟩
theorem Mi(I:Inv X pins σ H s)(n:Nat)(A:Around)(d e:D)(x y:V)(u v:Value)(hd:pl n d=true)(he:pl n e=true)(rd:Rep α H d x)(re:Rep α H e y)(rx:RelV x u)(ry:RelV y v)(hu:A.units+n<cLine):RcNeAt A s u v (!cz d e):=by
 cases n with
 |zero=>
  refine Ak ?_ ?_ rd re rx ry
  · cases d<;>first|rfl|(cases hd)
  · cases e<;>first|rfl|(cases he)
 |succ n=>
  have hu0:A.units<cLine:=by omega
  have hin:A.in1.units+n<cLine:=by rw[Around.in1_units];omega
  cases d<;>try(cases hd;done)
  case lst xs=>
   cases e<;>try(cases he;done)
   case lst ys=>
    obtain⟨a,vs,au,rfl,r1,v1,l1⟩:=lst_is I rd rx
    obtain⟨b,ws,jts,rfl,r2,v2,l2⟩:=lst_is I re ry
    have e1:=r1.length
    have e2:=v1.length
    have e3:=r2.length
    have e4:=v2.length
    unfold cz
    by_cases hlen:xs.length=ys.length
    · rw[mZ hlen]
      have hsz:au.toArray.size=jts.toArray.size:=by simp only[List.size_toArray];omega
      have hx:xs.length=au.toArray.size:=by simp only[List.size_toArray];omega
      rw[hx]
      refine RcNeAt.lists l1 l2 hsz hu0 fun j h1 h2=>?_
      obtain⟨p,_,q1,q2⟩:=jD r1 v1 j (by simpa using h1)
      obtain⟨p',_,q1',q2'⟩:=jD r2 v2 j (by simpa using h2)
      exact(Ce I n A.in1 _ _ p p' _ _ (hO (by unfold pl at hd;exact hd) j) (hO (by unfold pl at he;exact he) j) q1 q1' (by simpa using q2) (by simpa using q2') hin).2
    · rw[nc hlen]
      exact RcNeAt.lists_lengths l1 l2 (by simp only[List.size_toArray,bne_iff_ne,ne_eq];omega) hu0
   case tup ys=>
    obtain⟨a,vs,au,rfl,r1,v1,l1⟩:=lst_is I rd rx
    obtain⟨b,ws,jts,rfl,r2,v2,l2⟩:=tup_is I re ry
    unfold cz
    exact RcNeAt.list_tuple l1 l2 hu0
   all_goals exact(wQ I rfl rd re rx ry hu0).1
  case tup xs=>
   cases e<;>try(cases he;done)
   case tup ys=>
    obtain⟨a,vs,au,rfl,r1,v1,l1⟩:=tup_is I rd rx
    obtain⟨b,ws,jts,rfl,r2,v2,l2⟩:=tup_is I re ry
    have e1:=r1.length
    have e2:=v1.length
    have e3:=r2.length
    have e4:=v2.length
    unfold cz
    have key:=RcNeAt.tuples (e:=fun j=>cz (xs.getD j .aE) (ys.getD j .aE)) l1 l2 hu0 fun j h1 h2=>by
     obtain⟨p,_,q1,q2⟩:=jD r1 v1 j (by simpa using h1)
     obtain⟨p',_,q1',q2'⟩:=jD r2 v2 j (by simpa using h2)
     exact(Ce I n A.in1 _ _ p p' _ _ (hO (by unfold pl at hd;exact hd) j) (hO (by unfold pl at he;exact he) j) q1 q1' (by simpa using q2) (by simpa using q2') hin).2
    by_cases hlen:xs.length=ys.length
    · rw[mZ hlen]
      have hsz:au.toArray.size=jts.toArray.size:=by simp only[List.size_toArray];omega
      have hx:xs.length=au.toArray.size:=by simp only[List.size_toArray];omega
      rw[hsz,Nat.min_self,beq_self_eq_true,Bool.and_true,←hsz,←hx]at key
      exact key
    · rw[nc hlen]
      have hne:(au.toArray.size==jts.toArray.size)=false:=by simp only[List.size_toArray,beq_eq_false_iff_ne,ne_eq];omega
      rw[hne,Bool.and_false]at key
      exact key
   case lst ys=>
    obtain⟨a,vs,au,rfl,r1,v1,l1⟩:=tup_is I rd rx
    obtain⟨b,ws,jts,rfl,r2,v2,l2⟩:=lst_is I re ry
    unfold cz
    exact RcNeAt.tuple_list l1 l2 hu0
   all_goals exact(wV I rfl rd re rx ry hu0).1
  all_goals
   cases e<;>try(cases he;done)
   case lst ys=>exact(wQ I rfl re rd ry rx hu0).2
   case tup ys=>exact(wV I rfl re rd ry rx hu0).2
   all_goals exact Ak rfl rfl rd re rx ry
noncomputable def IQ:dw:=fun x y st K=>pl 40 x=true∧pl 40 y=true∧K (.bl (!cz x y)) st
theorem MO{k:Nat}(hr:cJ k X.A):bX X (compareOp .NotEq) (LR IQ):=fun pins s σ H x y v u Q I rx ry ⟨α,d,e,st,K,G,F',P,r1,r2,S,q,k⟩=>by
 have hu:=hr.units
 exact Mi I 40 X.A d e x y v u q.1 q.2.1 (r1.mono P.same) (r2.mono P.same) rx ry (by omega) _ _ _ _ ⟨.bl (!cz d e),H,I,rfl,k.here P q.2.2 S (by unfold Rep;rfl)⟩
@[irreducible] noncomputable def vh:dw:=IQ
theorem Mr{k:Nat}(hr:cJ k X.A):bX X (compareOp .NotEq) (LR vh):=by unfold vh;exact MO hr
end
theorem IP{st:ag}{K:DK}{d e:D}(h1:pl 40 d=true)(h2:pl 40 e=true)(k:K (.bl (!cz d e)) st):vh d e st K:=by unfold vh;exact⟨h1,h2,k⟩
theorem FC{st:ag}{K:DK}{d:D}(h:pl 40 d=true)(k:K (.bl false) st):vh d d st K:=IP h h (by rw[pN 40 d h];exact k)
theorem Dr{st:ag}{n:Nat}{xs:List D}(h:items? st (.ref n)=some xs):st[n]?=some (.lst xs):=by
 unfold items? at h
 simp only at h
 split at h
 · rename_i q;cases h;exact q
 · cases h
end L3
namespace L3
open PySem L2
open PySem.Spec hiding items?
open PyProof.Rows hiding St
section
variable {X:Cx}
noncomputable def FT:dw:=fun x y st K=>match x,y with
 | .lst xs,.int k=>(-(2^63)≤k∧k<2^63∧xs.length*k.toNat≤sizeLine)∧K (.ref st.length) (st++[.lst (List.replicate k.toNat xs).flatten])
 |_,_=>False
theorem Ku:bX X (binaryOp .Mult) (LR FT):=fun pins s σ H x y v u Q I rx ry ⟨α,d,e,st,K,G,F',P,r1,r2,S,q,k⟩=>by
 cases d<;>cases e<;>try exact q.elim
 unfold Rep at r1 r2
 obtain⟨a,vs,rfl,na,ha,ra⟩:=r1
 refine Ay pins s σ H _ _ v u Q I rx ry ⟨a,_,vs,rfl,r2,fQ P ha,q.1.1,q.1.2.1,by rw[←ra.length];exact q.1.2.2,fun p hp=>?_⟩
 exact k.new P q.2 S (bc.mpr (kZ (bc.mp ra) _)) hp
@[irreducible] noncomputable def u_:dw:=FT
theorem Jy:bX X (binaryOp .Mult) (LR u_):=by unfold u_;exact Ku
end
theorem Hl{st:ag}{K:DK}{xs:List D}{i:Int}(h: -(2^63)≤i∧i<2^63∧xs.length*i.toNat≤sizeLine)(k:K (.ref st.length) (st++[.lst (List.replicate i.toNat xs).flatten])):u_ (.lst xs) (.int i) st K:=by unfold u_;exact⟨h,k⟩
theorem CL{n:Nat}{d:D}(h:d∈dS 0 n):∃i:Nat,i<n∧d= .int (i:Int):=by
 unfold dS at h
 obtain⟨i,hi,rfl⟩:=List.mem_map.mp h
 rw[List.mem_range]at hi
 exact⟨i,hi,by rw[Int.zero_add]⟩
theorem De{f:Nat→D}(n:Nat):(dS 0 n).map (fun d=>match d with| .int i=>f i.toNat|_=> .aE)=(List.range n).map f:=by
 unfold dS
 rw[List.map_map]
 refine List.map_congr_left fun i _=>?_
 show f ((0:Int)+(i:Int)).toNat=f i
 have:((0:Int)+(i:Int)).toNat=i:=by omega
 rw[this]
theorem pv{tg:fk}{te:DE}{σc:bV}{st:ag}{K:List D→ag→Prop}(f:Nat→D)(n:Nat)(hx:∀i:Nat,i<n→∀K',K' (f i) st→∃σ2,tg (.int (i:Int)) σc=some σ2∧te σ2 st K')(k:K ((List.range n).map f) st):cO tg cG te (fun _=>True) σc (dS 0 n) [] st K:=by
 refine comp_map (g:=fun d=>match d with| .int i=>f i.toNat|_=> .aE) trivial _ (fun d hd K' q=>?_) (by rw[De];exact k)
 obtain⟨i,hi,rfl⟩:=CL hd
 exact hx i hi K' q
theorem og{tg:fk}{body:DS}{E:mz}(n:Nat)(I:Nat→bV→ag→Prop)(hend:∀σ st,I n σ st→E.nx σ st)
 (hstep:∀(j:Nat) σ st (rest:List D),j<n→I j σ st→(∀σ' st',I (j+1) σ' st'→iy tg body (fun _=>True) E rest σ' st')→∃σ1,tg (.int (j:Int)) σ=some σ1∧body {E with nx:=iy tg body (fun _=>True) E rest,ct:=iy tg body (fun _=>True) E rest,bk:=E.nx} σ1 st)
 {σ:bV} {st:ag} (h0:I 0 σ st):iy tg body (fun _=>True) E (dS 0 n) σ st:=by
 refine gM (fun rest σ st=>∃j:Nat,j≤n∧rest=(List.range (n-j)).map (fun i=>D.int (((j+i:Nat):Int)))∧I j σ st) ?_ ?_ _ _ _ ⟨0,Nat.zero_le _,by unfold dS;simp,h0⟩
 · rintro σ st ⟨j,hj,hr,hI⟩
   have:n-j=0:=by
    cases q:n-j with
    |zero=>rfl
    |succ m=>rw[q,List.range_succ_eq_map]at hr;cases hr
   have hjn:j=n:=by omega
   subst hjn
   exact⟨trivial,hend σ st hI⟩
 · rintro d rest σ st ⟨j,hj,hr,hI⟩ next
   cases q:n-j with
   |zero=>rw[q]at hr;cases hr
   |succ m=>
    rw[q,List.range_succ_eq_map,List.map_cons,List.map_map]at hr
    simp only[List.cons.injEq]at hr
    obtain⟨rfl,hrest⟩:=hr
    refine⟨trivial,hstep j σ st rest (by omega) hI fun σ' st' h'=>next σ' st' ⟨j+1,by omega,?_,h'⟩⟩
    have:n-(j+1)=m:=by omega
    rw[this,hrest]
    refine List.map_congr_left fun i _=>?_
    show D.int (((j+(i+1):Nat):Int))=D.int (((j+1+i:Nat):Int))
    congr 2;omega
end L3
namespace L3
open PySem L2
open PySem.Spec hiding items?
open PyProof.Rows hiding St
section
variable {X:Cx}
end
section
variable {X:Cx}{pos:Pos}
end
end L3
namespace L3
open PySem L2
open PySem.Spec hiding items?
open PyProof.Rows hiding St
section
variable {X:Cx}
theorem vB{M:Model}{A:Around}{E:Value→Shared→Prop}{s:Shared}{Q:Value→Shared→Prop}{x:V}{v:Value}{b:Bool}(r:RelV x v)(h:Q (.bool (!(v== .bool b))) s):wpAny M A (compareOp .IsNot v (.bool b)) Q E s:=by
 cases x
 case bl c=>
  cases r
  cases c<;>cases b<;>exact wpAny_pure h
 all_goals first
  |(cases r;exact wpAny_pure h)
  |(obtain⟨t,rfl⟩:=r;exact wpAny_pure h)
noncomputable def zf:dw:=fun x y st K=>match y with| .aE=>live st x=true∧K (.bl (!MU x)) st| .bl b=>live st x=true∧K (.bl (!Ji x b)) st|_=>False
theorem EZ:bX X (compareOp .IsNot) (LR zf):=fun pins s σ H x y v u Q I rx ry ⟨α,d,e,st,K,G,F',P,r1,r2,S,q,k⟩=>by
 cases e<;>try exact q.elim
 · refine HX pins s σ H x y v u Q I rx ry ⟨α,d,.aE,st,K,G,F',P,r1,r2,S,⟨q.1,?_⟩,k⟩
   have q2:=q.2
   cases d<;>exact q2
 · rename_i b
   unfold Rep at r2
   subst r2
   cases ry
   refine vB rx ?_
   rw[Ih S q.1 r1 rx]
   exact⟨.bl (!Ji d b),H,I,rfl,k.here P q.2 S (by unfold Rep;rfl)⟩
@[irreducible] noncomputable def uZ:dw:=zf
theorem IH:bX X (compareOp .IsNot) (LR uZ):=by unfold uZ;exact EZ
end
section
variable {st:ag}{K:DK}{d:D}{b:Bool}
theorem CZ(h:live st d=true)(k:K (.bl (!MU d)) st):uZ d .aE st K:=by unfold uZ;exact⟨h,k⟩
end
end L3
namespace L3
open PySem L2
open PySem.Spec hiding items?
open PyProof.Rows hiding St
section
variable {X:Cx}
end
end L3
namespace L3
open PySem L2
open PySem.Spec hiding items?
open PyProof.Rows hiding St
open AutoSeq1 (wpAny_loadPart')
theorem Gy{P:Program}{w:World}{A:Around}(hh:A.handled=none)(k:SK)(t a:Addr)(hne:a≠t)(us:Array Value):Draws P w A t [t,a] us.size (fun i v=>us[i]?=some v) (fun n g=>p7 k t a n g∧lD k g a us) where
 live:=fun i h z=>((mx (P:=P) (w:=w) k t a hne us).lv i h z).1
 frame:=fun i h h' z kp=>(mx (P:=P) (w:=w) k t a hne us).fr i h h' z fun b hb o e=>kp b (by rcases hb with rfl|rfl<;>simp) o e
 item:=fun i s Q E hi z q=>(mx (P:=P) (w:=w) k t a hne us).nx i A s Q E us[i] z (by simp[hi]) fun g j sb=>q _ g s.toks (by simp[hi]) j sb
 done:=fun s Q E z q=>(mx (P:=P) (w:=w) k t a hne us).en us.size A s Q E hh z (by simp) q
theorem pC(l:Addr)(items:Array Value)(n:Nat)(dct:Option Addr)(sl:Array (Option Value)):
 Meets (Builtin.«enumerate.__new__» ⟨[.type "enumerate",.ref l],[]⟩) (fun _ R s=>s.heap.get? l=some {cls:= .type "tuple",dict:=dct,data:= .seq items n,slots:=sl}∧
  R (.ok (.ret (.ref (s.heap.push {cls:= .type "tuple_iterator",data:= .fields #[.ref l,.int 0 0]}).objs.size)))
   {s with heap:=(s.heap.push {cls:= .type "tuple_iterator",data:= .fields #[.ref l,.int 0 0]}).push {cls:= .type "enumerate",data:= .fields #[.none,.bool false,.ref s.heap.objs.size,rawInt 0,.none,.none]}}):=
 .of_wp fun prog w A R s h=>by
  obtain⟨hp,g,d,tk,os⟩:=s;obtain⟨hl,h⟩:=h
  have hsub:=sub_enumerate
  have hL:Heap.IsTuple (Shared.heap ⟨hp,g,d,tk,os⟩) l items:=⟨_,hl,rfl,n,rfl⟩
  wp_walk using wpAny_loadPart' hl
  refine wpAny_stack_any fun st=>wpAny_pure ?_
  split
  · rename_i c _ _ _ _ _
    cases (c==Value.type "enumerate")
    · wp_walk using wpAny_loadPart' hl,wpAny_pyIter_tuple hL
      exact⟨_,rfl,h⟩
    · wp_walk using wpAny_loadPart' hl,wpAny_pyIter_tuple hL
      exact⟨_,rfl,h⟩
  · wp_walk using wpAny_loadPart' hl,wpAny_pyIter_tuple hL
    exact⟨_,rfl,h⟩
theorem DH{P:Program}{w:World}{A:Around}{s:Shared}{E:Value→Shared→Prop}{k:SK}{a:Addr}{us:Array Value}{Q:Value→Shared→Prop}(c:lD k s.heap a us)
 (q:∀g,IsEnum g (s.heap.objs.size+1) s.heap.objs.size 0 .none→p7 k s.heap.objs.size a 0 g→(∀b o,s.heap.get? b=some o→g.get? b=some o)→Q (.ref (s.heap.objs.size+1)) {s with heap:=g}):
 wpAny (model P w) A (call (.type "enumerate") [.ref a]) Q E s:=by
 cases k
 · exact call_enumerate_list c fun g h1 h2 _ h4=>q g h1 h2 h4
 · obtain⟨⟨c,dct,dt,sl⟩,hl,hc,n,hd⟩:=c
   replace hc:c= .type "tuple":=hc
   replace hd:dt= .seq us n:=hd
   subst hc hd
   refine callType_new F.called_enumerate (by decide) (F.typeCall_enumerate_1 _) (F.newCall_enumerate_1 _) (fun obj=>F.args_object_init_2 obj _) F.entry_enumerate_new
    (pC a us n dct sl) ⟨hl,?_⟩
   have hz:(s.heap.push {cls:= .type "tuple_iterator",data:= .fields #[.ref a,.int 0 0]}).objs.size=s.heap.objs.size+1:=Heap.size_push ..
   show _∧_
   rw[hz]
   have he:IsEnum ((s.heap.push {cls:= .type "tuple_iterator",data:= .fields #[.ref a,.int 0 0]}).push
    {cls:= .type "enumerate",data:= .fields #[.none,.bool false,.ref s.heap.objs.size,rawInt 0,.none,.none]}) (s.heap.objs.size+1) s.heap.objs.size 0 .none:=by
    have:=Heap.get?_push_size (s.heap.push {cls:= .type "tuple_iterator",data:= .fields #[.ref a,.int 0 0]})
     (o:={cls:= .type "enumerate",data:= .fields #[.none,.bool false,.ref s.heap.objs.size,rawInt 0,.none,.none]}) rfl
    rw[hz]at this;exact this
   exact⟨⟨_,he,rfl⟩,q _ he ⟨_,Heap.get?_push_of_some _ (Heap.get?_push_size _ rfl),rfl,rfl⟩ fun b o x=>Heap.get?_push_of_some _ (Heap.get?_push_of_some _ x)⟩
noncomputable def MR(K:PySem.W.Frag)(k:SK)(a:Addr):It:=
 ⟨fun i H=>∃xs x,o4 k K H a xs∧xs[i]?=some x,
  fun i H v H'=>∃T x,H T=none∧v= .ref T∧H'=upd H T (.tup [.int (i:Int),x])∧∀xs,o4 k K H a xs→xs[i]?=some x,
  fun i H=>∃xs,o4 k K H a xs∧xs.length≤i⟩
noncomputable def Nu(e t a:Addr)(k:SK)(i:Nat)(h:Heap):Prop:=(∃old,IsEnum h e t i old)∧p7 k t a i h
theorem C2{P:Program}{w:World}{K:PySem.W.Frag}{elts:List Expr}{kx:Nat}{pos:Pos}{e t a:Addr}(k:SK)(n1:e≠t)(n2:a≠e)(n3:a≠t):
 Turn P w K (.Tuple elts kx pos) (MR K k a) [e,t] e (Nu e t a k) where
 mem:=by simp
 obj:=fun i h st b hb=>by
  obtain⟨⟨old,he⟩,i1⟩:=st
  simp only[List.mem_cons,List.not_mem_nil,or_false]at hb
  rcases hb with rfl|rfl
  · exact⟨_,he,fun v z=>by cases z⟩
  · exact mG i1
 keep:=fun i h h' st kp=>by
  obtain⟨⟨old,he⟩,i1⟩:=st
  exact⟨⟨old,kp e (by simp) _ he⟩,oK i1 (kp t (by simp))⟩
 item:=by
  intro X hP hw hK hc i pins s σ H E I hf st hg
  subst hP hw hK
  obtain⟨⟨old,he⟩,i1⟩:=st
  obtain⟨xs,x,q1,ex⟩:=hg
  obtain⟨us,r1,l1⟩:=jS I q1
  obtain⟨u,eu,ru⟩:=r1.get ex
  have hlt:i<us.toArray.size:=by
   have:=(List.getElem?_eq_some_iff.mp eu).1
   simpa using this
  refine wpAny_pyNext_enum_itemD (Gy (A:=X.A.in1) (show X.A.in1.handled=none from I.ok.hd hc) k t a n3 us.toArray) he ⟨i1,l1⟩ hlt n1 (by simp only[List.mem_cons,List.not_mem_nil,or_false,not_or];exact⟨n1,Ne.symm n2⟩) fun y h' tk py ho hs hT hsz kp=>⟨_,rfl,?_⟩
  have hy:y=u:=by
   have:us[i]?=some y:=by simpa using py
   rw[eu]at this;cases this;rfl
  subst hy
  refine wpAny_letOwnedTupleGo_enum (s:={s with heap:=h',toks:=tk+1}) ho fun k' he' sb=>?_
  have hTe:s.heap.objs.size≠e:=Nat.ne_of_gt (Heap.lt_size he)
  have kp3:∀b o,b∉[e,t]→s.heap.get? b=some o→k'.get? b=some o:=fun b o hb eb=>by
   simp only[List.mem_cons,not_or,List.not_mem_nil,not_false_eq_true,and_true]at hb
   exact sb.extBut _ _ hb.1 (kp b o hb.1 hb.2 eb)
  refine⟨.ref s.heap.objs.size,upd H s.heap.objs.size (.tup [.int (i:Int),x]),FG (s:=s) (tk:=tk+1) I hf kp3 (Nat.le_refl _) ?_,rfl,⟨s.heap.objs.size,x,I.aL.fresh (Nat.le_refl _),rfl,rfl,?_⟩,?_,?_⟩
  · refine⟨Nat.le_of_ble_eq_true rfl,[.int (i:Int) tk,y],.cons ⟨tk,rfl⟩ (.cons ru .nil),?_⟩
    exact⟨_,sb.extBut _ _ hTe hT,rfl,_,rfl⟩
  · intro xs' q'
    rw[vz I q' q1];exact ex
  · refine⟨⟨_,by simpa using he'⟩,oK hs.1 fun o eo=>sb.extBut _ _ (Ne.symm n1) eo⟩
  · intro b hb
    have:b≠s.heap.objs.size:=by
     obtain⟨o,eb⟩:∃o,s.heap.get? b=some o:=by
      simp only[List.mem_cons,List.not_mem_nil,or_false]at hb
      rcases hb with rfl|rfl
      · exact⟨_,he⟩
      · obtain⟨o,eo,_⟩:=mG i1;exact⟨o,eo⟩
     exact Nat.ne_of_lt (Heap.lt_size eb)
    rw[ax this]
    exact(hf b hb).1
 done:=by
  intro X hP hw hK hc i pins s σ H E I hf st hg
  subst hP hw hK
  obtain⟨⟨old,he⟩,i1⟩:=st
  obtain⟨xs,q1,hle⟩:=hg
  obtain⟨us,r1,l1⟩:=jS I q1
  have e1:=r1.length
  have tz:s.TypeIs (.ref e) "enumerate":=⟨_,he,rfl⟩
  unfold pyNext
  refine wpAny_bind (wpAny_attempt (wpAny_callSpecial?_slot (name:=Str.ofString "__next__") tz F.slot_enumerate_next (wpAny_call_entry F.slot_enumerate_next tz F.entry_enumerate_next ?_ (F.args_enumerate_next_1 _))))
  show wpAny _ _ (field (.ref e) 2 >>= _) _ _ _
  refine wpAny_bind (wpAny_field he rfl (x:= .ref t) rfl ?_)
  refine wpAny_bind ((mx k t a n3 us.toArray).en i _ s _ _ (I.ok.hd hc) ⟨i1,l1⟩ (by simp;omega) fun g x sb hx=>?_)
  obtain⟨o,ho,hc2⟩:=hx
  refine wpAny_bind (wpAny_isInstance (T:="StopIteration") (b:=true) ⟨o,ho,hc2⟩ isSubtype_stop ?_)
  refine wpAny_pure ⟨rfl,Gf (s:=s) (tk:=s.toks) I hf fun b o hb eb=>?_⟩
  simp only[List.mem_cons,not_or,List.not_mem_nil,not_false_eq_true,and_true]at hb
  exact sb b o hb.2 eb
 self:=fun _ _ _ _ _ st h=>wpAny_pyIter_enum st.1.choose_spec h
noncomputable def i7:Nat→List D→List D
 |_,[]=>[]
 |i,x::xs=> .tup [.int (i:Int),x]::i7 (i+1) xs
theorem wc:∀ {xs:List D} {i:Nat},(i7 i xs).length=xs.length
 | [],_=>rfl
 |_::xs,i=>by unfold i7;rw[List.length_cons,List.length_cons,wc]
theorem rB:∀ {xs:List D} {i n:Nat} {d:D},(i7 i xs)[n]?=some d→∃x,xs[n]?=some x∧d= .tup [.int ((i+n:Nat):Int),x]
 | [],_,_,_,e=>by unfold i7 at e;cases e
 |x::xs,i,0,d,e=>by
  unfold i7 at e
  rw[List.getElem?_cons_zero]at e
  cases e
  exact⟨x,rfl,rfl⟩
 |x::xs,i,n+1,d,e=>by
  unfold i7 at e
  rw[List.getElem?_cons_succ]at e
  obtain⟨y,h1,h2⟩:=rB e
  refine⟨y,by rw[List.getElem?_cons_succ];exact h1,?_⟩
  rw[h2,show i+1+n=i+(n+1) by omega]
theorem Iu{K:PySem.W.Frag}{k:SK}{a:Addr}{α:List (Option Addr)}{G:Hp}{ok:ag→Prop}{xs:List D}
 (h:∀α' G' st',Step α G α' G'→aS α' st' G'→ok st'→∃vs,Dx k G' a vs∧aK α' G' xs vs):td (MR K k a) α G ok (i7 0 xs) where
 stop:=fun n α' G' F' H' st' s P S o hn=>by
  obtain⟨vs,h1,r1⟩:=h α' G' st' s S o
  rw[wc]at hn
  refine⟨vs,i9 P h1,?_⟩
  have:=r1.length
  omega
 go:=fun n d α' G' F' H' st' s P S o hn=>by
  obtain⟨vs,h1,r1⟩:=h α' G' st' s S o
  obtain⟨x,ex,rfl⟩:=rB hn
  obtain⟨v,ev,_⟩:=r1.get ex
  exact⟨vs,v,i9 P h1,ev⟩
 nR:=fun n d α' G' F' H' st' x H'' s P S o hn y=>by
  obtain⟨vs,h1,r1⟩:=h α' G' st' s S o
  obtain⟨c,ec,rfl⟩:=rB hn
  obtain⟨T,v,hT,rfl,rfl,y1⟩:=y
  obtain⟨v',ev,rv⟩:=r1.get ec
  rw[y1 vs (i9 P h1)]at ev
  cases ev
  have hg:=(P.none hT).1
  refine⟨upd G' T (.tup [.int (n:Int),v]),Step.laid hg,P.laid hT,S.laid hg,?_⟩
  unfold Rep
  refine⟨T,[.int (n:Int),v],rfl,S.jP hg,a5,?_⟩
  unfold aK
  refine⟨.int (n:Int),[v],rfl,?_,?_⟩
  · unfold Rep;rw[Nat.zero_add]
  unfold aK
  exact⟨v,[],rfl,rv.step (Step.laid hg),by unfold aK;rfl⟩
noncomputable def Bs(ds:List D)(st1:ag)(K:List D→(ag→Prop)→ag→Prop):Prop:=match ds with
 | [x]=>(match items? st1 x with
   |some xs=>K (i7 0 xs) (fun st'=>items? st' x=some xs) st1
   |_=>False)
 |_=>False
@[irreducible] noncomputable def qo:List D→ag→(List D→(ag→Prop)→ag→Prop)→Prop:=Bs
noncomputable def BK(t:DA):DI:=fun σ st K=>t σ st fun ds st1=>qo ds st1 K
theorem CG:bootBuiltins "enumerate"=some (.type "enumerate"):=by decide+kernel
theorem HI{X:Cx}{a:Expr}{elts:List Expr}{kx:Nat}{tpos p pos:Pos}{t:DA}(hg:Gl X "enumerate")(hm:X.mg "enumerate"=none)(ha:PA X [a] (LA t))(hs:starEach [a] X.env=[(false,eval a X.env)]):
 PI X (.Tuple elts kx tpos) (.Call (.Name "enumerate" p) [a] [] pos) (LI (BK t)):=by
 intro pins s σ H R I h
 obtain⟨α,σd,st,K,G,F,P,RS,S,t,k⟩:=h
 refine Call_ (jO I hg hm CG (PyProof.Rows.callWith_type1 (bO (ha pos pins s σ H (fun vs H1=>∃ds α1 G1 st1,Step α G α1 G1∧bU G1 F H1∧aS α1 st1 G1∧aK α1 G1 ds vs∧qo ds st1 K) I ⟨α,σd,st,_,G,F,P,RS,S,t,fun ds st1 q α1 G1 H1 vs s1 P1 S1 r1=>⟨ds,α1,G1,st1,s1,P1,S1,r1,q⟩⟩) fun us s1 ⟨vs,H1,I1,rv,ds,α1,G1,st1,w1,P1,S1,r1,q⟩=>?_) (by rw[hs];rfl) (by rfl)))
 unfold qo Bs at q
 split at q
 · rename_i x
   split at q
   · rename_i xs ex
     obtain⟨v1,rfl,q1⟩:=i8 r1 rfl
     obtain⟨p1,vs1,rfl,g1,c1⟩:=mX S1 q1 ex
     obtain⟨u1,rfl,ru1⟩:=vals1 rv
     cases ru1
     obtain⟨its1,_,l1⟩:=jS I1 (i9 P1 c1)
     refine DH l1 fun g he i1 kp=>?_
     obtain⟨o1,eo1⟩:=l1.some
     have hp1:p1<s1.heap.objs.size:=Heap.lt_size eo1
     refine wpAny_pyIter_enum (s:={s1 with heap:=g}) he ?_
     refine⟨s1.heap.objs.size+1,[s1.heap.objs.size+1,s1.heap.objs.size],_,_,H1,rfl,I1.kept (t':=s1.toks) kp,C2 (FX x) (Nat.ne_of_gt (Nat.lt_succ_self _)) (Nat.ne_of_lt (Nat.lt_succ_of_lt hp1)) (Nat.ne_of_lt hp1),⟨⟨_,he⟩,i1⟩,fun b hb=>?_,?_⟩
     · have hb':s1.heap.objs.size≤b:=by
        simp only[List.mem_cons,List.not_mem_nil,or_false]at hb
        rcases hb with rfl|rfl
        · exact Nat.le_succ _
        · exact Nat.le_refl _
       exact I1.tX hb' (I1.aL.fresh hb')
     · refine k _ _ st1 q _ α1 G1 H1 w1 P1 S1 (Iu fun α' G' st' s' S' o=>?_)
       obtain⟨p1',ws1,e1,f1,d1⟩:=mX S' (q1.step s') o
       cases e1
       exact⟨ws1,d1,f1⟩
   · exact q.elim
 · exact q.elim
theorem HV{st:ag}{x:D}{xs:List D}{K:List D→(ag→Prop)→ag→Prop}(ex:items? st x=some xs)(k:∀ok:ag→Prop,(∀st',items? st' x=some xs→ok st')→K (i7 0 xs) ok st):qo [x] st K:=by
 unfold qo Bs
 simp only[ex]
 exact k _ fun st' h1=>h1
theorem KU{X:Cx}{a:Expr}{elts:List Expr}{kx:Nat}{tpos p pos:Pos}{ar:DA}(hg:Gl X "enumerate")(hm:X.mg "enumerate"=none)(ha:JA X [a] ar)(hs:notStar a=true:=by rfl):JI X (.Tuple elts kx tpos) (.Call (.Name "enumerate" p) [a] [] pos) (BK ar):=by
 unfold JI;unfold JA at ha;exact HI hg hm ha (cD hs)
end L3
namespace L3
open PySem L2
open PySem.Spec hiding items?
open PyProof.Rows hiding St
section
variable {prog:Program}{w:World}{A:Around}{E:Value→Shared→Prop}{s:Shared}
end
section
variable {X:Cx}{tg:Expr}
end
end L3
namespace L3
open PySem L2
open PySem.Spec hiding items?
open PyProof.Rows hiding St
section
variable {X:Cx}
end
end L3
namespace L3
open PySem L2
open PySem.Spec hiding items?
open PyProof.Rows hiding St
section
variable {X:Cx}
end
end L3
namespace L3
open PySem L2
open PySem.Spec hiding items?
open PyProof.Rows hiding St
open PySem PySem.Spec L2 PySem.SeqAt
section
variable {X:Cx}
end
end L3
namespace L3
open PySem L2
open PySem.Spec hiding items?
open PyProof.Rows hiding St
section
variable {X:Cx}
end
end L3
namespace L3
open PySem L2
open PySem.Spec hiding items?
open PyProof.Rows hiding St
section
variable {X:Cx}
end
section
variable {X:Cx}
end
end L3
namespace L3
open PySem L2
open PySem.Spec hiding items?
open PyProof.Rows hiding St
section
variable {X:Cx}
end
end L3
namespace L3
open PySem L2
open PySem.Spec hiding items?
open PyProof.Rows hiding St
section
variable {X:Cx}
end
end L3
namespace L3
open PySem L2
open PySem.Spec hiding items?
open PyProof.Rows hiding St
section
variable {P:Program}{w:World}
section
variable {z ti to t1 t2 t3 a1 a2 a3:Addr}
end
end
end L3
namespace L3
open PySem L2
open PySem.Spec hiding items?
open PyProof.Rows hiding St
end L3
namespace L3
open PySem L2
open PySem.Spec hiding items?
open PyProof.Rows hiding St
section
variable {X:Cx}
end
end L3
namespace L3
open PySem L2
open PySem.Spec hiding items?
open PyProof.Rows hiding St
open Sem (wp)
section
variable {prog:Program}{w:World}{A:Around}{s:Shared}{E:Value→Shared→Prop}
end
section
variable {prog:Program}{w:World}{A:Around}{R:Result→Shared→Prop}{I:Addr}{fp wr:List Addr}{G:Array GenState→Array GenState→Prop}{n:Nat}{P:Nat→Value→Prop}{Sx:Nat→Shared→Prop}
end
section
variable {prog:Program}{w:World}{A:Around}{E:Value→Shared→Prop}{s:Shared}
end
section
variable {X:Cx}{pins:List (Addr×Obj)}{σ:L2.St}{H:Hp}{s:Shared}{α:List (Option Addr)}
end
end L3
namespace L3
open PySem L2
open PySem.Spec hiding items?
open PyProof.Rows hiding St
section
variable {X:Cx}
noncomputable def xq:fZ:=fun ds st K=>match ds with| [.lst xs]=>(match fy xs with|some bs=>K (.bl (bs.any id)) st|none=>False)|_=>False
theorem range_any{α:Type}(l:List α)(f:α→Bool)(tr:Nat→Bool)(h:∀i x,l[i]?=some x→tr i=f x):(List.range l.length).any tr=l.any f:=by
 induction l generalizing tr with
 |nil=>rfl
 |cons a l ih=>
  rw[List.length_cons,List.range_succ_eq_map,List.any_cons,List.any_cons,List.any_map,h 0 a rfl]
  congr 1
  exact ih (tr∘Nat.succ) fun i x e=>h (i+1) x (by simpa using e)
theorem Mg(hc:X.calm=true):cx X (.builtin "any") (iu xq):=fun pins s σ H xs us Q I rs ⟨α,ds,st,K,G,F',P,r,S,q,k⟩=>by
 unfold xq at q
 split at q
 · rename_i ys
   split at q
   · rename_i bs e
     obtain⟨v,rfl,r1⟩:=i8 r rfl
     unfold Rep at r1
     obtain⟨a,vs,rfl,na,h1,h2⟩:=r1
     obtain⟨u,rfl,ru⟩:=vals1 rs
     cases ru
     have hv:=pR h2 e
     subst hv
     obtain⟨z,au,n,rv,hl,eo⟩:=Inv.vH I (fQ P h1)
     have hits:=pV rv
     subst hits
     have isL:s.heap.IsList a (bs.map Value.bool).toArray:=⟨_,eo,rfl,n,rfl⟩
     refine call_any_walk (wpAny_pyIter_list isL ?_)
     have hne:a≠s.heap.objs.size:=Nat.ne_of_lt (Heap.lt_size eo)
     refine⟨s.heap.objs.size,_,_,_,_,_,fun i=>(bs[i]?).getD true,rfl,Walks.list (A:=X.A.in1) (I.ok.hd hc) _ a hne (bs.map Value.bool).toArray,⟨⟨_,Heap.get?_push_size _ rfl,rfl,rfl⟩,⟨_,Heap.get?_push_of_some _ eo,rfl,n,rfl⟩⟩,?_,?_⟩
     · intro i w s' Q' E' hP hQ
       rw[List.getElem?_toArray,List.getElem?_map]at hP
       cases zb:bs[i]? with
       |none=>rw[zb]at hP;cases hP
       |some b=>
        rw[zb]at hP
        cases hP
        simp only[zb]at hQ
        exact wpAny_truthy_bool hQ
     · intro h' tk hk
       have kp:∀b o,s.heap.get? b=some o→h'.get? b=some o:=fun b o q=>hk b o (by
        intro hb
        have:b=s.heap.objs.size:=by simpa using hb
        exact absurd (Heap.lt_size q) (by rw[this];exact Nat.lt_irrefl _)) (Heap.get?_push_of_some _ q)
       have ea:(List.range (bs.map Value.bool).toArray.size).any (fun i=>(bs[i]?).getD true)=bs.any id:=by
        rw[List.size_toArray,List.length_map]
        exact range_any bs id _ fun i x e=>by rw[e];rfl
       rw[ea]
       exact⟨.bl (bs.any id),H,I.kept (t':=tk) kp,rfl,k.here P q S (by unfold Rep;rfl)⟩
   · exact q.elim
 · exact q.elim
@[irreducible] noncomputable def yX:fZ:=xq
theorem Lo(hc:X.calm=true):cx X (.builtin "any") (iu yX):=by unfold yX;exact Mg hc
end
theorem Jv{st:ag}{K:DK}{xs:List D}{bs:List Bool}(h:fy xs=some bs)(k:K (.bl (bs.any id)) st):yX [.lst xs] st K:=by unfold yX xq;simp only[h];exact k
end L3
namespace L3
open PySem L2
open PySem.Spec hiding items?
open PyProof.Rows hiding St
noncomputable def putD(f:Str)(v:D):List (Str×D)→List (Str×D)
 | []=>[(f,v)]
 |(g,x)::r=>if g=f then(g,v)::r else(g,x)::putD f v r
theorem jh.look{α:List (Option Addr)}{H:Hp}{f:Str}{v:D}:∀ {fs:List (Str×D)} {vs:List (Str×V)},jh α H fs vs→fs.lookup f=some v→∃u,vs.lookup f=some u∧Rep α H v u
 | [],_,_,e=>by cases e
 |(g,x)::fs,_,.cons (b:=q) h t,e=>by
  obtain⟨g',y⟩:=q
  obtain⟨h1,h2⟩:=h
  simp only at h1 h2
  subst h1
  rw[List.lookup_cons]at e⊢
  cases hb:f==g with
  |true=>rw[hb]at e;cases e;exact⟨y,rfl,h2⟩
  |false=>rw[hb]at e;exact jh.look t e
theorem jh.none{α:List (Option Addr)}{H:Hp}{f:Str}:∀ {fs:List (Str×D)} {vs:List (Str×V)},jh α H fs vs→fs.lookup f=Option.none→vs.lookup f=Option.none
 | [],_,.nil,_=>rfl
 |(g,x)::fs,_,.cons (b:=q) h t,e=>by
  obtain⟨g',y⟩:=q
  obtain⟨h1,h2⟩:=h
  simp only at h1 h2
  subst h1
  rw[List.lookup_cons]at e⊢
  cases hb:f==g with
  |true=>rw[hb]at e;cases e
  |false=>rw[hb]at e;exact jh.none t e
theorem jh.put{α:List (Option Addr)}{H:Hp}{f:Str}{d:D}{v:V}(r:Rep α H d v):∀ {fs:List (Str×D)} {vs:List (Str×V)},jh α H fs vs→jh α H (putD f d fs) (f_ f v vs)
 | [],_,.nil=> .cons ⟨rfl,r⟩ .nil
 |(g,x)::fs,_,.cons (b:=q) h t=>by
  obtain⟨g',y⟩:=q
  obtain⟨h1,h2⟩:=h
  simp only at h1 h2
  subst h1
  unfold putD f_
  by_cases hb:g=f
  · rw[if_pos hb,if_pos hb];exact .cons ⟨rfl,r⟩ t
  · rw[if_neg hb,if_neg hb];exact .cons ⟨rfl,h2⟩ (jh.put r t)
noncomputable def E9(C:Addr)(f:Str)(d:D)(st:ag)(K:DK):Prop:=match d with
 | .ref n=>(match st[n]? with|some (.ins C' fs)=>C'=C∧∃v,fs.lookup f=some v∧K v st|_=>False)
 |_=>False
@[irreducible] noncomputable def BQ(C:Addr)(f:Str):D→ag→DK→Prop:=E9 C f
noncomputable def dB(C:Addr)(f:Str)(te:DE):DE:=fun σ st K=>te σ st fun d st1=>BQ C f d st1 K
theorem cA{C:Addr}{f:Str}{n:Nat}{st:ag}{K:DK}{fs:List (Str×D)}{v:D}(e:st[n]?=some (.ins C fs))(h:fs.lookup f=some v)(k:K v st):BQ C f (.ref n) st K:=by
 unfold BQ E9;simp only[e];exact⟨trivial,v,h,k⟩
noncomputable def BE(C:Addr)(f:Str)(x d:D)(st:ag)(K:ag→Prop):Prop:=match x with
 | .ref n=>(match st[n]? with|some (.ins C' fs)=>C'=C∧fs.length<1000∧K (st.set n (.ins C (putD f d fs)))|_=>False)
 |_=>False
@[irreducible] noncomputable def xl(C:Addr)(f:Str):D→D→ag→(ag→Prop)→Prop:=BE C f
noncomputable def nG(C:Addr)(f:Str)(to te:DE):DS:=fun D σ st=>te σ st fun d st1=>to σ st1 fun x st2=>xl C f x d st2 fun st3=>D.nx σ st3
theorem mI{C:Addr}{f:Str}{n:Nat}{d:D}{st:ag}{K:ag→Prop}{fs:List (Str×D)}(e:st[n]?=some (.ins C fs))(h:fs.length<1000)(k:K (st.set n (.ins C (putD f d fs)))):xl C f (.ref n) d st K:=by
 unfold xl BE;simp only[e];exact⟨trivial,h,k⟩
noncomputable def A3(C:Addr)(m:Str)(x:D)(st:ag)(k:Prop):Prop:=match x with
 | .ref n=>(match st[n]? with|some (.ins C' fs)=>C'=C∧fs.lookup m=none∧k|_=>False)
 |_=>False
@[irreducible] noncomputable def xD(C:Addr)(m:Str):D→ag→Prop→Prop:=A3 C m
theorem jJ{C:Addr}{m:Str}{n:Nat}{st:ag}{k:Prop}{fs:List (Str×D)}(e:st[n]?=some (.ins C fs))(h:fs.lookup m=none)(q:k):xD C m (.ref n) st k:=by
 unfold xD A3;simp only[e];exact⟨trivial,h,q⟩
noncomputable def i3(C:Addr)(m:Str)(S:bW)(to:DE)(t:DA):DE:=fun σ st K=>to σ st fun x st1=>xD C m x st1 (t σ st1 fun ds st2=>S (x::ds) st2 K)
noncomputable def BD(C:Addr)(S:bW)(t:DA):DE:=fun σ st K=>t σ st fun ds st1=>S (.ref st1.length::ds) (st1++[.ins C []]) fun r st2=>r= .aE∧K (.ref st1.length) st2
section
variable {X:Cx}{C f g:Addr}{fd:FuncData}{k:Nat}{x m fl:Str}{e o value:Expr}{es:List Expr}{p pos pos' apos:Pos}{te to:DE}{t:DA}{S:bW}{ps:List Str}
theorem Ms(c:nz X.K C)(na:fD X.K C fl)(he:PE X e (LE te))(hb:attributeBase e fl X.env (eval e X.env)=eval e X.env):PE X (.Attribute e fl pos) (LE (dB C fl te)):=PE.imp (Jc he hb) fun σ H Q ⟨α,σd,st,K,G,F,P,R,S,t,k⟩=>by
 refine⟨α,σd,st,_,G,F,P,R,S,t,fun d st1 q α1 G1 H1 v s1 P1 S1 r1=>?_⟩
 unfold BQ E9 at q
 cases d<;>try exact q.elim
 simp only at q
 split at q
 · rename_i C' fs e'
   obtain⟨rfl,w,hw,q⟩:=q
   obtain⟨a,ea,dx,vs,h1,h2⟩:=S1.xC e'
   have r1':=dU ea r1
   subst r1'
   obtain⟨u,hu,ru⟩:=h2.look hw
   exact⟨a,_,dx,vs,u,rfl,P1.get h1,c,na,hu,(k.at s1).here P1 q S1 ru⟩
 · exact q.elim
theorem Lf(c:nz X.K C)(na:fD X.K C fl)(ho:PE X o (LE to))(hv:PE X value (LE te))(hs:swapsWith value (some (.Attribute o fl pos')) pos.line X.env=pure false):PS X (.Assign [.Attribute o fl pos'] value pos) (LS (nG C fl to te)):=PS.imp (KW ho hv hs) fun D σ H ⟨α,σd,st,DD,G,F,P,R,S,t,k⟩=>by
 refine⟨α,σd,st,_,G,F,P,R,S,t,fun d st1 q α1 G1 H1 v s1 P1 S1 r1=>?_⟩
 refine⟨α1,σd,st1,_,G1,F,P1,R.step s1,S1,q,fun x st2 q2 α2 G2 H2 v2 s2 P2 S2 r2=>?_⟩
 unfold xl BE at q2
 cases x<;>try exact q2.elim
 simp only at q2
 split at q2
 · rename_i C' fs e'
   obtain⟨rfl,hl,q2⟩:=q2
   obtain⟨a,ea,dx,vs,h1,h2⟩:=S2.xC e'
   have r2':=dU ea r2
   subst r2'
   have hm:some a∈α2:=List.mem_of_getElem? ea
   have lv:vs.length<1000:=by rw[←h2.length];exact hl
   refine⟨a,_,dx,vs,rfl,P2.get h1,c,na,lv,?_⟩
   refine((k.nx.at s1).at s2) σd _ q2 α2 (upd G2 a (.ins _ dx (f_ fl v vs))) _ σ (Step.write hm) (P2.write h1) (((R.step s1).step s2).step (Step.write hm)) ?_
   exact S2.write ea ⟨dx,f_ fl v vs,a5,(h2.put (r1.step s2)).step (Step.write hm)⟩
 · exact q2.elim
theorem LE.MA{σ:L2.St}{H:Hp}{Q:VK}(h:LE (i3 C m S to t) σ H Q):Ga C m (cn S) [] E0 (LE to) (LA t) σ H Q:=by
 obtain⟨α,σd,st,K,G,F,P,R,Sr,tt,k⟩:=h
 refine⟨α,σd,st,_,G,F,P,R,Sr,tt,fun d st1 q α1 G1 H1 v s1 P1 S1 r1=>?_⟩
 unfold xD A3 at q
 cases d<;>try exact q.elim
 simp only at q
 split at q
 · rename_i n C' fs e'
   obtain⟨rfl,hl,q⟩:=q
   obtain⟨a,ea,dx,vs,h1,h2⟩:=S1.xC e'
   have r1':=dU ea r1
   subst r1'
   refine⟨a,dx,vs,rfl,P1.get h1,h2.none hl,?_⟩
   refine⟨α1,σd,st1,_,G1,F,P1,R.step s1,S1,q,fun ds st2 q2 α2 G2 H2 us s2 P2 S2 r2=>?_⟩
   try dsimp only
   rw[List.append_nil]
   exact⟨α2,_,st2,K,G2,F,P2,by unfold aK;exact⟨_,_,rfl,r1.step s2,r2⟩,S2,q2,(k.at s1).at s2⟩
 · exact q.elim
theorem LE.make{σ:L2.St}{H:Hp}{Q:VK}(h:LE (BD C S t) σ H Q):F1 C (cn S) [] E0 (LA t) σ H Q:=by
 obtain⟨α,σd,st,K,G,F,P,R,Sr,tt,k⟩:=h
 refine⟨α,σd,st,_,G,F,P,R,Sr,tt,fun ds st1 q α1 G1 H1 us s1 P1 S1 r1=>?_⟩
 intro x dx hx hdx hne
 have hgd:=(P1.none hdx).1
 have P2:=P1.laid (o:= .own x) hdx
 have S2:=S1.laid (o:= .own x) hgd
 have hx2:upd H1 dx (.own x) x=none:=by rw[ax (Ne.symm hne)];exact hx
 have hg2:=(P2.none hx2).1
 have P3:=P2.laid (o:= .ins C dx []) hx2
 have S3:=S2.cell (o:= .ins C dx []) (c:= .ins C []) hg2 ⟨dx,[],a5,.nil⟩
 have s2:Step α1 G1 α1 (upd G1 dx (.own x)):=Step.laid hgd
 have s3:Step α1 (upd G1 dx (.own x)) (α1++[some x]) (upd (upd G1 dx (.own x)) x (.ins C dx [])):=Step.cell hg2
 have rx:Rep (α1++[some x]) (upd (upd G1 dx (.own x)) x (.ins C dx [])) (.ref st1.length) (.ref x):=by
  unfold Rep
  refine .inr ⟨x,?_,rfl⟩
  rw[List.getElem?_append_right (by rw[S1.len];exact Nat.le_refl _),S1.len,Nat.sub_self]
  rfl
 rw[List.append_nil]
 refine⟨α1++[some x],.ref st1.length::ds,st1++[.ins C []],_,_,F,P3,by unfold aK;exact⟨_,_,rfl,rx,(r1.step s2).step s3⟩,S3,q,fun d st2 q2 α' G' H' v s' P' S' r'=>?_⟩
 obtain⟨rfl,q2⟩:=q2
 unfold Rep at r'
 exact⟨r',(((k.at s1).at s2).at s3) _ st2 q2 α' G' H' _ s' P' S' (rx.step s')⟩
end
end L3
namespace L3
open PySem L2
open PySem.Spec hiding items?
open PyProof.Rows hiding St
noncomputable def Le(a:Int)(n:Nat):It:=⟨fun i _=>i<n,fun i H x H'=>H'=H∧x= .int (a+(i:Nat)*(-1)),fun i _=>n≤i⟩
theorem DJ{P:Program}{w:World}{K:PySem.W.Frag}{tg:Expr}(it:Addr)(a:Int)(n:Nat):Turn P w K tg (Le a n) [it] it (fun i h=>IsRangeIter h it (a+(i:Nat)*(-1)) ((n:Int)-(i:Nat)) (-1)) where
 mem:=by simp
 obj:=fun i h st b hb=>by
  have e:b=it:=by simpa using hb
  subst e
  exact⟨_,st,fun v z=>by
   have z':Data.fields _=Data.cell v:=z
   cases z'⟩
 keep:=fun i h h' st k=>k it (by simp) _ st
 item:=by
  intro X hP hw hK hc i pins s σ H E I hf st hg
  subst hP hw hK
  obtain⟨f0,f1,f2,f3,f4,f5⟩:=hf it (by simp)
  have W:=Walks.range (prog:=X.prog) (w:=X.w) (I.ok.hd hc) it a (-1) n
  refine W.item i s _ _ hg st fun v h' tk hv st' kk=>?_
  obtain⟨t,rfl⟩:=hv
  have I1:Inv X pins σ H {s with heap:=h',toks:=tk}:=I.turned (fun b o hb e=>kk b o (by simpa using hb) e) f0 f1 f3 f4 f5
  exact⟨_,rfl,xn (s:={s with heap:=h',toks:=tk}) (n:="range_iterator") st' rfl rfl (by decide) ⟨.int (a+(i:Nat)*(-1)),H,I1,⟨t,rfl⟩,⟨rfl,rfl⟩,st',fun b hb=>(hf b hb).1⟩⟩
 done:=by
  intro X hP hw hK hc i pins s σ H E I hf st hg
  subst hP hw hK
  obtain⟨f0,f1,f2,f3,f4,f5⟩:=hf it (by simp)
  exact wpAny_pyNext_range_end (I.ok.hd hc) st (by have:n≤i:=hg;omega) fun h' eb=>⟨rfl,I.turned (t':=s.toks) (fun b o hb e=>eb b o hb e) f0 f1 f3 f4 f5⟩
 self:=fun _ _ _ _ _ st h=>wpAny_pyIter_rangeiter st h
theorem wO(a b:Int):Builtin.Range.rangeSize a b (-1)=((a-b).toNat:Int):=by
 unfold Builtin.Range.rangeSize
 rw[if_neg (by decide)]
 have e:(a-b-1)/(- -1:Int)=a-b-1:=by simp
 rw[e]
 split<;>omega
theorem small_down{a b:Int}(ha: -(2^62)≤a)(ha':a<2^62)(hb: -(2^62)≤b)(hb':b<2^62):Builtin.Range.small a b (-1)=true:=by
 unfold Builtin.Range.small
 rw[wO]
 simp only[Builtin.Range.rangeFitsLong,Bool.and_eq_true,Bool.or_eq_true,decide_eq_true_eq,beq_iff_eq,show¬((-1:Int)>0) by decide,if_false]
 omega
noncomputable def Gv(ta:TA):TI:=fun σ H R=>ta σ H fun vs H1=>∃i j:Int,vs=[.int i,.int j,.int (-1)]∧(-(2^62)≤i∧i<2^62∧ -(2^62)≤j∧j<2^62)∧R (Le i (i-j).toNat) H1
section
variable {X:Cx}{tg:Expr}
theorem C1{a b c:Expr}{ta:TA}{p pos:Pos}(hg:Gl X "range")(hm:X.mg "range"=none)(ha:PA X [a,b,c] ta)(hs:notStar a=true:=by rfl)(hs2:notStar b=true:=by rfl)(hs3:notStar c=true:=by rfl):
 PI X tg (.Call (.Name "range" p) [a,b,c] [] pos) (Gv ta):=by
 intro pins s σ H R I h
 refine Call_ (jO I hg hm boot_range (PyProof.Rows.callWith_type1 (bO (ha pos pins s σ H _ I h) fun us s1 ⟨vs,H1,I1,r1,q1⟩=>?_) (cD hs) (jo (by simp[fx,hs2,hs3]))))
 obtain⟨i,j,e,⟨q1,q2,q3,q4⟩,q⟩:=q1
 subst e
 cases r1 with
 |cons r rr=>
  cases rr with
  |cons r' rr=>
   cases rr with
   |cons r'' rr=>
    cases rr
    obtain⟨t,rfl⟩:=r
    obtain⟨t',rfl⟩:=r'
    obtain⟨t'',rfl⟩:=r''
    refine call_range_3 (by decide) ?_ (Or.inl (PyProof.noPylong_of_log2 (by decide+kernel)))
    refine wpAny_pyIter_range (IsRange.new ..) (small_down q1 q2 q3 q4) ?_
    have I2:Inv X pins σ H1 {s1 with heap:=s1.heap.push {cls:= .type "range",data:= .fields #[.int i t,.int j t',.int (-1) t'']},toks:=s1.toks}:=I1.kept fun b o e=>Heap.get?_push_of_some _ e
    generalize({s1 with heap:=s1.heap.push {cls:= .type "range",data:= .fields #[.int i t,.int j t',.int (-1) t'']},toks:=s1.toks}:Shared)=s2 at I2⊢
    refine⟨s2.heap.objs.size,[s2.heap.objs.size],_,_,H1,rfl,I2.kept (t':=s2.toks) fun b o e=>Heap.get?_push_of_some _ e,DJ _ i (i-j).toNat,?_,fun b hb=>?_,q⟩
    · show IsRangeIter _ _ (i+((0:Nat):Int)*(-1)) ((((i-j).toNat:Nat):Int)-((0:Nat):Int)) (-1)
      have e1:i+((0:Nat):Int)*(-1)=i:=by omega
      have e2:(((i-j).toNat:Nat):Int)-((0:Nat):Int)=Builtin.Range.rangeSize i j (-1):=by rw[wO];omega
      rw[e1,e2]
      exact Heap.get?_push_size _ rfl
    · have e:b=s2.heap.objs.size:=by simpa using hb
      subst e
      exact I2.tX (Nat.le_refl _) (I2.aL.fresh (Nat.le_refl _))
end
noncomputable def gv(a:Int)(n:Nat):List D:=(List.range n).map fun(k:Nat)=>D.int (a+(k:Nat)*(-1))
theorem wU{a:Int}{n k:Nat}:(gv a n)[k]?=if k<n then some (.int (a+(k:Nat)*(-1)))else none:=by
 unfold gv
 rw[List.getElem?_map]
 by_cases h:k<n
 · rw[List.getElem?_range h,if_pos h];rfl
 · rw[List.getElem?_eq_none (by simpa using h),if_neg h];rfl
theorem lj{a:Int}{n:Nat}:(gv a n).length=n:=by unfold gv;simp
theorem Ic{α:List (Option Addr)}{G:Hp}{a:Int}{n:Nat}:td (Le a n) α G (fun _=>True) (gv a n) where
 stop:=fun m α' G' F' H' st' s P S o hn=>by rw[lj]at hn;exact hn
 go:=fun m d α' G' F' H' st' s P S o hn=>by
  rw[wU]at hn
  split at hn
  · assumption
  · cases hn
 nR:=fun m d α' G' F' H' st' x H'' s P S o hn y=>by
  obtain⟨rfl,rfl⟩:=y
  rw[wU]at hn
  split at hn
  · cases hn
    exact⟨G',Step.refl,P,S,by unfold Rep;rfl⟩
  · cases hn
noncomputable def LB(ds:List D)(st1:ag)(K:List D→(ag→Prop)→ag→Prop):Prop:=match ds with
 | [.int i,.int j,.int c]=>(c= -1∧ -(2^62)≤i∧i<2^62∧ -(2^62)≤j∧j<2^62)∧K (gv i (i-j).toNat) (fun _=>True) st1
 |_=>False
@[irreducible] noncomputable def xr:List D→ag→(List D→(ag→Prop)→ag→Prop)→Prop:=LB
noncomputable def vU(t:DA):DI:=fun σ st K=>t σ st fun ds st1=>xr ds st1 K
theorem Cq{X:Cx}{tg iter:Expr}{t:DA}(h:PI X tg iter (Gv (LA t))):PI X tg iter (LI (vU t)):=PI.imp h fun σ H R ⟨α,σd,st,K,G,F,P,RS,S,t,k⟩=>by
 refine⟨α,σd,st,_,G,F,P,RS,S,t,fun ds st1 q α1 G1 H1 vs s1 P1 S1 r1=>?_⟩
 unfold xr at q
 match ds,q,r1 with
 | [.int i,.int j,.int c],q,r1=>
   obtain⟨v,u,w,rfl,r2,r3,r4⟩:=L6 r1 rfl
   unfold Rep at r2 r3 r4
   subst r2 r3 r4
   obtain⟨⟨rfl,q1⟩,q2⟩:=q
   exact⟨i,j,rfl,q1,k _ _ st1 q2 _ α1 G1 H1 s1 P1 S1 Ic⟩
theorem Hb{st:ag}{i j:Int}{K:List D→(ag→Prop)→ag→Prop}(h: -(2^62)≤i∧i<2^62∧ -(2^62)≤j∧j<2^62)(k:K (gv i (i-j).toNat) (fun _=>True) st):xr [.int i,.int j,.int (-1)] st K:=by unfold xr;exact⟨⟨rfl,h⟩,k⟩
theorem ES{X:Cx}{tg a b c:Expr}{p pos:Pos}{ar:DA}(hg:Gl X "range")(hm:X.mg "range"=none)(ha:JA X [a,b,c] ar)(hs:notStar a=true:=by rfl)(hs2:notStar b=true:=by rfl)(hs3:notStar c=true:=by rfl):JI X tg (.Call (.Name "range" p) [a,b,c] [] pos) (vU ar):=by
 unfold JI;unfold JA at ha;exact Cq (C1 hg hm ha hs hs2 hs3)
section
variable {X:Cx}
end
end L3
namespace L3
open PySem L2
open PySem.Spec hiding items?
open PyProof.Rows hiding St
section
variable {X:Cx}{e o i value:Expr}{es:List Expr}{te to ti:DE}{t:DA}{pos pos' tpos apos p:Pos}{C f:Addr}{fl m x:Str}{S:bW}{k:Nat}{fd:FuncData}{ps:List Str}
theorem Ck{value o:Expr}{fl:Str}{pos':Pos}{n:Nat}{env:Env}:swapsWith value (some (.Attribute o fl pos')) n env=pure false:=by cases value<;>rfl
theorem cU(c:nz X.K C)(na:fD X.K C fl)(he:JE X e te)(hb:attributeBase e fl X.env (eval e X.env)=eval e X.env:=by rfl):JE X (.Attribute e fl pos) (dB C fl te):=by unfold JE at*;exact Ms c na he hb
theorem mR(c:nz X.K C)(na:fD X.K C fl)(ho:JE X o to)(hv:JE X value te):JS X (.Assign [.Attribute o fl pos'] value pos) (nG C fl to te):=by unfold JS;unfold JE at*;exact Lf c na ho hv Ck
theorem lz{pl:Sem Bool}(he:JE X o to)(c:nz X.K C)(hm:Meth X.K C m f)(F:a8 X.prog X.w X.K X.mg X.base cf k f fd ps (cn S))(hr:cJ k X.A)(hb:Binds X.K fd ps [])(ha:JA X (e::es) t)
 (hs:notStar e=true:=by rfl) (hs2:fx es=true:=by rfl)
 (ht:eval (.Call (.Attribute o m apos) (e::es) [] pos) X.env=(do
   let ov ←eval o X.env
   standAt apos.atName
   let(f,first) ←holding [ov] (getMethod ov m pl)
   callWith pos f first (backTo pos (starEach (e::es) X.env)) (backToKw pos (keywordEach [] X.env))):=by rfl):
 JE X (.Call (.Attribute o m apos) (e::es) [] pos) (i3 C m S to t):=by
 unfold JE at*
 unfold JA at ha
 exact PE.imp (Hw he c hm F hr hb .nil Bg ha (cD hs) (jo hs2) ht) fun _ _ _ h=>LE.MA h
theorem JJ(M:Mk X.K C f)(F:a8 X.prog X.w X.K X.mg X.base cf k f fd ps (cn S))(hr:cJ (k+1) X.A)(hg:Gl X x)(hmg:X.mg x=some (.ref C))(hb:Binds X.K fd ps [])(ha:JA X (e::es) t)(hdb:(x==("__debug__":Str))=false)
 (hs:notStar e=true:=by rfl) (hs2:fx es=true:=by rfl):JE X (.Call (.Name x p) (e::es) [] pos) (BD C S t):=by
 unfold JE
 unfold JA at ha
 exact PE.imp (GY M F hr hg hmg hb .nil Bg ha hdb (cD hs) (jo hs2)) fun _ _ _ h=>LE.make h
end
end L3
namespace L3
open PySem PySem.Spec L2
open PyProof.Rows hiding St
noncomputable def Jn(xs:Array Keyed)(i:Nat):Int:=match xs[i]? with
 |some p=>numOf p.2
 |none=>0
theorem nt{xs ys:Array Keyed}{i j:Nat}(h:xs[i]?=ys[j]?):Jn xs i=Jn ys j:=by unfold Jn;rw[h]
theorem lI{xs:Array Keyed}{i j:Nat}(hj:j≤xs.size)(k:Nat):
 K (mirror xs i j ((j-i)/2)) k=K xs (if i≤k∧k<j then i+j-1-k else k)∧Jn (mirror xs i j ((j-i)/2)) k=Jn xs (if i≤k∧k<j then i+j-1-k else k):=by
 have e:=getElem?_mirror_all (i:=i) hj k
 split at e<;>rename_i h
 · rw[if_pos h];exact⟨K_congr e,nt e⟩
 · rw[if_neg h];exact⟨K_congr e,nt e⟩
theorem Du{xs:Array Keyed}{src d:Nat}(hs:src<xs.size)(hd:d≤src)(k:Nat):
 K (bubble xs src d) k=K xs (if k=src-d then src else if src-d<k∧k≤src then k-1 else k)∧Jn (bubble xs src d) k=Jn xs (if k=src-d then src else if src-d<k∧k≤src then k-1 else k):=by
 have e:=getElem?_bubble hs d hd k
 split at e<;>rename_i h
 · rw[if_pos h];exact⟨K_congr e,nt e⟩
 · rw[if_neg h]
   split at e<;>rename_i h2
   · rw[if_pos h2];exact⟨K_congr e,nt e⟩
   · rw[if_neg h2];exact⟨K_congr e,nt e⟩
noncomputable def lE(xs:Array Keyed)(i j:Nat):Prop:=K xs i<K xs j∨(K xs i=K xs j∧Jn xs i<Jn xs j)
noncomputable def iX(xs:Array Keyed)(k:Nat):Prop:=∀i j,i<j→j<k→lE xs i j
noncomputable def hZ(n:Nat)(xs:Array Keyed)(k:Nat):Prop:=∀i j,i<j→k≤j→j<n→Jn xs i<Jn xs j
theorem iX.to{xs:Array Keyed}{k:Nat}(h:iX xs k):SortedTo xs k:=fun i j hij hj=>by
 rcases Nat.lt_or_eq_of_le hij with e|e
 · rcases h i j e hj with q|q<;>omega
 · subst e;exact Int.le_refl _
theorem iX.more{xs:Array Keyed}{n k m:Nat}(h:iX xs k)(t:hZ n xs k)(s:SortedTo xs m)(hm:m≤n):iX xs m:=fun i j hij hj=>by
 by_cases hk:j<k
 · exact h i j hij hk
 · have a:=s i j (Nat.le_of_lt hij) hj
   have b:=t i j hij (Nat.le_of_not_lt hk) (Nat.lt_of_lt_of_le hj hm)
   unfold lE;omega
theorem hZ.up{xs:Array Keyed}{n k m:Nat}(t:hZ n xs k)(h:k≤m):hZ n xs m:=fun i j a b c=>t i j a (Nat.le_trans h b) c
theorem hZ.mix{xs ys:Array Keyed}{n k:Nat}(t:hZ n xs k)(f:Nat→Nat)(hf:∀i,Jn ys i=Jn xs (f i))(h1:∀i,i<k→f i<k)(h2:∀i,k≤i→f i=i):hZ n ys k:=fun i j a b c=>by
 rw[hf,hf,h2 j b]
 refine t _ _ ?_ b c
 by_cases hi:i<k
 · exact Nat.lt_of_lt_of_le (h1 i hi) b
 · rw[h2 i (Nat.le_of_not_lt hi)];exact a
section
variable {prog:Program}{w:World}{A:Around}{E:Value→Shared→Prop}{s:Shared}{a₀:Array Keyed}
theorem Cv{st:SortSt}{ok:Nat}{Q:Bool→SortSt→Prop}(h0:IntKeys a₀)(h1:1≤ok)(aL:ok≤a₀.size)(hB:SBase a₀ st)(hs:iX (arrOf st) ok)(ht:hZ a₀.size (arrOf st) ok)
 (h:∀st',SBase a₀ st'→iX (arrOf st') a₀.size→Q true st'):wpS (model prog w) A E s (binarySort' 0 a₀.size ok) Q st:=by
 rw[binarySort'_eq]
 simp only[Nat.zero_add]
 refine wpS_bind (wpS_mono (wpS_forRange (I:=fun k c q=>c=(none,())∧SBase a₀ q∧k≤a₀.size∧iX (arrOf q) k∧hZ a₀.size (arrOf q) k)
  (Q:=fun c q=>c=(none,())∧SBase a₀ q∧iX (arrOf q) a₀.size) ?st ?en ?be) ?po)
 case po=>rintro c q ⟨rfl,b1,b2⟩;exact wpS_pure (h q b1 b2)
 case be=>rw[show max ok 1=ok by omega];exact⟨rfl,hB,aL,hs,ht⟩
 case en=>
  rintro c q ⟨rfl,b1,b2,b3,_⟩
  rw[show max (max ok 1) a₀.size=a₀.size by omega]at b3
  exact⟨rfl,b1,b3⟩
 case st=>
  rintro k c q hk1 hk2 ⟨rfl,qB,_,qS,qT⟩
  refine wpS_bind (wpS_mono (wpS_forRange (I:=fun x c q'=>q'=q∧∃l r,c=(none,l,r)∧l≤r∧r≤k∧r-l≤k-x∧(∀i,i<l→K (arrOf q) i≤K (arrOf q) k)∧(∀i,r≤i→i<k→K (arrOf q) k<K (arrOf q) i))
   (Q:=fun c q'=>q'=q∧∃l,c=(none,l,l)∧l≤k∧(∀i,i<l→K (arrOf q) i≤K (arrOf q) k)∧(∀i,l≤i→i<k→K (arrOf q) k<K (arrOf q) i)) ?a ?b ?c) ?d)
  case c=>exact⟨rfl,0,k,rfl,by omega,by omega,by omega,fun i hi=>by omega,fun i x y=>by omega⟩
  case b=>
   rintro c q' ⟨rfl,l,r,rfl,e1,e2,e3,e4,e5⟩
   have:r=l:=by omega
   subst this
   exact⟨rfl,r,rfl,e2,e4,e5⟩
  case a=>
   rintro x c q' _ hx ⟨rfl,l,r,rfl,e1,e2,e3,e4,e5⟩
   dsimp only
   by_cases hlr:l≥r
   · rw[if_pos hlr]
     have:r=l:=by omega
     subst this
     exact wpS_pure ⟨rfl,r,rfl,e2,e4,e5⟩
   · rw[if_neg hlr]
     refine wpS_bind (wpS_ltK qB h0 hk2 (by omega) ?_)
     have so:=qS.to
     by_cases hl:K (arrOf q') k<K (arrOf q') ((l+r)/2)
     · simp only[hl,decide_true,if_true]
       exact wpS_pure ⟨rfl,l,(l+r)/2,rfl,by omega,by omega,by omega,e4,fun i x y=>Int.lt_of_lt_of_le hl (so _ _ x y)⟩
     · simp only[hl,decide_false,Bool.false_eq_true,if_false]
       refine wpS_pure ⟨rfl,(l+r)/2+1,r,rfl,by omega,by omega,by omega,fun i x=>?_,e5⟩
       have:=so i ((l+r)/2) (by omega) (by omega)
       omega
  case d=>
   rintro c q' ⟨rfl,l,rfl,hlk,e4,e5⟩
   show wpS _ _ _ _ (do moveDown' k l;pure (ForInStep.yield (none,()))) _ _
   rw[moveDown'_eq]
   have hks:k<(arrOf q').size:=by rw[qB.size];exact hk2
   have bb:=Du (xs:=arrOf q') hks (show k-l≤k by omega)
   rw[show k-(k-l)=l by omega]at bb
   refine wpS_bind (wpS_modify (wpS_pure ⟨rfl,qB.setArr (bubble_perm _ _ _),by omega,fun i j hij hj=>?_,hZ.mix (qT.up (Nat.le_succ k)) _ (fun i=>(bb i).2) (fun i hi=>?_) (fun i hi=>?_)⟩))
   · show lE (bubble (arrOf q') k (k-l)) i j
     unfold lE
     rw[(bb i).1,(bb i).2,(bb j).1,(bb j).2]
     by_cases hil:i<l
     · rw[if_neg (show¬i=l by omega),if_neg (show¬(l<i∧i≤k) by omega)]
       by_cases hjl:j=l
       · rw[if_pos hjl]
         have x:=e4 i hil
         have y:=qT i k (by omega) (Nat.le_refl _) hk2
         omega
       · rw[if_neg hjl]
         by_cases hj2:l<j∧j≤k
         · rw[if_pos hj2];exact qS i (j-1) (by omega) (by omega)
         · rw[if_neg hj2];exact qS i j hij (by omega)
     · by_cases hie:i=l
       · rw[if_pos hie,if_neg (show¬j=l by omega),if_pos (show l<j∧j≤k by omega)]
         exact .inl (e5 _ (by omega) (by omega))
       · rw[if_neg hie,if_pos (show l<i∧i≤k by omega),if_neg (show¬j=l by omega),if_pos (show l<j∧j≤k by omega)]
         exact qS _ _ (by omega) (by omega)
   · show(if i=l then k else if l<i∧i≤k then i-1 else i)<k+1
     split
     · omega
     · split<;>omega
   · show(if i=l then k else if l<i∧i≤k then i-1 else i)=i
     rw[if_neg (by omega),if_neg (by omega)]
noncomputable def wG(xs:Array Keyed)(m q:Nat):Prop:=q+1≤m∧∀i j,i<j→j<m→(m≤i+(q+1)→K xs i=K xs j∧Jn xs i<Jn xs j)∧(i+(q+1)<m→(m≤j+(q+1)→K xs j<K xs i)∧lE xs j i)
theorem wG.all{xs:Array Keyed}{m q:Nat}(h:wG xs m q)(hm:m≤xs.size):(q=0∨0<q)∧∀i j,i<j→j<m→lE (mirror xs (m-(q+1)) m ((m-(m-(q+1)))/2)) j i:=by
 refine⟨by omega,fun i j hij hj=>?_⟩
 have b:=lI (i:=m-(q+1)) (j:=m) hm
 unfold lE
 rw[(b i).1,(b i).2,(b j).1,(b j).2]
 by_cases hi:m-(q+1)≤i∧i<m
 · rw[if_pos hi,if_pos (show m-(q+1)≤j∧j<m by omega)]
   have:=(h.2 (m-(q+1)+m-1-j) (m-(q+1)+m-1-i) (by omega) (by omega)).1 (by omega)
   omega
 · rw[if_neg hi]
   by_cases hj2:m-(q+1)≤j∧j<m
   · rw[if_pos hj2]
     have:=((h.2 i (m-(q+1)+m-1-j) (by omega) (by omega)).2 (by omega)).1 (by omega)
     omega
   · rw[if_neg hj2]
     exact((h.2 i j hij hj).2 (by omega)).2
theorem wG.zero{xs:Array Keyed}{m:Nat}(h:wG xs m 0):∀i j,i<j→j<m→lE xs j i:=fun i j hij hj=>((h.2 i j hij hj).2 (by omega)).2
theorem my{n:Nat}{xs:Array Keyed}{i j k:Nat}(t:hZ n xs k)(hj:j≤xs.size)(hk:j≤k):hZ n (mirror xs i j ((j-i)/2)) k:=
 t.mix _ (fun a=>(lI hj a).2) (fun a ha=>by split<;>omega) fun a ha=>by rw[if_neg (by omega)]
theorem Dq{st:SortSt}{n:Nat}{Q:DescSt→SortSt→Prop}(h0:IntKeys a₀)(hn:n≤a₀.size)(hB:SBase a₀ st)(hs:wG (arrOf st) n 0)(ht:hZ a₀.size (arrOf st) n)
 (h:∀m q st',SBase a₀ st'→n≤m→m≤a₀.size→wG (arrOf st') m q→hZ a₀.size (arrOf st') m→Q (none,m,q) st'):
 wpS (model prog w) A E s (descLoop n a₀.size) Q st:=by
 unfold descLoop
 refine wpS_forRange (I:=fun x c st'=>∃q,c=(none,x,q)∧SBase a₀ st'∧wG (arrOf st') x q∧hZ a₀.size (arrOf st') x) ?st ?en ⟨0,rfl,hB,hs,ht⟩
 case en=>
  rintro c st' ⟨q,rfl,b1,b2,b3⟩
  rw[show max n a₀.size=a₀.size by omega]at b2 b3⊢
  exact h _ q st' b1 hn (Nat.le_refl _) b2 b3
 case st=>
  rintro x c st' hx1 hx2 ⟨q,rfl,b1,b2,b3⟩
  dsimp only
  have hq:=b2.1
  have hsz:x≤(arrOf st').size:=by rw[b1.size];omega
  refine wpS_bind (wpS_ltK b1 h0 hx2 (by omega) ?_)
  by_cases hl:K (arrOf st') x<K (arrOf st') (x-1)
  · simp only[hl,decide_true,if_true]
    by_cases hq0:q>0
    · rw[if_pos hq0]
      have al:=(b2.all hsz).2
      have km:=lI (i:=x-(q+1)) (j:=x) hsz
      refine wpS_bind (wpS_reverse (wpS_pure ⟨0,rfl,b1.setArr (mirror_perm _ _ _ _),⟨by omega,fun i j hij hj=>⟨fun hh=>by omega,fun hh=>⟨fun hj2=>?_,?_⟩⟩⟩,(my b3 hsz (Nat.le_refl _)).up (Nat.le_succ x)⟩))
      · have hjx:j=x:=by omega
        subst hjx
        show K (mirror (arrOf st') _ _ _) j<K (mirror (arrOf st') _ _ _) i
        rw[(km i).1,(km j).1,if_neg (show¬(j-(q+1)≤j∧j<j) by omega)]
        have key:∀t,t<j→K (arrOf st') (j-1)≤K (arrOf st') t:=fun t ht=>by
         by_cases e:t=j-1
         · rw[e];exact Int.le_refl _
         · have z:=b2.2 t (j-1) (by omega) (by omega)
           by_cases g:j≤t+(q+1)
           · have:=(z.1 g).1;omega
           · have:=(z.2 (by omega)).2;unfold lE at this;omega
        split
        · have:=key (j-(q+1)+j-1-i) (by omega);omega
        · have:=key i hij;omega
      · show lE (mirror (arrOf st') _ _ _) j i
        by_cases hjx:j<x
        · exact al i j hij hjx
        · have hjx:j=x:=by omega
          subst hjx
          refine .inl ?_
          rw[(km i).1,(km j).1,if_neg (show¬(j-(q+1)≤j∧j<j) by omega)]
          have key:∀t,t<j→K (arrOf st') (j-1)≤K (arrOf st') t:=fun t ht=>by
           by_cases e:t=j-1
           · rw[e];exact Int.le_refl _
           · have z:=b2.2 t (j-1) (by omega) (by omega)
             by_cases g:j≤t+(q+1)
             · have:=(z.1 g).1;omega
             · have:=(z.2 (by omega)).2;unfold lE at this;omega
          split
          · have:=key (j-(q+1)+j-1-i) (by omega);omega
          · have:=key i hij;omega
    · rw[if_neg hq0]
      have hq0:q=0:=by omega
      subst hq0
      have z0:=b2.zero
      have lx:∀i,i<x→K (arrOf st') x<K (arrOf st') i:=fun i hi=>by
       by_cases e:i=x-1
       · rw[e];exact hl
       · have:=z0 i (x-1) (by omega) (by omega);unfold lE at this;omega
      refine wpS_pure ⟨0,rfl,b1,⟨by omega,fun i j hij hj=>⟨fun hh=>by omega,fun hh=>⟨fun hj2=>?_,?_⟩⟩⟩,b3.up (Nat.le_succ x)⟩
      · have hjx:j=x:=by omega
        subst hjx;exact lx i hij
      · by_cases hjx:j<x
        · exact z0 i j hij hjx
        · have hjx:j=x:=by omega
          subst hjx;exact .inl (lx i hij)
  · simp only[hl,decide_false,Bool.false_eq_true,if_false]
    refine wpS_bind (wpS_ltK b1 h0 (by omega) hx2 ?_)
    by_cases hg:K (arrOf st') (x-1)<K (arrOf st') x
    · simp only[hg,decide_true,if_true]
      exact wpS_pure (h x q st' b1 hx1 (by omega) b2 b3)
    · simp only[hg,decide_false,Bool.false_eq_true,if_false]
      have he:K (arrOf st') x=K (arrOf st') (x-1):=by omega
      refine wpS_pure ⟨q+1,rfl,b1,⟨by omega,fun i j hij hj=>⟨fun hh=>?_,fun hh=>⟨fun hj2=>?_,?_⟩⟩⟩,b3.up (Nat.le_succ x)⟩
      · by_cases hjx:j<x
        · exact(b2.2 i j hij hjx).1 (by omega)
        · have hjx:j=x:=by omega
          subst hjx
          refine⟨?_,b3 i j hij (Nat.le_refl _) hx2⟩
          rw[he]
          by_cases e:i=j-1
          · rw[e]
          · exact((b2.2 i (j-1) (by omega) (by omega)).1 (by omega)).1
      · by_cases hjx:j<x
        · exact((b2.2 i j hij hjx).2 (by omega)).1 (by omega)
        · have hjx:j=x:=by omega
          subst hjx
          rw[he]
          exact((b2.2 i (j-1) (by omega) (by omega)).2 (by omega)).1 (by omega)
      · by_cases hjx:j<x
        · exact((b2.2 i j hij hjx).2 (by omega)).2
        · have hjx:j=x:=by omega
          subst hjx
          refine .inl ?_
          rw[he]
          exact((b2.2 i (j-1) (by omega) (by omega)).2 (by omega)).1 (by omega)
theorem wy{st:SortSt}{n:Nat}{Q:Option Nat→SortSt→Prop}(h0:IntKeys a₀)(h1:1≤n)(hn:n≤a₀.size)(hB:SBase a₀ st)(hs:∀i j,i<j→j<n→lE (arrOf st) j i)(ht:hZ a₀.size (arrOf st) n)
 (h:∀m st',SBase a₀ st'→1≤m→m≤a₀.size→iX (arrOf st') m→hZ a₀.size (arrOf st') m→Q (some m) st'):wpS (model prog w) A E s (tail3 n a₀.size) Q st:=by
 unfold tail3
 have hsz:n≤(arrOf st).size:=by rw[hB.size];exact hn
 refine wpS_bind (wpS_reverse ?_)
 have km:=lI (xs:=arrOf st) (i:=0) (j:=n) hsz
 have s1:iX (mirror (arrOf st) 0 n ((n-0)/2)) n:=fun i j hij hj=>by
  unfold lE
  rw[(km i).1,(km i).2,(km j).1,(km j).2,if_pos (by omega),if_pos (by omega)]
  exact hs _ _ (by omega) (by omega)
 have t1:=my (i:=0) ht hsz (Nat.le_refl _)
 have hB':SBase a₀ (setArr st (mirror (arrOf st) 0 n ((n-0)/2))):=hB.setArr (mirror_perm _ _ _ _)
 refine wpS_bind (wpS_ascLoop h0 (Nat.le_refl _) h1 hn hB' s1.to fun m m1 m2 sm _=>wpS_pure (h m _ hB' (by omega) m2 (s1.more t1 sm m2) (t1.up m1)))
theorem wq{st:SortSt}{n:Nat}{Q:Option Nat→SortSt→Prop}(h0:IntKeys a₀)(hn:n+1≤a₀.size)(hB:SBase a₀ st)(hs:wG (arrOf st) (n+1) 0)(ht:hZ a₀.size (arrOf st) (n+1))
 (h:∀m st',SBase a₀ st'→1≤m→m≤a₀.size→iX (arrOf st') m→hZ a₀.size (arrOf st') m→Q (some m) st'):wpS (model prog w) A E s (descPart n a₀.size) Q st:=by
 unfold descPart
 refine wpS_bind (wpS_lift (wpAny_rule ⟨rfl,?_⟩))
 refine wpS_bind (Dq h0 hn hB hs ht fun m q st' b1 b2 b3 b4 b5=>?_)
 dsimp only
 have hsz:m≤(arrOf st').size:=by rw[b1.size];exact b3
 by_cases hq:q>0
 · rw[if_pos hq]
   exact wpS_bind (wpS_reverse (wy h0 (by omega) b3 (b1.setArr (mirror_perm _ _ _ _)) (b4.all hsz).2 (my b5 hsz (Nat.le_refl _)) h))
 · rw[if_neg hq]
   have:q=0:=by omega
   subst this
   exact wy h0 (by omega) b3 b1 b4.zero b5 h
theorem D2{st:SortSt}{Q:Option Nat→SortSt→Prop}(h0:IntKeys a₀)(h1:1≤a₀.size)(hB:SBase a₀ st)(ht:hZ a₀.size (arrOf st) 1)
 (h:∀m st',SBase a₀ st'→1≤m→m≤a₀.size→iX (arrOf st') m→hZ a₀.size (arrOf st') m→Q (some m) st'):wpS (model prog w) A E s (countRun' 0 a₀.size) Q st:=by
 rw[countRun0_eq]
 have s1:iX (arrOf st) 1:=fun i j hij hj=>by omega
 refine wpS_bind (wpS_ascLoop h0 (Nat.le_refl _) (Nat.le_refl 1) h1 hB s1.to fun n n1 n2 sn hor=>?_)
 dsimp only
 have s2:=s1.more ht sn n2
 by_cases hn:n=a₀.size
 · rw[if_pos (by simpa using hn)]
   exact wpS_pure (h n st hB n1 n2 s2 (ht.up n1))
 · rw[if_neg (by simpa using hn)]
   have hl:=hor.resolve_left hn
   by_cases hg:n>1
   · rw[if_pos hg]
     refine wpS_bind (wpS_ltK hB h0 (by omega) (by omega) ?_)
     by_cases hr:K (arrOf st) 0<K (arrOf st) (n-1)
     · simp only[hr,decide_true,if_true]
       exact wpS_pure (h n st hB n1 n2 s2 (ht.up n1))
     · simp only[hr,decide_false,Bool.false_eq_true,if_false]
       have hsz:n≤(arrOf st).size:=by rw[hB.size];exact n2
       have eqs:∀k,k<n→K (arrOf st) k=K (arrOf st) (n-1):=fun k hk=>by
        have x:=sn 0 k (by omega) hk
        have y:=sn k (n-1) (by omega) (by omega)
        omega
       have km:=lI (xs:=arrOf st) (i:=0) (j:=n) hsz
       refine wpS_bind (wpS_reverse (wq h0 (by omega) (hB.setArr (mirror_perm _ _ _ _)) ⟨by omega,fun i j hij hj=>⟨fun hh=>by omega,fun hh=>⟨fun hj2=>?_,?_⟩⟩⟩ (my (ht.up (by omega)) hsz (by omega)) h))
       · have hjn:j=n:=by omega
         subst hjn
         show K (mirror (arrOf st) _ _ _) j<K (mirror (arrOf st) _ _ _) i
         rw[(km i).1,(km j).1,if_neg (show¬(0≤j∧j<j) by omega),if_pos (by omega),eqs (0+j-1-i) (by omega)]
         exact hl
       · show lE (mirror (arrOf st) _ _ _) j i
         unfold lE
         rw[(km i).1,(km i).2,(km j).1,(km j).2,if_pos (show 0≤i∧i<n by omega)]
         by_cases hjn:j<n
         · rw[if_pos (by omega)]
           refine .inr ⟨(eqs _ (by omega)).trans (eqs _ (by omega)).symm,ht _ _ (by omega) (by omega) (by omega)⟩
         · have hjn:j=n:=by omega
           subst hjn
           rw[if_neg (by omega),eqs (0+j-1-i) (by omega)]
           exact .inl hl
   · rw[if_neg hg]
     have hn1:n=1:=by omega
     subst hn1
     refine wq h0 (by omega) hB ⟨by omega,fun i j hij hj=>⟨fun hh=>by omega,fun hh=>?_⟩⟩ (ht.up (by omega)) h
     have hi0:i=0:=by omega
     have hj1:j=1:=by omega
     subst hi0;subst hj1
     exact⟨fun _=>hl,.inl hl⟩
theorem D5{st:SortSt}{Q:Unit→SortSt→Prop}(h0:IntKeys a₀)(hB:SBase a₀ st)(ht:hZ a₀.size (arrOf st) 1)(h2:2≤a₀.size)(h64:a₀.size<64)
 (h:∀st',(arrOf st').Perm a₀→failedOf st'=none→iX (arrOf st') a₀.size→Q () st'):wpS (model prog w) A E s sortRuns' Q st:=by
 rw[sortRuns'_eq]
 refine wpS_bind (wpS_get ?_)
 dsimp only
 have hmr:minRun' a₀.size a₀.size 0=a₀.size:=by
  cases e:a₀.size with
  |zero=>rw[e]at h2;omega
  |succ f=>rw[minRun'_succ,if_pos (by omega)]
 simp only[hB.size,hmr]
 have dn:∀ {q:SortSt},SBase a₀ q→iX (arrOf q) a₀.size→∃p,p=setPending q ((pendingOf q).push (0,a₀.size,0))∧(arrOf p).Perm a₀∧failedOf p=none∧pendingOf p= #[(0,a₀.size,0)]∧iX (arrOf p) a₀.size:=fun{q} b s=>
  ⟨_,rfl,b.perm,b.failed,by show(pendingOf q).push _=_;rw[b.pend];rfl,s⟩
 refine wpS_bind (wpS_mono (wpS_forRange
  (I:=fun x c q=>(x=0∧c=(none,0)∧q=st)∨(1≤x∧c=(none,a₀.size)∧(arrOf q).Perm a₀∧failedOf q=none∧pendingOf q= #[(0,a₀.size,0)]∧iX (arrOf q) a₀.size))
  (Q:=fun c q=>c=(none,a₀.size)∧(arrOf q).Perm a₀∧failedOf q=none∧pendingOf q= #[(0,a₀.size,0)]∧iX (arrOf q) a₀.size) ?st ?en (.inl ⟨rfl,rfl,rfl⟩)) ?po)
 case en=>
  rintro c q (⟨hx,_,_⟩|⟨_,hc,hD⟩)
  · omega
  · exact⟨hc,hD⟩
 case st=>
  rintro x c q _ hx (⟨rfl,rfl,rfl⟩|⟨_,rfl,hD⟩)
  · dsimp only
    rw[if_neg (by omega)]
    simp only[Nat.sub_zero,Nat.min_self,Nat.zero_add]
    refine wpS_bind (D2 h0 (by omega) hB ht fun m q2 b1 b2 b3 b4 b5=>?_)
    dsimp only
    by_cases hm:m<a₀.size
    · rw[if_pos hm]
      refine wpS_bind (wpS_lift (wpAny_rule ⟨rfl,?_⟩))
      refine wpS_bind (Cv h0 b2 b3 b1 b4 b5 fun q3 d1 d2=>?_)
      simp only[Bool.not_true,Bool.false_eq_true,if_false]
      refine wpS_bind (wpS_get ?_)
      have hb:(pendingOf q3).back?=none:=by rw[d1.pend];rfl
      rw[hb]
      dsimp only
      obtain⟨p,rfl,z⟩:=dn d1 d2
      exact wpS_bind (wpS_modify (wpS_pure (.inr ⟨by omega,rfl,z⟩)))
    · rw[if_neg hm]
      have hm:m=a₀.size:=by omega
      subst hm
      refine wpS_bind (wpS_get ?_)
      have hb:(pendingOf q2).back?=none:=by rw[b1.pend];rfl
      rw[hb]
      dsimp only
      obtain⟨p,rfl,z⟩:=dn b1 b4
      exact wpS_bind (wpS_modify (wpS_pure (.inr ⟨by omega,rfl,z⟩)))
  · dsimp only
    rw[if_pos (Nat.le_refl _)]
    exact wpS_pure ⟨rfl,hD⟩
 case po=>
  rintro c q ⟨rfl,d1,d2,d3,d4⟩
  dsimp only
  refine wpS_bind (wpS_mono (wpS_forRange (I:=fun _ c q'=>q'=q∧c=(none,())) (Q:=fun c q'=>q'=q∧c=(none,())) ?_ (fun _ _ z=>z) ⟨rfl,rfl⟩) ?_)
  · rintro x c q' _ _ ⟨rfl,rfl⟩
    refine wpS_bind (wpS_get ?_)
    rw[if_pos (by rw[d3];exact Nat.le_refl 1)]
    exact wpS_pure ⟨rfl,rfl⟩
  · rintro c q' ⟨rfl,rfl⟩
    exact wpS_pure (h _ d1 d2 d4)
end
end L3
namespace L2
open PySem PySem.Spec PyProof.Rows
structure Entry(K:PySem.W.Frag)(ts:List (Addr×Addr))(a:Addr)(ns:List Int)(H:Hp):Prop where
 lst:lH K H a (ns.map V.int)
 tab:∀q∈ts,H q.2=some (.jw #[])∧q.2≠a
theorem wm:∀ {vs:List Value} {ns:List Int},IntsAre vs ns→Vals (ns.map V.int) vs
 |_,_,.nil=> .nil
 |_,_,.cons n t h=> .cons ⟨t,rfl⟩ (wm h)
structure KP(K:PySem.W.Frag)(ts:List (Addr×Addr))(h:Heap):Prop where
 hd:∀q∈ts,PySem.W.codeHdIn K q.1 q.2=true
 no:∀q∈ts,K.lookup q.2=none
 at':∀q∈ts,h.get? q.2=some (PySem.W.tabObj #[])
theorem Dw{P:Program}{w:World}{K:PySem.W.Frag}{mg mb:Str→Option Value}{k:Nat}{fa a:Addr}{fd:FuncData}{x:Str}{sp:Sp}{s₁:Shared}{vs:List Value}{ns:List Int}{ts:List (Addr×Addr)}
 (KX:K.In s₁.heap) (hns:s₁.heap.Ns mainGlobals mg) (hb:s₁.heap.Ns builtinsNs mb) (hbb:∀x:Str,x≠"__name__"→mb x=bootBuiltins x) (hlim:s₁.heap.NoLimit) (hse:s₁.heap.NoSeer) (hgt:P.given.tree=none)
 (hbm:∃bm ob,mg "__builtins__"=some (.ref bm)∧bm≠builtinsNs∧s₁.heap.get? bm=some ob∧ob.cls= .type "module"∧ob.dict=some builtinsNs∧ob.data= .plain) (hT:KP K ts s₁.heap) (hg:s₁.gens= #[])
 (ha:s₁.heap.get? a=some {cls:= .type "list",data:= .seq vs.toArray}) (hi:IntsAre vs ns) (hl:ns.length≤sizeLine) (hr:cJ k callerA)
 (F:∀base:Heap,K.In base→base.Ns mainGlobals mg→a8 P w K mg base (fun _ _ _ _ _ _=>False) k fa fd [x] sp) (hbind:∀(s:Shared) (u:Value),BindsTo s fd ⟨[u],[]⟩ [(x,u)])
 (hsp:∀H:Hp,Entry K ts a ns H→sp [.ref a] H (fun v _=>v= .bl true) fun _ _ _=>False):
 codeAny (model P w) callerA (.call (.ref fa) ⟨[.ref a],[]⟩) (fun r s'=>r= .ok (.ret (.bool true))∧OldK s₁.heap s'.heap∧s'.os=s₁.os∧AllBare s'.gens) s₁:=by
 have rv:=wm hi
 have lenV:=hi.length
 have nta:∀q∈ts,q.2≠a:=fun q hq z=>by
  have:=hT.at' q hq
  rw[z,ha]at this
  cases this
 let sc:Option HO:=match K.lookup a with
  |some _=>none
  |none=>some (.fN {cls:= .type "list",data:= .seq vs.toArray} (.lst (ns.map V.int)))
 let H:Hp:=fun b=>if b=a then sc else if b∈ts.map (·.2)then some (.jw #[])else none
 have Ha:H a=sc:=if_pos rfl
 have Ht:∀q∈ts,H q.2=some (.jw #[]):=fun q hq=>by
  show(if q.2=a then sc else if q.2∈ts.map (·.2)then some (HO.jw #[])else none)=_
  rw[if_neg (nta q hq),if_pos (List.mem_map_of_mem hq)]
 have Hs:∀b u,H b=some u→(b=a∧K.lookup a=none∧u= .fN {cls:= .type "list",data:= .seq vs.toArray} (.lst (ns.map V.int)))∨(∃q∈ts,q.2=b∧u= .jw #[]):=fun b u e=>by
  have e':(if b=a then sc else if b∈ts.map (·.2)then some (HO.jw #[])else none)=some u:=e
  by_cases hba:b=a
  · rw[if_pos hba]at e'
    have e2:(match K.lookup a with
     |some _=>none
     |none=>some (HO.fN {cls:= .type "list",data:= .seq vs.toArray} (.lst (ns.map V.int))))=some u:=e'
    cases q:K.lookup a with
    |some o=>rw[q]at e2;cases e2
    |none=>rw[q]at e2;cases e2;exact .inl ⟨hba,rfl,rfl⟩
  · rw[if_neg hba]at e'
    by_cases hbt:b∈ts.map (·.2)
    · rw[if_pos hbt]at e';cases e'
      obtain⟨q,hq,e⟩:=List.mem_map.mp hbt
      exact .inr ⟨q,hq,e,rfl⟩
    · rw[if_neg hbt]at e';cases e'
 have aL:gF P w H s₁.heap:=fun b u e=>by
  rcases Hs b u e with⟨rfl,_,rfl⟩|⟨q,hq,rfl,rfl⟩
  · exact⟨ha,by rw[List.length_map];exact hl,vs,_,rv,ha⟩
  · exact hT.at' q hq
 have hE:Entry K ts a ns H:=by
  refine⟨?_,fun q hq=>⟨Ht q hq,nta q hq⟩⟩
  cases q:K.lookup a with
  |some o=>
   have e:=KX a o q
   rw[ha]at e;cases e
   exact .inr ⟨_,vs.toArray,_,q,rfl,rfl,rfl,by rw[List.size_toArray,lenV];exact hl,by simpa using rv⟩
  |none=>
   refine .inl (.inr ⟨{cls:= .type "list",data:= .seq vs.toArray},?_⟩)
   rw[Ha]
   show(match K.lookup a with
    |some _=>none
    |none=>some (HO.fN {cls:= .type "list",data:= .seq vs.toArray} (.lst (ns.map V.int))))=_
   rw[q]
 have dictNo:∀ {b:Addr} {o:Obj},s₁.heap.get? b=some o→(∀es ep,o.data≠ .seq es ep)→o.cls≠ .none→H b=none:=fun{b o} e d1 d2=>by
  cases q:H b with
  |none=>rfl
  |some u=>
   rcases Hs b u q with⟨rfl,_,_⟩|⟨t,ht,rfl,_⟩
   · rw[ha]at e;cases e;exact absurd rfl (d1 _ _)
   · rw[hT.at' t ht]at e;cases e;exact absurd rfl d2
 have nsK:∀ {b:Addr} {m:Str→Option Value},s₁.heap.Ns b m→(oo s₁.heap H).Ns b m:=fun{b m} ⟨o,es,ep,e,d,r⟩=>by
  refine⟨o,es,ep,o8 e ?_,d,r⟩
  cases q:H b with
  |none=>rfl
  |some u=>
   rcases Hs b u q with⟨rfl,_,_⟩|⟨t,ht,rfl,_⟩
   · rw[ha]at e;cases e;cases d
   · rw[hT.at' t ht]at e;cases e;cases d
 have hKb:K.In (oo s₁.heap H):=fun b o e=>o8 (KX b o e) (by
  cases q:H b with
  |none=>rfl
  |some u=>
   rcases Hs b u q with⟨rfl,z,_⟩|⟨t,ht,rfl,_⟩
   · rw[z]at e;cases e
   · rw[hT.no t ht]at e;cases e)
 obtain⟨bm,ob,b1,b2,b3,b4,b5,b6⟩:=hbm
 have hbmK:(oo s₁.heap H).get? bm=some ob:=o8 b3 (dictNo b3 (fun es ep z=>by rw[b6]at z;cases z) (fun z=>by rw[b4]at z;cases z))
 have seK:(oo s₁.heap H).NoSeer:=by
  obtain⟨⟨m1,a1,a2⟩,⟨m2,c1,c2⟩,⟨m3,d1,d2⟩,⟨mg',bm',ob',e1,e2,e3,e4,e5⟩⟩:=hse
  refine⟨⟨m1,nsK a1,a2⟩,⟨m2,nsK c1,c2⟩,⟨m3,nsK d1,d2⟩,⟨mg',bm',ob',nsK e1,e2,o8 e3 ?_,e4,e5⟩⟩
  cases q:H bm' with
  |none=>rfl
  |some u=>
   rcases Hs bm' u q with⟨rfl,_,_⟩|⟨t,ht,rfl,_⟩
   · rw[ha]at e3;cases e3;exact absurd (show Value.type "list"=Value.type "module" from e4) (by intro z;injection z with z;exact absurd z (by decide))
   · rw[hT.at' t ht]at e3;cases e3;cases e4
 have hM:Mod K mg (oo s₁.heap H):=⟨hKb,nsK hns,⟨mb,nsK hb,hbb⟩,let⟨mc,h1,h2⟩:=hlim;⟨mc,nsK h1,h2⟩,seK,⟨bm,ob,b1,b2,hbmK,b4,b5,b6⟩⟩
 have e0:tE P w K mg (oo s₁.heap H) callerA [] s₁ H:=⟨rfl,hM,fun b o e=>He e,Nat.le_of_eq (C6 _ _),trivial,fun b hb=>absurd (show b∈([]:List Addr)from hb) (by simp),aL,.of_eq hg,hgt⟩
 refine codeAny_mono ((F _ hKb (nsK hns)).run callerA [] s₁ H ⟨[.ref a],[]⟩ [.ref a] [.ref a] _ _ hr e0 (hbind s₁ (.ref a)) (.cons rfl .nil) (hsp H hE)) fun r s' h=>?_
 cases r with
 |error e=>exact False.elim h
 |ok fl=>
  cases fl with
  |next=>exact False.elim h
  |brk=>exact False.elim h
  |cont=>exact False.elim h
  |ret u=>
   obtain⟨v,H',os,bare,un,hok',r',q⟩:=h
   have q':v= .bl true:=q
   subst q'
   obtain rfl:u=Value.bool true:=r'
   have noF:∀b:Addr,b∉o7 ([]:List Env):=fun b z=>absurd (show b∈([]:List Addr)from z) (by simp)
   refine⟨rfl,⟨fun b o e=>?_,fun b o e=>un.there b o e (by simp)⟩,os,bare⟩
   cases q:H b with
   |none=>exact .inl (un.keep b o e q (noF b) (by simp))
   |some u=>
    rcases Hs b u q with⟨rfl,_,rfl⟩|⟨t,ht,rfl,rfl⟩
    · obtain⟨e2,_⟩:=hok' b _ (un.m6 b _ _ q)
      rw[ha]at e;cases e
      exact .inl e2
    · obtain⟨more,e1⟩:=un.nr _ _ q
      have e2:s'.heap.get? t.2=some {cls:= .none,data:= .fields (#[]++more)}:=hok' _ _ e1
      have e3:=hT.at' t ht
      rw[e3]at e;cases e
      have C:PySem.W.CodeHd s₁.heap t.1 t.2:=PySem.W.codeHd_of_K KX (hT.hd t ht)
      exact .inr (.inl ⟨(C.tab e3).isCodeTable,rfl,#[],more,rfl,e2⟩)
theorem Me{l:PySem.W.OpenLaw}{n k:Nat}{q:Program}{loose:List Str}{XP:(Str→Option Value)→Heap→Prop}{YP:World→Heap→Prop}{d:DefRec}{K:Params→PySem.W.Frag}{sp:World→Sp}{x:Str}{ts:List (Addr×Addr)}
 (hn:l.most=some n) (hn2:n≤sizeLine) (hdf:d.params.defaults=[]) (hr:cJ k callerA) (hq:importsNone q=true) (hgt:l.prog.given.tree=none)
 (hY:∀(w:World) (h:Heap),YP w h→(K w.params).In h∧KP (K w.params) ts h)
 (F:∀(w:World) (mg:Str→Option Value) (fa:Addr) (h:Heap),(K w.params).In h→h.Ns mainGlobals mg→mg d.name=some (.ref fa)→
   ∃fd:FuncData,(∀(s:Shared) (u:Value),BindsTo s fd ⟨[u],[]⟩ [(x,u)])∧
    ∀base:Heap,(K w.params).In base→base.Ns mainGlobals mg→a8 l.prog w (K w.params) mg base (fun _ _ _ _ _ _=>False) k fa fd [x] (sp w))
 (hsp:∀(w:World) (H:Hp) (a:Addr) (ns:List Int),ns.length≤n→Entry (K w.params) ts a ns H→sp w [.ref a] H (fun v _=>v= .bl true) fun _ _ _=>False):
 PySem.W.WalkO q loose XP YP l.row.toRowW d [] (fun f vs=>PySem.call f vs):=by
 refine Att.zJ hn hdf fun w s₀ s₁ mg mb fa o pm cd doc a vs ns G Y ho hd hcd hmg hobj hints hlen hg=>?_
 obtain⟨KX,hT⟩:=hY w _ Y
 obtain⟨fd,hb,hF⟩:=F w mg fa _ KX G.T.g hmg
 exact Dw KX G.T.g G.T.b G.T.builtins G.T.nolimit (G.T.seer hq) hgt G.T.bmain hT hg hobj hints (Nat.le_trans hlen hn2) hr hF hb fun H hE=>hsp w H a ns hlen hE
end L2
namespace L3
open PySem PySem.Spec L2
open PyProof.Rows hiding St
section
variable {X:Cx}{pins:List (Addr×Obj)}{σ:L2.St}{H:Hp}{s:Shared}{p:Addr}{o o':Obj}{h':Heap}
theorem j_{t':Nat}(I:Inv X pins σ H s)(hd:∀v,o.data≠ .cell v)(hfr:o.isFreed=false:=by rfl):Inv X (pins++[(s.heap.objs.size,o)]) σ H {s with heap:=s.heap.push o,toks:=t'}:=by
 have I':=I.kept (h':=s.heap.push o) (t':=t') (fun b u e=>Heap.get?_push_of_some _ e)
 refine I'.rV fun q hq=>?_
 rcases List.mem_append.mp hq with hq|hq
 · exact I'.pin q (List.mem_append_right _ hq)
 · have e:q=(s.heap.objs.size,o):=by simpa using hq
   subst e
   exact⟨Heap.get?_push_size _ hfr,I.aL.fresh (Nat.le_refl _),Nat.ne_of_gt I.lt,I.Kd (Nat.le_refl _),hd⟩
theorem fj(I:Inv X (pins++[(p,o)]) σ H s):s.heap.get? p=some o∧H p=none∧p≠X.env.locals∧p∉X.fs∧∀v,o.data≠ .cell v:=
 I.pin (p,o) (List.mem_append_right _ (List.mem_append_right _ (List.mem_singleton.mpr rfl)))
theorem xS(I:Inv X (pins++[(p,o)]) σ H s):∀x c,X.env.cells.lookup x=some c→c≠p:=fun x c e z=>by
 obtain⟨v,u,hu,hd⟩:=I.cell x c e
 obtain⟨h1,_,_,_,h5⟩:=fj I
 rw[z,h1]at hu;cases hu
 exact h5 v hd
theorem nC{t':Nat}(I:Inv X (pins++[(p,o)]) σ H s)(hs:Heap.SameBut p s.heap h')(hn:h'.get? p=some o')(hd:∀v,o'.data≠ .cell v)(h0:X.s₀.heap.objs.size≤p)(hp:∀q∈X.pn++pins,q.1≠p):
 Inv X (pins++[(p,o')]) σ H {s with heap:=h',toks:=t'}:=by
 obtain⟨_,n,neL,nfs,_⟩:=fj I
 have I0:Inv X pins σ H s:=I.gp
 have I1:=I0.turned (t':=t') (h':=h') (it:=p) (fun b u hb e=>(hs.2 b hb).trans e) n neL (.inr h0) (xS I) hp
 refine I1.rV fun q hq=>?_
 rcases List.mem_append.mp hq with hq|hq
 · exact I1.pin q (List.mem_append_right _ hq)
 · have e:q=(p,o'):=by simpa using hq
   subst e
   exact⟨hn,n,neL,nfs,hd⟩
theorem CQ{u:HO}(I:Inv X (pins++[(p,o)]) σ H s)(h0:X.s₀.heap.objs.size≤p)(hp:∀q∈X.pn++pins,q.1≠p)(new:dc X.prog X.w (upd H p u) s.heap p u):Inv X pins σ (upd H p u) s:=by
 obtain⟨e0,n,neL,nfs,_⟩:=fj I
 have ne:∀ {b:Addr} {w:HO},H b=some w→b≠p:=fun e=>c9 e n
 have ne0:∀ {b:Addr} {w:Obj},X.s₀.heap.get? b=some w→b≠p:=fun e=>Nat.ne_of_lt (Nat.lt_of_lt_of_le (Heap.lt_size e) h0)
 refine⟨I.ok,I.os,I.bare,⟨I.base.keep,I.base.slot,fun b w e q hx=>?_,I.base.there,fun b xs e=>?_,fun b w y e=>?_,fun b ps e=>?_⟩,I.loc,I.cell,?_,fun x c e=>?_,fun q hq=>?_,fun b w e=>?_,I.len⟩
 · rw[ax (ne0 e)];exact I.base.free b w e q hx
 · have:=I.base.ou b xs e;rw[ax (ne this)];exact this
 · have:=I.base.m6 b w y e;rw[ax (ne this)];exact this
 · obtain⟨m,q⟩:=I.base.nr b ps e
   exact⟨m,by rw[ax (ne q)];exact q⟩
 · rw[ax (Ne.symm neL)];exact I.free
 · rw[ax (xS I x c e)];exact I.g9 x c e
 · have hq':q∈X.pn++(pins++[(p,o)]):=by
    rcases List.mem_append.mp hq with z|z
    · exact List.mem_append_left _ z
    · exact List.mem_append_right _ (List.mem_append_left _ z)
   obtain⟨a1,a2,a3⟩:=I.pin q hq'
   exact⟨a1,by rw[ax (hp q hq)];exact a2,a3⟩
 · by_cases hb:b=p
   · subst hb;rw[a5]at e;cases e;exact new
   · rw[ax hb]at e
     exact(I.aL b w e).oF (fun _ _ _ q=>q) (fun c q=>by rw[ax (ne q)];exact q) fun c xs q=>by rw[ax (ne q)];exact q
end
noncomputable def l7(X:Cx)(pins:List (Addr×Obj))(σ:L2.St)(R:Hp→Prop)(own:List (Addr×Obj))(s:Shared):Prop:=∃H,Inv X (pins++own) σ H s∧R H
section
variable {X:Cx}{pins:List (Addr×Obj)}{σ:L2.St}{R:Hp→Prop}{s:Shared}{A:Around}{E:Value→Shared→Prop}{a kS:Addr}{e1 e:Nat}{keys:Array Value}{P:PySem.Fin→Shared→Prop}
structure Own(X:Cx)(pins:List (Addr×Obj))(p:Addr):Prop where
 ge:X.s₀.heap.objs.size≤p
 ne:∀q∈X.pn++pins,q.1≠p
theorem r_{H:Hp}(I:Inv X pins σ H s):Own X pins s.heap.objs.size:=⟨I.sz,fun q hq=>Nat.ne_of_lt (Heap.lt_size (I.pin q hq).1)⟩
theorem x4{p:Addr}{q:Addr×Obj}(h:Own X pins p)(hq:q.1≠p):Own X (pins++[q]) p:=⟨h.ge,fun r hr=>by
 rcases List.mem_append.mp hr with z|z
 · exact h.ne r (List.mem_append_left _ z)
 · rcases List.mem_append.mp z with z|z
   · exact h.ne r (List.mem_append_right _ z)
   · have e:r=q:=by simpa using z
     rw[e];exact hq⟩
theorem xV{x y:Addr×Obj}(J:l7 X pins σ R [x,y] s):∃H,Inv X ((pins++[x])++[y]) σ H s∧R H:=by
 obtain⟨H,I,r⟩:=J
 exact⟨H,by rw[List.append_assoc];exact I,r⟩
theorem CY{x y:Addr×Obj}{H:Hp}(I:Inv X ((pins++[x])++[y]) σ H s)(r:R H):l7 X pins σ R [x,y] s:=⟨H,by rw[List.append_assoc]at I;exact I,r⟩
theorem yJ{st:SortSt}(J:l7 X pins σ R [(a,seqObj "list" #[] e1),(kS,seqObj "list" keys e)] s)(ha:Own X pins a)(hk:Own X pins kS)(hka:kS≠a)(hz1:keys.size≤sizeLine)(hz2:(arrOf st).size≤sizeLine)(hf:failedOf st=none)
 (h:∀s' c,l7 X pins σ R [(a,seqObj "list" ((arrOf st).map (·.2)) c)] s'→P (.done (.ret .none)) s'):
 wpAny (model X.prog X.w) A (PyProof.Rows.ksk_tail a false e1 (.ref kS) st) P E s:=by
 obtain⟨H,I,r⟩:=xV J
 have k1:=(fj I).1
 have s1:=Heap.SameBut.update s.heap kS (Obj.mapSeq fun _=>(#[]:Array Value))
 have I1:=nC (t':=s.toks) I s1 (get?_update_seq k1 fun _=> #[]) (fun v z=>by cases z) hk.ge (x4 hk hka.symm).ne
 have I2:Inv X (pins++[(a,seqObj "list" #[] e1)]) σ H {s with heap:=s.heap.update kS (Obj.mapSeq fun _=>(#[]:Array Value)),toks:=s.toks}:=I1.gp
 have a1:=(fj I2).1
 have s2:=Heap.SameBut.update (s.heap.update kS (Obj.mapSeq fun _=>(#[]:Array Value))) a (Obj.mapSeq fun _=>(arrOf st).map (·.2))
 have I3:=nC (t':=s.toks) I2 s2 (get?_update_seq a1 fun _=>(arrOf st).map (·.2)) (fun v z=>by cases z) ha.ge ha.ne
 unfold ksk_tail
 simp only[Bool.false_eq_true,if_false]
 refine wpAny_bind (listUpdate_at k1 rfl ?_ hz1 (Nat.zero_le _))
 refine wpAny_bind (wpAny_letGo ?_)
 refine wpAny_bind (seqEpoch_at a1 rfl ?_)
 refine wpAny_bind (listUpdate_at a1 rfl ?_ (Nat.zero_le _) (Nat.le_succ_of_le (by rw[Array.size_map];exact hz2)))
 rw[hf]
 simp only[bne_self_eq_false,Bool.false_eq_true,if_false]
 exact wpAny_pure (h _ _ ⟨H,I3,r⟩)
noncomputable def BN(kz:List Int)(vs out:List Value):Prop:=
 ∃ps:List (Int×Value),ps.Perm (kz.zip vs)∧out=ps.map Prod.snd∧ps.Pairwise fun p q=>p.1<q.1∨(p.1=q.1∧numOf p.2<numOf q.2)
theorem AH{kz:List Int}{vs:List Value}(hk:IntsAre keys.toList kz){xs:Array Keyed}(hp:xs.Perm (keys.zip vs.toArray))(hs:iX xs xs.size):BN kz vs (xs.map (·.2)).toList:=by
 have hl:xs.toList.Perm (keys.toList.zip vs):=by rw[←ksk_zip];exact Array.perm_iff_toList_perm.mp hp
 refine⟨xs.toList.map fun p=>(numOf p.1,p.2),?_,?_,?_⟩
 · have e2:(keys.toList.zip vs).map (fun p:Keyed=>(numOf p.1,p.2))=kz.zip vs:=by
    rw[←hk.nums,List.zip_map_left]
    exact List.map_congr_left fun⟨x,y⟩ _=>rfl
   rw[←e2]
   exact hl.map _
 · rw[Array.toList_map,List.map_map];rfl
 · rw[List.pairwise_iff_getElem]
   intro i j hi hj hij
   have hi':i<xs.size:=by simpa using hi
   have hj':j<xs.size:=by simpa using hj
   have q:=hs i j hij hj'
   unfold lE Jn at q
   rw[K_eq hi',K_eq hj',getElem?_pos xs i hi',getElem?_pos xs j hj']at q
   simpa using q
theorem HA{kz:List Int}{vs:List Value}(J:l7 X pins σ R [(a,seqObj "list" #[] e1),(kS,seqObj "list" keys e)] s)(ha:Own X pins a)(hk:Own X pins kS)(hka:kS≠a)(hi:IntsAre keys.toList kz)(hl:kz.length=vs.length)(h64:vs.length<64)
 (hup:vs.Pairwise fun x y=>numOf x<numOf y)
 (h:∀s' out c,l7 X pins σ R [(a,seqObj "list" out c)] s'→BN kz vs out.toList→P (.done (.ret .none)) s'):
 wpAny (model X.prog X.w) A (ksk_end a false vs.toArray e1 (.ref kS) keys) P E s:=by
 have hsz:keys.size=vs.length:=by have:=hi.length;rw[Array.length_toList]at this;omega
 have hzs:(keys.zip vs.toArray).size=vs.length:=by rw[Array.size_zip,hsz,List.size_toArray,Nat.min_self]
 have hbig:vs.length≤sizeLine:=Nat.le_trans (Nat.le_of_lt h64) (by decide)
 have hta:hZ (keys.zip vs.toArray).size (keys.zip vs.toArray) 1:=fun i j hij _ hj=>by
  rw[hzs]at hj
  have e1:(keys.zip vs.toArray)[i]?=some (keys.toList[i]'(by rw[Array.length_toList];omega),vs[i]'(by omega)):=by
   rw[←Array.getElem?_toList,ksk_zip,List.getElem?_eq_getElem (by rw[List.length_zip,Array.length_toList];omega),List.getElem_zip]
  have e2:(keys.zip vs.toArray)[j]?=some (keys.toList[j]'(by rw[Array.length_toList];omega),vs[j]'(by omega)):=by
   rw[←Array.getElem?_toList,ksk_zip,List.getElem?_eq_getElem (by rw[List.length_zip,Array.length_toList];omega),List.getElem_zip]
  unfold Jn
  rw[e1,e2]
  exact List.pairwise_iff_getElem.mp hup i j (by omega) (by omega) hij
 unfold ksk_end
 simp only[Bool.false_eq_true,if_false]
 by_cases h2:vs.toArray.size<2
 · rw[if_pos h2,if_pos h2]
   refine wpAny_bind (wpAny_pure ?_)
   rw[StateT.run_pure]
   refine wpAny_bind (wpAny_pure ?_)
   refine yJ (st:=SortSt.mk' general' (keys.zip vs.toArray) #[] 7 none) J ha hk hka (by omega) (by show(keys.zip vs.toArray).size≤_;omega) rfl fun s' c J'=>h s' _ c J' ?_
   refine AH hi (Array.Perm.refl _) fun i j hij hj=>?_
   have hj':j<(keys.zip vs.toArray).size:=hj
   rw[List.size_toArray]at h2
   omega
 · rw[if_neg h2,if_neg h2]
   rw[List.size_toArray]at h2
   rw[ksk_kind hi (by omega)]
   refine wpAny_bind (wpAny_pure ?_)
   refine wpAny_bind (wpAny_mono (D5 (a₀:=keys.zip vs.toArray) (st:=SortSt.mk' oneType' (keys.zip vs.toArray) #[] 7 none)
    (Q:=fun _ st'=>(arrOf st').Perm (keys.zip vs.toArray)∧failedOf st'=none∧iX (arrOf st') (keys.zip vs.toArray).size)
    (ksk_intKeys hi) ⟨Array.Perm.refl _,rfl,rfl,rfl⟩ hta (by omega) (by omega) fun st' b1 b2 b3=>⟨b1,b2,b3⟩) ?_ fun _ _ z=>z)
   rintro⟨⟨⟩,st'⟩ s' ⟨rfl,hp,hf,hs⟩
   have hz2:=hp.size_eq
   refine yJ (st:=st') J ha hk hka (by omega) (by rw[hz2];omega) hf fun s' c J'=>h s' _ c J' (AH hi hp (by rw[hz2];exact hs))
theorem Eg{f:Value}{kz:List Int}{vs:List Value}(J:l7 X pins σ R [(a,seqObj "list" #[] e1),(kS,seqObj "list" #[] 0)] s)(ha:Own X pins a)(hk:Own X pins kS)(hka:kS≠a)(hl:kz.length=vs.length)(h64:vs.length<64)
 (hup:vs.Pairwise fun x y=>numOf x<numOf y)
 (turn:∀(i:Nat) (v:Value) (k:Int),vs[i]?=some v→kz[i]?=some k→∀(own:List (Addr×Obj)) (s:Shared),l7 X pins σ R own s→wpAny (model X.prog X.w) A (call f [v]) (fun u s'=>(∃t,u= .int k t)∧l7 X pins σ R own s') (fun _ _=>False) s)
 (h:∀s' out c,l7 X pins σ R [(a,seqObj "list" out c)] s'→BN kz vs out.toList→P (.done (.ret .none)) s'):
 wpAny (model X.prog X.w) A (ksk_rest a f false vs.toArray e1 (.ref kS)) P E s:=by
 have hbig:vs.length≤sizeLine:=Nat.le_trans (Nat.le_of_lt h64) (by decide)
 unfold ksk_rest
 refine wpAny_bind (wpAny_rule ?_)
 first
  |rw[List.forIn_toArray]
  |(rw[←Array.forIn_toList];simp only[List.toList_toArray])
  |rw[←Array.forIn_toList]
 refine wpAny_bind (ksk_fold (fun i s'=>∃kA e,l7 X pins σ R [(a,seqObj "list" #[] e1),(kS,seqObj "list" kA e)] s'∧IntsAre kA.toList (kz.take i)) vs 0 s ⟨#[],0,J,by simpa using IntsAre.nil⟩ ?st ?en)
 case st=>
  rintro j x s' hx ⟨kA,e,J',hk'⟩
  simp only[Nat.zero_add]at hk'⊢
  have hj:j<vs.length:=(List.getElem?_eq_some_iff.mp hx).1
  have hkj:kz[j]?=some (kz[j]'(by omega)):=List.getElem?_eq_getElem _
  have hz:kA.size≤vs.length:=by
   have:=hk'.length
   rw[Array.length_toList,List.length_take]at this
   omega
  refine wpAny_bind (wpAny_attempt (wpAny_mono (turn j x _ hx hkj _ s' J') (fun v s2 he=>?_) fun _ _ z=>z.elim))
  obtain⟨⟨t,rfl⟩,J2⟩:=he
  obtain⟨H,I,r⟩:=xV J2
  have k1:=(fj I).1
  have s1:=Heap.SameBut.update s2.heap kS (Obj.mapSeq (·.push (.int (kz[j]'(by omega)) t)))
  have I1:=nC (t':=s2.toks) I s1 (get?_update_seq k1 (·.push (.int (kz[j]'(by omega)) t))) (fun v z=>by cases z) hk.ge (x4 hk hka.symm).ne
  refine wpAny_bind (listUpdate_at k1 rfl ?_ (by omega) (Nat.le_trans (Nat.le_of_eq (Array.size_push ..)) (by omega)))
  refine wpAny_pure ⟨rfl,_,_,CY I1 r,?_⟩
  have ek:kz.take (j+1)=kz.take j++[kz[j]'(by omega)]:=by rw[List.take_add_one,hkj];simp
  rw[ek,Array.toList_push]
  exact ksk_snoc hk'
 case en=>
  rintro s' ⟨kA,e,J',hk'⟩
  rw[show kz.take (0+vs.length)=kz from List.take_of_length_le (by omega)]at hk'
  obtain⟨H,I,r⟩:=xV J'
  refine wpAny_bind (listItems_at (fj I).1 rfl ?_)
  exact HA J' ha hk hka hk' hl h64 hup h
theorem Cd{f:Addr}{l:Addr}{kz:List Int}{vs:List Value}{H:Hp}{Q:Value→Shared→Prop}(I:Inv X pins σ H s)(r:R H)(hli:s.heap.IsList l vs.toArray)(hl:kz.length=vs.length)(h64:vs.length<64)
 (hup:vs.Pairwise fun x y=>numOf x<numOf y)
 (turn:∀(i:Nat) (v:Value) (k:Int),vs[i]?=some v→kz[i]?=some k→∀(own:List (Addr×Obj)) (s:Shared),l7 X pins σ R own s→wpAny (model X.prog X.w) A.in1.in1 (call (.ref f) [v]) (fun u s'=>(∃t,u= .int k t)∧l7 X pins σ R own s') (fun _ _=>False) s)
 (h:∀D s' out c,Own X pins D→l7 X pins σ R [(D,seqObj "list" out c)] s'→BN kz vs out.toList→Q (.ref D) s'):
 wpAny (model X.prog X.w) A (call (.builtin "sorted") [.ref l] [(Str.ofString "key",.ref f)]) Q E s:=by
 have hbig:vs.length≤sizeLine:=Nat.le_trans (Nat.le_of_lt h64) (by decide)
 refine call_function_entry_kw kind_sorted plain_sorted entry_sorted (ksk_s1 _ _) ?_
 unfold Builtin.«sorted»
 refine wpAny_bind (m:=checkCount "sorted" 1 1 _) (wpAny_pure ?_)
 refine wpAny_bind (collect_list hli ?_ hbig)
 have I1:=j_ (o:=seqObj "list" #[] 0) (t':=s.toks) I (fun v z=>by cases z)
 have s1:=Heap.SameBut.update (s.heap.push (seqObj "list" #[] 0)) s.heap.objs.size (Obj.mapSeq (· ++vs.toArray))
 have I2:=nC (t':=s.toks) I1 s1 (get?_update_seq (fj I1).1 (· ++vs.toArray)) (fun v z=>by cases z) (r_ I).ge (r_ I).ne
 have I3:Inv X pins σ H {s with heap:=(s.heap.push (seqObj "list" #[] 0)).update s.heap.objs.size (Obj.mapSeq (· ++vs.toArray)),toks:=s.toks}:=I2.gp
 refine wpAny_bind (wpAny_newList ?_ hbig)
 generalize hs3:({s with heap:=(s.heap.push (seqObj "list" #[] 0)).update s.heap.objs.size (Obj.mapSeq (· ++vs.toArray))}:Shared)=s3
 have I3':Inv X pins σ H s3:=by rw[←hs3];exact I3
 have oD:=r_ I3'
 have I4:=j_ (o:=seqObj "list" vs.toArray 0) (t':=s3.toks) I3' (fun v z=>by cases z)
 have hD:=(fj I4).1
 refine wpAny_bind (wpAny_holding (wpAny_call_entry_kw slot_list_sort ⟨_,hD,rfl⟩ entry_list_sort ?body (ksk_l1 _ _)))
 case body=>
  show wpAny (model X.prog X.w) A.in1.in1 (Builtin.«list.sort» ⟨[.ref s3.heap.objs.size],[(Str.ofString "key",.ref f)]⟩) _ _ _
  rw[ksk_t1]
  unfold ksk_tree
  refine wpAny_bind (listItems_at hD rfl ?_)
  have s5:=Heap.SameBut.update (s3.heap.push (seqObj "list" vs.toArray 0)) s3.heap.objs.size (Obj.mapSeq fun _=>(#[]:Array Value))
  have I5:=nC (t':=s3.toks) I4 s5 (get?_update_seq hD fun _=> #[]) (fun v z=>by cases z) oD.ge oD.ne
  have hD5:=(fj I5).1
  refine wpAny_bind (listUpdate_at hD rfl ?_ (by rw[List.size_toArray];exact hbig) (Nat.zero_le _))
  refine wpAny_bind (seqEpoch_at hD5 rfl ?_)
  refine wpAny_bind (wpAny_newTuple ?_ (by show vs.length≤_;exact hbig))
  have I6:=(j_ (o:=seqObj "tuple" vs.toArray 0) (t':=s3.toks) I5 (fun v z=>by cases z)).gp
  refine wpAny_bind (wpAny_newList ?_ (Nat.zero_le _))
  have ok:=r_ I6
  have I7:=j_ (o:=seqObj "list" #[] 0) (t':=s3.toks) I6 (fun v z=>by cases z)
  refine wpAny_holding ?_
  have okp:Own X pins _:=⟨ok.ge,fun q hq=>ok.ne q (by
   rcases List.mem_append.mp hq with z|z
   · exact List.mem_append_left _ z
   · exact List.mem_append_right _ (List.mem_append_left _ z))⟩
  refine Eg (CY I7 r) oD okp (fun z=>ok.ne (s3.heap.objs.size,_) (List.mem_append_right _ (List.mem_append_right _ (List.mem_singleton.mpr rfl))) z.symm) hl h64 hup turn fun s' out c J' so=>⟨_,rfl,?_⟩
  exact wpAny_pure ⟨_,rfl,h _ s' out c oD J' so⟩
end
end L3
namespace L3
open PySem PySem.Spec L2
open PyProof.Rows hiding St
structure mm(X:Cx)(scope:Scope)(Nc:List Str)(fr:List (Option Nat))(p:Str):Prop where
 sc:bN X scope Nc fr
 Cz:∀x∈scope.names,x.2≠ .cell
 co:scope.isCoroutine=false
 gen:scope.isGenerator=false
 p0:Nc[0]?=some p
 f0:fr[0]?=some none
 loc:scope.names.lookup p=some .local
noncomputable abbrev A6(X:Cx)(scope:Scope)(qual:Str)(f c:Addr)(s:Shared):Env:=PySem.W.envX qual scope s.heap.objs.size f (.ref c) (cZ X.env.cells scope.names [])
noncomputable def Cp(X:Cx)(scope:Scope)(Nc:List Str)(qual:Str)(f c:Addr)(s:Shared)(H:Hp):Cx:=
 {X with A:=X.A.in1.in1.deeper (A6 X scope qual f c s),N:=Nc,s₀:=s,H₀:=H,env:=A6 X scope qual f c s,outer:=X.stack,stack:=A6 X scope qual f c s::X.stack,ex:=[],fn:=fun _=>false,calm:=true,pn:=[],xe:=fun _ _=>False}
section
variable {X:Cx}{scope:Scope}{Nc:List Str}{fr:List (Option Nat)}{p qual:Str}{f c:Addr}{pins:List (Addr×Obj)}{σ:L2.St}{H:Hp}{s:Shared}
theorem Kf(S:mm X scope Nc fr p)(I:Inv X pins σ H s)(hc:X.calm=true):(Cp X scope Nc qual f c s H).Ok where
 mod:=I.ok.mod
 kind:=S.sc.kind
 glob:=rfl
 blt:=rfl
 above:=Nat.le_refl _
 inj:=fun x y a h1 h2=>I.ok.inj x y a (cK _ [] (fun _ _ e=>by cases e) x a h1) (cK _ [] (fun _ _ e=>by cases e) y a h2)
 has:=fun x hx=>by
  have hx':scope.names.lookup x=some .cell∨scope.names.lookup x=some .free:=hx
  rcases hx' with hx|hx
  · exact absurd rfl (S.Cz _ (PySem.mem_of_lookup hx))
  · exact h8 scope.names [] (I.ok.has x (S.sc.free _ (PySem.mem_of_lookup hx) rfl)) (.inl (PySem.mem_of_lookup hx))
 yT:=fun x a hf _=>by cases hf
 hd:=fun _=>I.ok.hd hc
 frames:=Around.frames_deeper (by show X.A.frames=_;exact I.ok.frames)
 Ap:= .inr ⟨rfl,rfl⟩
 CK:=fun b hb=>by cases hb
 bs:=I.bs
 qu:=Nat.le_trans I.ok.qu I.sz
 tZ:=fun b o e hb=>by cases hb
 tH:=fun b hb=>by cases hb
 jU:=I.stack
 vc:=I.wa
 gt:=I.ok.gt
theorem Hk{h':Heap}{t':Nat}{v:V}{u:Value}(S:mm X scope Nc fr p)(I:Inv X pins σ H s)(hc:X.calm=true)(r:RelV v u)(hn:h'.Ns s.heap.objs.size (fun x=>[(p,u)].reverse.lookup x))
 (k:∀b o,s.heap.get? b=some o→h'.get? b=some o):Inv (Cp X scope Nc qual f c s H) [] ((σC fr σ).set 0 (some v)) H {s with heap:=h',toks:=t'} where
 ok:=Kf S I hc
 os:=rfl
 bare:=I.bare
 base:=Un.kept k
 loc:=⟨_,hn,fun i x w h1 h2 h3=>by
  by_cases hi:i=0
  · subst hi
    have hp:=S.p0
    have e:p=x:=Option.some.inj (hp.symm.trans h1)
    subst e
    have hl:0<(σC fr σ).length:=by
     have:=(List.getElem?_eq_some_iff.mp h2).1
     rw[List.length_set]at this;exact this
    rw[List.getElem?_set_self hl]at h2
    cases h2
    exact⟨u,r,.inl ⟨S.loc,by simp⟩⟩
  · rw[List.getElem?_set_ne (Ne.symm hi)]at h2
    obtain⟨j,q1,q2⟩:=Aw h2
    obtain⟨n1,n2,n3⟩:=S.sc.map i j x h1 q1
    obtain⟨m,hm,hl⟩:=I.loc
    obtain⟨u',r',lk⟩:=hl j x w n1 q2 (n3.elim (fun z=> .inr (.inl z)) fun z=> .inr (.inr z))
    refine⟨u',r',?_⟩
    rcases lk with⟨z,_⟩|⟨_,a,e,ic⟩
    · rcases n3 with y|y<;>(rw[y]at z;cases z)
    · obtain⟨a',e'⟩:=h8 scope.names [] ⟨a,e⟩ (.inl (PySem.mem_of_lookup n2))
      have e2:=cK _ [] (fun _ _ e=>by cases e) x a' e'
      rw[e]at e2;cases e2
      exact .inr ⟨.inr n2,a,e',ic.keeps k⟩⟩
 cell:=fun x a h=>by
  obtain⟨v,q⟩:=I.cell x a (cK _ [] (fun _ _ e=>by cases e) x a h)
  exact⟨v,q.keeps k⟩
 free:=I.aL.fresh (Nat.le_refl _)
 g9:=fun x a h=>I.g9 x a (cK _ [] (fun _ _ e=>by cases e) x a h)
 pin:=fun q hq=>by cases hq
 aL:=I.aL.kept k
 len:=by rw[List.length_set];unfold σC;rw[List.length_map];exact S.sc.len
theorem Fv{R:Hp→Prop}{params:Arguments}{body:Expr}{tb:TE}{own:List (Addr×Obj)}{k:Int}{v:V}{u pm ctv:Value}(S:mm X scope Nc fr p)(hc:X.calm=true)(hr:X.A.depth<recursionLimit)
 (hb:∀(s:Shared) (H:Hp),PE (Cp X scope Nc qual f c s H) body tb)
 (hbind:∀(cl:List (Str×Addr)) (pm cd ct v:Value),bindArgs (PySem.W.kla_fn "<lambda>" qual params body scope cl pm cd ct) ⟨[v],[]⟩=pure [(p,v)])
 (r:RelV v u) (hf:(f,PySem.W.kla_obj "<lambda>" qual params body scope (cZ X.env.cells scope.names []) pm c ctv)∈pins)
 (hcr:∀(H:Hp) (s:Shared),Inv X (pins++own) σ H s→R H→s.heap.CodeRec (.ref c) qual)
 (hq:∀H,R H→tb ((σC fr σ).set 0 (some v)) H fun x H'=>x= .int k∧R H') (J:l7 X pins σ R own s):
 wpAny (model X.prog X.w) X.A.in1.in1 (call (.ref f) [u]) (fun u' s'=>(∃t,u'= .int k t)∧l7 X pins σ R own s') (fun _ _=>False) s:=by
 obtain⟨H,I,rH⟩:=J
 have ho:=(I.pin _ (List.mem_append_right _ (List.mem_append_left _ hf))).1
 refine wpAny_call (PySem.W.kla_callFunE (fd:=PySem.W.kla_fn "<lambda>" qual params body scope (cZ X.env.cells scope.names []) pm (.ref c) ctv) (by show X.A.depth<_;exact hr) ho rfl S.co S.gen rfl (hcr H s I rH) ?_)
 rw[hbind]
 refine wpAny_pure (wpAny_newFunctionEnv S.Cz (fun y hy=>by
  have e:y=(p,u):=by simpa using hy
  rw[e];exact S.loc) (fun h₁ hns hsb=>?_) S.sc.kind)
 have hk:∀b o,s.heap.get? b=some o→h₁.get? b=some o:=fun b o e=>hsb.extBut b o (Nat.ne_of_lt (Heap.lt_size e)) (Heap.get?_push_of_some _ e)
 refine⟨I.nolimit.keeps hk,?_⟩
 show codeAny _ X.A.in1.in1 (.expr body (A6 X scope qual f c s)) _ _
 refine PySem.W.kla_codeExpr (wpAny_mono (hb s H [] _ _ H _ (Hk S I hc r hns hk) (hq H rH)) (fun w s' he=>?_) fun e s' z=>False.elim z)
 obtain⟨x,H',I',rx,rfl,rH'⟩:=he
 exact⟨rx,H',I.A9 (s':=s') (ch:=[]) I'.os I'.base I'.aL I'.bare (fun b z=>absurd z (by simp)),rH'⟩
theorem set_same{α:Type}:∀ {l:List α} {n:Nat} {x:α},l[n]?=some x→l.set n x=l
 | [],n,x,h=>by simp at h
 |a::l,0,x,h=>by simp at h;subst h;rfl
 |a::l,n+1,x,h=>by
  rw[List.set_cons_succ,set_same (n:=n) (by simpa using h)]
theorem EA{params:Arguments}{body:Expr}{lpos:Pos}{c0 T:Addr}{α:List (Option Addr)}{G F:Hp}{st:ag}{n0:Nat}{b:Bool}{E:Value→Shared→Prop}{Q:Value→Shared→Prop}(S:mm X scope Nc fr p)(hcode:X.env.code= .ref c0)(hC:PySem.W.codeHdIn X.K c0 T=true)
 (hdef:defaultsOf params X.env=([],[])) (hql:X.env.qual++"<lambda>"=qual) (I:Inv X pins σ H s) (Sp:bU G F H) (SR:aS α st G) (hn0:st[n0]?=some (.tab T lpos qual b))
 (h:∀(f c:Addr) (ctv pm:Value) (G2 H2:Hp) (s2:Shared),Inv X (pins++[(f,PySem.W.kla_obj "<lambda>" qual params body scope (cZ X.env.cells scope.names []) pm c ctv)]) σ H2 s2→Step α G α G2→bU G2 F H2→aS α (st.set n0 (.tab T lpos qual true)) G2→
   (some c∉α∧∃o vs t,G2 c=some (.fN o (.own c))∧o.data= .fields vs∧vs[1]?=some (.str qual t))→Q (.ref f) s2):
 wpAny (model X.prog X.w) X.A (eval (.Lambda params body scope lpos) X.env) Q E s:=by
 refine PySem.W.kla_eval hdef ?_
 rw[hql]
 rcases SR.at' n0 _ hn0 with⟨z,_⟩|⟨a,ha,rfl,ps,gP,tr,cs⟩
 · cases z
 have hP:=I.aL a _ (Sp.get gP)
 have hP:s.heap.get? a=some (PySem.W.tabObj ps):=hP
 have hg:s.heap.Ns mainGlobals X.mg:=I.mod.glob.keeps I.bk
 obtain⟨bm,ob,b1,b2,b3,b4,b5,b6⟩:=I.mod.bmain
 have b3':=I.bk _ _ b3
 have hgP:mainGlobals≠a:=fun q=>by
  obtain⟨o,es,ep,e,hd,_⟩:=hg
  rw[q,hP]at e;cases e;cases hd
 have n1:bm≠mainGlobals:=fun q=>by
  obtain⟨o,es,ep,e,hd,_⟩:=hg
  rw[q,e]at b3';cases b3';rw[hd]at b6;cases b6
 have n2:bm≠a:=fun q=>by rw[q,hP]at b3';cases b3';cases b4
 have hB:s.heap.BuiltinsAt X.mg a:=⟨bm,ob,b1,b2,n1,n2,b3',b4,b5,b6⟩
 have hcl:closureFor scope X.env=pure (cZ X.env.cells scope.names []):=lZ fun x hx hk=>I.ok.has x.1 (S.sc.free x hx hk)
 have C:PySem.W.CodeHd s.heap c0 a:=PySem.W.codeHd_of_K I.gm hC
 rcases cs with⟨rfl,hnf⟩|⟨rfl,c,o,vs,t,q1,q2,q3,q4,q5⟩
 · refine PySem.W.kla_makeFunction hcl I.ok.glob hg hcode C hP tr hnf hgP hB fun c' ctv h' tk hx hge hlt hrec htb=>?_
   obtain⟨c2,oc,vs,t,e2,hoc,hd,hv⟩:=hrec
   cases e2
   have hHc:H c'=none:=I.aL.fresh hge
   have hGc:G c'=none:=(Sp.none hHc).1
   have hHa:H a=some (.jw ps):=Sp.get gP
   have hac:a≠c':=c9 hHa hHc
   let ps':=ps++ #[rawInt lpos.line,rawInt lpos.col,.ref c']
   have nb:∀ {b:Addr},H b=none→b≠a:=fun e z=>by rw[z,hHa]at e;cases e
   have I1:Inv X pins σ (upd (upd H c' (.fN oc (.own c'))) a (.jw ps')) {s with heap:=h',gens:=s.gens,drawn:=s.drawn,toks:=tk}:=by
    have old:∀ {b:Addr} {u:HO},H b=some u→b≠a→upd (upd H c' (.fN oc (.own c'))) a (.jw ps') b=some u:=fun e n=>by rw[ax n,ax (c9 e hHc)];exact e
    refine I.step (ch:=[]) (fun _ z=>nomatch z) (fun b o _ _ _ e n=>hx b o (nb n) e) (fun b o _ _ _ e n=>⟨o.slots,hx b o (nb n) e⟩) (fun b o _ e n=>?_) (fun b o _ e=>?_) (fun b xs e=>?_) (fun b o u e=>?_) (fun b qs e=>?_) (fun m hm=>?_) (fun b u e=>?_) I.bare
    · rw[ax (nb n),ax (Nat.ne_of_lt (Nat.lt_of_lt_of_le (Heap.lt_size e) hge))];exact n
    · by_cases hb:b=a
      · exact⟨_,by rw[hb];exact htb⟩
      · exact⟨o,hx b o hb e⟩
    · exact old e fun z=>by rw[z,hHa]at e;cases e
    · exact old e fun z=>by rw[z,hHa]at e;cases e
    · by_cases hb:b=a
      · subst hb
        rw[hHa]at e;cases e
        exact⟨_,a5⟩
      · exact⟨#[],by rw[old e hb];simp⟩
    · obtain⟨o,es,ep,ho,r⟩:=hm
      exact⟨o,es,ep,hx _ o (nb I.free) ho,r⟩
    · by_cases hb:b=a
      · subst hb;rw[a5]at e;cases e;exact htb
      · rw[ax hb]at e
        by_cases hbc:b=c'
        · subst hbc;rw[a5]at e;cases e;exact⟨hoc,_,hoc⟩
        · rw[ax hbc]at e
          refine(I.aL b u e).oF (fun d w hd q=>hx d w ?_ q) (fun d q=>old q fun z=>by rw[z,hHa]at q;cases q) fun d xs q=>old q fun z=>by rw[z,hHa]at q;cases q
          rcases hd with rfl|hd
          · exact hb
          · intro z;rw[z,hHa]at hd;cases hd
   have I2:=j_ (o:=PySem.W.kla_obj "<lambda>" qual params body scope (cZ X.env.cells scope.names []) ((X.mg "__name__").getD .none) c' ctv) (t':=tk) I1 (fun v z=>by cases z)
   have gP':upd G c' (.fN oc (.own c')) a=some (.jw ps):=by rw[ax hac];exact gP
   refine h _ c' ctv _ (upd (upd G c' (.fN oc (.own c'))) a (.jw ps')) _ _ I2 ((Step.laid hGc).trans (Step.write (List.mem_of_getElem? ha))) ((Sp.laid hHc).write gP') ((SR.laid hGc).write ha ⟨rfl,ps',a5,?_,.inr ⟨rfl,c',oc,vs,t,?_,SR.jP hGc,?_,hd,hv⟩⟩) ⟨SR.jP hGc,oc,vs,t,?_,hd,hv⟩
   · show TriplesOk (ps++ #[rawInt lpos.line,rawInt lpos.col,.ref c']).toList
     rw[Array.toList_append]
     exact TriplesOk_snoc _ _ _ _ tr
   · show codeAmong lpos (ps++ #[rawInt lpos.line,rawInt lpos.col,.ref c']).toList=_
     rw[Array.toList_append]
     exact codeAmong_snoc _ tr hnf
   · rw[ax hac.symm,a5]
   · rw[ax hac.symm,a5]
 · refine PySem.W.kla_makeFunctionHit hcl I.ok.glob hg hcode C hP tr q1 hB fun ctv h' tk hk hsz=>?_
   have I1:=I.kept (t':=tk) hk
   have I2:=j_ (o:=PySem.W.kla_obj "<lambda>" qual params body scope (cZ X.env.cells scope.names []) ((X.mg "__name__").getD .none) c ctv) (t':=tk) I1 (fun v z=>by cases z)
   refine h _ c ctv _ G H _ I2 Step.refl Sp (by rw[set_same hn0];exact SR) ⟨q2,o,vs,t,q3,q4,q5⟩
end
noncomputable def slt(p q:Int×Int):Prop:=p.1<q.1∨(p.1=q.1∧p.2<q.2)
noncomputable def zB(n0:Nat)(T:Addr)(lpos:Pos)(qual:Str)(fr:List (Option Nat))(tb te:DE):DE:=fun σ st K=>te σ st fun d st1=>∃(ns ks:List Int) (b:Bool),d= .lst (ns.map .int)∧ns.length<64∧ns.Pairwise (· < ·)∧ks.length=ns.length∧
 st1[n0]?=some (.tab T lpos qual b)∧(∀(i:Nat) (n k:Int),ns[i]?=some n→ks[i]?=some k→tb ((gb fr σ).set 0 (some (.int n))) (st1.set n0 (.tab T lpos qual true)) fun v st2=>v= .int k∧st2=st1.set n0 (.tab T lpos qual true))∧
 ∀os:List (Int×Int),os.Perm (ks.zip ns)→os.Pairwise slt→K (.lst (os.map fun p=> .int p.2)) (st1.set n0 (.tab T lpos qual true))
theorem zm{α:List (Option Addr)}{H:Hp}:∀ {ns:List Int} {vs:List V},aK α H (ns.map D.int) vs→vs=ns.map V.int
 | [],vs,h=>by unfold aK at h;exact h
 |n::ns,vs,h=>by
  unfold aK at h
  obtain⟨v,r,rfl,h1,h2⟩:=h
  unfold Rep at h1
  rw[h1,zm h2];rfl
theorem zh{α:List (Option Addr)}{H:Hp}:∀(ns:List Int),aK α H (ns.map D.int) (ns.map V.int)
 | []=>by unfold aK;rfl
 |n::ns=>by unfold aK;exact⟨_,_,rfl,by unfold Rep;rfl,zh ns⟩
theorem zk:∀ {ns:List Int} {us:List Value},Vals (ns.map V.int) us→IntsAre us ns
 | [],_,.nil=> .nil
 |n::ns,_,.cons ⟨t,rfl⟩ h=> .cons n t (zk h)
section
variable {X:Cx}{scope:Scope}{Nc:List Str}{fr:List (Option Nat)}{p x qual:Str}{params:Arguments}{e body:Expr}{te tb:DE}{lpos kpos pos ppos:Pos}{c0 T:Addr}{n0:Nat}
theorem Im(S:mm X scope Nc fr p)(hc:X.calm=true)(hr:cJ 2 X.A)(hcode:X.env.code= .ref c0)(hC:PySem.W.codeHdIn X.K c0 T=true)(hdef:defaultsOf params X.env=([],[]))(hql:X.env.qual++"<lambda>"=qual)
 (hbind:∀(cl:List (Str×Addr)) (pm cd ct v:Value),bindArgs (PySem.W.kla_fn "<lambda>" qual params body scope cl pm cd ct) ⟨[v],[]⟩=pure [(p,v)])
 (hb:∀(f c:Addr) (s:Shared) (H:Hp),PE (Cp X scope Nc qual f c s H) body (LE tb)) (ha:PA X [e] (LA (af te ao)))
 (hg:Gl X "sorted") (hm:X.mg "sorted"=none) (hv:bootBuiltins "sorted"=some (.builtin "sorted"))
 (he:backTo pos (starEach [e] X.env)=(false,eval e X.env)::backTo pos (starEach [] X.env):=by rfl) (hpl:(backTo pos (starEach [e] X.env)).any (·.1)=false:=by rfl):
 PE X (.Call (.Name "sorted" ppos) [e] [⟨some "key",.Lambda params body scope lpos,kpos⟩] pos) (LE (zB n0 T lpos qual fr tb te)):=by
 intro pins s σ H Q I h
 obtain⟨α,σd,st,K,G,F,Sp,RS,SR,t,k⟩:=h
 refine wpAny_Call_Name_kw (jO I hg hm hv ?_)
 refine callWith_kw ?_ he hpl
 let K1:DK:=fun d st1=>∃(ns ks:List Int) (b:Bool),d= .lst (ns.map .int)∧ns.length<64∧ns.Pairwise (· < ·)∧ks.length=ns.length∧
  st1[n0]?=some (.tab T lpos qual b)∧(∀(i:Nat) (n k:Int),ns[i]?=some n→ks[i]?=some k→tb ((gb fr σd).set 0 (some (.int n))) (st1.set n0 (.tab T lpos qual true)) fun v st2=>v= .int k∧st2=st1.set n0 (.tab T lpos qual true))∧
  ∀os:List (Int×Int),os.Perm (ks.zip ns)→os.Pairwise slt→K (.lst (os.map fun p=> .int p.2)) (st1.set n0 (.tab T lpos qual true))
 refine bO (ha pos pins s σ H (fun vs H1=>∃d v st1 α1 G1,vs=[v]∧K1 d st1∧Step α G α1 G1∧bU G1 F H1∧aS α1 st1 G1∧Rep α1 G1 d v) I
  ⟨α,σd,st,fun ds st1=>match ds with| [d]=>K1 d st1|_=>False,G,F,Sp,RS,SR,t,fun ds st1 q α1 G1 H1 vs s1 P1 S1 r1=>?_⟩) fun us s1 ⟨vs,H1,I1,rv,d,v,st1,α1,G1,hvs,kd,s1',P1,S1,r1⟩=>?_
 · match ds,q,r1 with
   | [d],q,r1=>
     unfold aK at r1
     obtain⟨v,r,rfl,h1,h2⟩:=r1
     unfold aK at h2
     subst h2
     exact⟨d,v,st1,α1,G1,rfl,q,s1,P1,S1,h1⟩
 subst hvs
 obtain⟨ns,ks,b,rfl,h64,hup,hlen,hn0,hkey,hK⟩:=kd
 show wpAny _ _ (evalAll ((do let v ←eval (.Lambda params body scope lpos) X.env;standAt pos;pure v)::[])) _ _ s1
 refine wpAny_evalAll_cons (wpAny_bind (EA S hcode hC hdef hql I1 P1 S1 hn0 fun f c ctv pm G2 H2 s2 I2 st2 P2 S2 ⟨hc1,o,vs,tq,hc2,hc3,hc4⟩=>wpAny_bind (wpAny_standAt (wpAny_pure (wpAny_evalAll_nil ?_)))))
 have r2:=r1.step st2
 unfold Rep at r2
 obtain⟨l,xs,rfl,hl1,hl2,hl3⟩:=r2
 have exs:=zm hl3
 subst exs
 cases rv with
 |cons ru rn=>
  cases rn
  cases ru
  have hrd:Rd H2 l (.lst (ns.map V.int)):=by
   rcases hl2 with z|⟨w,z⟩
   · exact .inl (P2.get z)
   · exact .inr ⟨w,P2.get z⟩
  obtain⟨_,au,nn,vv,hobj⟩:=hrd.ok I2.aL
  have hints:=zk vv
  have hlen2:=hints.length
  have key:∀(H':Hp),(∃α' G',Step α1 G2 α' G'∧bU G' F H'∧aS α' (st1.set n0 (.tab T lpos qual true)) G')→H' c=some (.fN o (.own c)):=fun H' ⟨α',G',q1,q2,q3⟩=>q2.get (q1.ext c _ hc1 hc2)
  show wpAny _ _ (call (.builtin "sorted") [.ref l] [(Str.ofString "key",.ref f)]) _ _ _
  refine Cd (X:=X) (pins:=pins++[(f,PySem.W.kla_obj "<lambda>" qual params body scope (cZ X.env.cells scope.names []) pm c ctv)]) (R:=fun H'=>∃α' G',Step α1 G2 α' G'∧bU G' F H'∧aS α' (st1.set n0 (.tab T lpos qual true)) G') (kz:=ks) (vs:=au)
   I2 ⟨α1,G2,Step.refl,P2,S2⟩ ⟨_,hobj,rfl,nn,rfl⟩ (by omega) (by omega) ?_ (fun i u kk hu hk own s' J=>?_) fun D s' out cc oD J so=>?_
  · rw[←List.pairwise_map,hints.nums];exact hup
  · have hi:i<ns.length:=by
     have:=(List.getElem?_eq_some_iff.mp hu).1
     omega
    obtain⟨tt,ht⟩:=hints.get i ns[i] (List.getElem?_eq_getElem hi)
    have ht:some u=some (Value.int ns[i] tt):=by rw[←hu];exact ht
    cases ht
    refine Fv (v:= .int ns[i]) (u:= .int ns[i] tt) S hc (by have:=hr.dp;omega) (hb f c) hbind ⟨tt,rfl⟩ (List.mem_append_right _ (List.mem_singleton.mpr rfl)) (fun H' s'' J' r'=>?_) (fun H' r'=>?_) J
    · have q:=J'.aL c _ (key H' r')
      exact⟨c,o,vs,tq,rfl,q.1,hc3,hc4⟩
    · obtain⟨α',G',q1,q2,q3⟩:=r'
      refine⟨α',(gb fr σd).set 0 (some (.int ns[i])),_,_,G',F,q2,?_,q3,hkey i ns[i] kk (List.getElem?_eq_getElem hi) hk,fun d' st' hd α'' G'' H'' v' s'' P'' S'' r''=>?_⟩
      · exact((RS.step ((s1'.trans st2).trans q1)).comp).set 0 (by unfold Rep;rfl)
      · obtain⟨rfl,rfl⟩:=hd
        unfold Rep at r''
        exact⟨r'',α'',G'',q1.trans s'',P'',S''⟩
  · obtain⟨H',I',α',G',q1,q2,q3⟩:=J
    obtain⟨ps,hp,ho,hs⟩:=so
    have hps:∀q∈ps,∃t,q.2= .int (numOf q.2) t:=fun q hq=>by
     have h1:=hp.mem_iff.mp hq
     have h2:q.2∈au:=(List.of_mem_zip (show(q.1,q.2)∈ks.zip au from h1)).2
     obtain⟨n,t,e⟩:=hints.all _ h2
     exact⟨t,by rw[e];rfl⟩
    have hos:(ps.map fun q=>(q.1,numOf q.2)).Perm (ks.zip ns):=by
     have h1:=hp.map fun q:Int×Value=>(q.1,numOf q.2)
     have e:(ks.zip au).map (fun q:Int×Value=>(q.1,numOf q.2))=ks.zip ns:=by
      rw[←hints.nums,List.zip_map_right]
      exact List.map_congr_left fun⟨a,b⟩ _=>rfl
     rw[e]at h1;exact h1
    have hpw:(ps.map fun q=>(q.1,numOf q.2)).Pairwise slt:=by rw[List.pairwise_map];exact hs
    have kk:=hK _ hos hpw
    rw[List.map_map]at kk
    have hD0:=fj I'
    have vout:Vals ((ps.map fun q=>numOf q.2).map V.int) out.toList:=by
     rw[ho]
     clear hos hpw kk hs hp ho
     induction ps with
     |nil=>exact .nil
     |cons q r ih=>
      obtain⟨t,e⟩:=hps q (List.mem_cons_self ..)
      exact .cons ⟨t,e⟩ (ih fun z hz=>hps z (List.mem_cons_of_mem _ hz))
    have hlo:(ps.map fun q=>numOf q.2).length≤sizeLine:=by
     rw[List.length_map,hp.length_eq,List.length_zip]
     exact Nat.le_trans (Nat.min_le_left _ _) (Nat.le_trans (show ks.length≤64 by omega) (by decide))
    have I3:=CQ (u:= .lst ((ps.map fun q=>numOf q.2).map V.int)) I' oD.ge oD.ne ⟨by rw[List.length_map];exact hlo,out.toList,cc,vout,hD0.1⟩
    have hG:=(q2.none hD0.2.1).1
    refine⟨.ref D,_,I3.gp,rfl,k _ _ kk α' _ _ _ ((s1'.trans st2).trans (q1.trans (Step.laid hG))) (q2.laid hD0.2.1) (q3.laid hG) ?_⟩
    unfold Rep
    refine⟨D,_,rfl,q3.jP hG,.inl a5,?_⟩
    have e:List.map ((fun p:Int×Int=>L3.D.int p.snd)∘fun q:Int×Value=>(q.fst,numOf q.snd)) ps=(ps.map fun q=>numOf q.2).map L3.D.int:=by rw[List.map_map];rfl
    rw[e]
    exact zh _
end
end L3
namespace L3
open PySem L2
open PySem.Spec hiding items?
open PyProof.Rows hiding St
noncomputable def Fc(sc:Scope)(N gl:List Str):Bool:=
 N.all (fun x=>(sc.names.lookup x==some .local||sc.names.lookup x==some .cell)&&x != "__debug__"&&x != "__classdict__")&&gl.all (fun x=>sc.names.lookup x==some .globalImplicit&&x != "__debug__")
structure VS(sc:Scope)(N gl:List Str):Prop where
 ok:Fc sc N gl=true
theorem VS.at_{sc:Scope}{N gl:List Str}(V:VS sc N gl){i:Nat}{x:Str}(h:N[i]?=some x):Loc sc x∧(x==("__debug__":Str))=false∧(x==("__classdict__":Str))=false:=by
 have o:=V.ok
 unfold Fc at o
 have:=List.all_eq_true.mp (Bool.and_eq_true_iff.mp o).1 x (List.mem_of_getElem? h)
 simp only[Bool.and_eq_true,Bool.or_eq_true,beq_iff_eq,bne_iff_ne,ne_eq]at this
 exact⟨this.1.1,beq_false_of_ne this.1.2,beq_false_of_ne this.2⟩
theorem VS.Ng{sc:Scope}{N gl:List Str}(V:VS sc N gl){i:Nat}{x:Str}(h:gl[i]?=some x):sc.names.lookup x=some .globalImplicit∧(x==("__debug__":Str))=false:=by
 have o:=V.ok
 unfold Fc at o
 have:=List.all_eq_true.mp (Bool.and_eq_true_iff.mp o).2 x (List.mem_of_getElem? h)
 simp only[Bool.and_eq_true,beq_iff_eq,bne_iff_ne,ne_eq]at this
 exact⟨this.1,beq_false_of_ne this.2⟩
section
variable {X:Cx}{sc:Scope}{N gl:List Str}{x:Str}{pos:Pos}
theorem VS.nm(V:VS X.env.scope X.N gl)(i:Nat)(h:X.N[i]?=some x:=by rfl):JE X (.Name x pos) (ae i):=
 let q:=V.at_ h
 DR q.2.1 q.2.2 (q.1.elim .inl fun z=> .inr (.inl z)) h
theorem VS.l(V:VS sc N gl)(i:Nat)(h:N[i]?=some x:=by rfl):Loc sc x:=(V.at_ h).1
theorem VS.g(V:VS sc N gl)(i:Nat)(h:gl[i]?=some x:=by rfl):sc.names.lookup x=some .globalImplicit:=(V.Ng h).1
theorem VS.d(V:VS sc N gl)(i:Nat)(h:gl[i]?=some x:=by rfl):(x==("__debug__":Str))=false:=(V.Ng h).2
theorem dO{n:Nat}(hN:X.N[n]?=some x:=by rfl)(hd:((x==("__debug__":Str))||(x==("__classdict__":Str)))=false:=by decide+kernel)
 (hv:xG X.env.scope x:=by first|exact Or.inl rfl|exact Or.inr (Or.inl rfl)|exact Or.inr (Or.inr rfl)):JE X (.Name x pos) (ae n):=
 DR (Bool.or_eq_false_iff.mp hd).1 (Bool.or_eq_false_iff.mp hd).2 hv hN
@[irreducible] noncomputable def lG:dw:=wo (fun _ j=>j≠0) fun i j=> .int (i.fdiv j)
theorem rL{k:Nat}(hr:cJ k X.A)(hs:X.stack=X.env::X.outer)(hgen:X.env.scope.isGenerator=false)(hco:X.env.scope.isCoroutine=false):bX X (binaryOp .FloorDiv) (LR lG):=by
 unfold lG
 refine ni (g':=fun i j=> .int (i.fdiv j)) (fun _ _ _ _=>by unfold Rep;rfl) ?_
 intro pins s σ H x y v u Q I rx ry h
 obtain⟨i,j,rfl,rfl,hc,q⟩:=h
 obtain⟨t,rfl⟩:=rx
 obtain⟨t',rfl⟩:=ry
 refine floordiv_int hc ⟨.int (i.fdiv j),H,I.tok _,⟨_,rfl⟩,q⟩ (.inr (PySem.PylongRoom.of I.nolimit ?_ ?_))
 · have:=hr.dp
   show X.A.depth+100<_
   omega
 · exact PySem.SeerAt.of (env:=X.env) (l:=X.outer) (I.mod.seer.keeps I.bk) I.ok.gt (by rw[I.ok.frames,hs]) hgen hco I.ok.blt I.ok.glob
theorem kC{st:ag}{K:DK}{i j:Int}(h0:j≠0)(k:K (.int (i.fdiv j)) st):lG (.int i) (.int j) st K:=by unfold lG;exact⟨h0,k⟩
theorem mm.look{scope:Scope}{Nc:List Str}{fr:List (Option Nat)}{p:Str}(S:bN X scope Nc fr)(h:(scope.names.all (fun x=>x.2 != .cell)&&(!scope.isCoroutine&& !scope.isGenerator)&&(scope.names.lookup p==some .local))=true:=by decide+kernel)
 (p0:Nc[0]?=some p:=by rfl) (f0:fr[0]?=some none:=by rfl):mm X scope Nc fr p:=by
 simp only[Bool.and_eq_true,Bool.not_eq_true',beq_iff_eq]at h
 exact⟨S,fun x hx=>by simpa using List.all_eq_true.mp h.1.1 x hx,h.1.2.1,h.1.2.2,p0,f0,h.2⟩
theorem HD{scope:Scope}{Nc:List Str}{fr:List (Option Nat)}{p qual:Str}{params:Arguments}{e body:Expr}{te tb:DE}{lpos kpos pos ppos:Pos}{c0 T:Addr}{n0 k:Nat}(S:mm X scope Nc fr p)(hc:X.calm=true)(hr:cJ k X.A)(hcode:X.env.code= .ref c0)(hC:PySem.W.codeHdIn X.K c0 T=true)
 (hb:∀(f c:Addr) (s:Shared) (H:Hp),JE (Cp X scope Nc qual f c s H) body tb) (he:JE X e te) (hg:X.env.kindOf "sorted"=some .globalImplicit) (hm:X.mg "sorted"=none)
 (hdef:defaultsOf params X.env=([],[]):=by rfl) (hql:X.env.qual++"<lambda>"=qual:=by rfl)
 (hbind:∀(cl:List (Str×Addr)) (pm cd ct v:Value),bindArgs (PySem.W.kla_fn "<lambda>" qual params body scope cl pm cd ct) ⟨[v],[]⟩=pure [(p,v)]:=by(intros;rfl)) (hk:2≤k:=by decide)
 (he1:starEach [e] X.env=(false,eval e X.env)::starEach [] X.env:=by rfl):
 JE X (.Call (.Name "sorted" ppos) [e] [⟨some "key",.Lambda params body scope lpos,kpos⟩] pos) (zB n0 T lpos qual fr tb te):=by
 unfold JE at he hb⊢
 refine Im S hc (hr.mono hk) hcode hC hdef hql hbind hb (vP he yV he1) hg hm rfl ?_ ?_
 · rw[he1];rfl
 · rw[he1];rfl
end
structure Iw(K:PySem.W.Frag)(x qual:Str)(st:Stmt)(f:Addr)(fd:FuncData)(c:Addr):Prop where
 ex:∃(oc:Value) (od:Option Addr) (kV doc pm:Value) (an:Option Addr) (ct:Value) (osl:Array (Option Value)),
  fd=PySem.W.fnOf x qual (js st) (gf st) (ai st) .none kV doc pm an (.ref c) ct∧K.lookup f=some ⟨oc,od,.func fd,osl⟩∧PySem.W.codeIn K (.ref c) qual=true
theorem IF{P:Program}{w:World}{K:PySem.W.Frag}{mg:Str→Option Value}{base:Heap}{x qual:Str}{st:Stmt}{f c:Addr}{fd:FuncData}{N ps:List Str}{k:Nat}{sp:bW}{t:DS}(F:Iw K x qual st f fd c)(S:aN N ps (ai st))
 (hbody:∀(A:Around) (outer:List Env) (s:Shared) (H:Hp) (E:XK),cJ k (A.deeper (envOfC qual (ai st) s.heap.objs.size f (.ref c)))→JB (pk cf P w K mg base N qual (ai st) f (.ref c) A outer s H E).uJ (gf st) t)
 (hsp:∀ds st K,sp ds st K→ds.length=ps.length∧t {nx:=fun _ st'=>K .aE st',rt:=K} (aR N ds) st):a8 P w K mg base cf (k+1) f fd ps (cn sp):=by
 obtain⟨oc,od,kV,doc,pm,an,ct,osl,rfl,lk,hcd⟩:=F.ex
 unfold JB at hbody
 refine FL lk hcd S (fun vs H Q E h=>?_) fun A outer s H vs Q E hr h=>?_
 · obtain⟨α,ds,st,K,G,F,P,R,S,q,k⟩:=h
   rw[←R.length];exact(hsp ds st K q).1
 · obtain⟨α,ds,st,K,G,F',P,R,SR,q,k⟩:=h
   refine⟨_,(hbody A outer s H E hr).uJ,α,aR N ds,st,_,G,F',P,dN.start R,SR,(hsp ds st K q).2,?_,k,?_,?_⟩
   · intro σd' st' kk α' G' H' σ' s' P' R' S'
     exact k .aE st' kk α' G' H' .aE s' P' S' (by unfold Rep;rfl)
   · intro σd' st' kk
     exact kk.elim
   · intro σd' st' kk
     exact kk.elim
noncomputable def DQ(tl:List (Addr×Pos×Str)):bW:=fun ds st K=>∃ns:List Int,ds=[.lst (ns.map .int)]∧ns.length≤63∧st=tl.map (fun q=> .tab q.1 q.2.1 q.2.2 false)∧∀st',K (.bl true) st'
noncomputable def D_(K:PySem.W.Frag)(ts:List (Addr×Addr)):Sp:=fun vs H Q _=>∃(a:Addr) (ns:List Int),vs=[.ref a]∧Entry K ts a ns H∧ns.length≤63∧∀H',Q (.bl true) H'
theorem DC{K:PySem.W.Frag}{ts:List (Addr×Addr)}{tl:List (Addr×Pos×Str)}(nl:Ea K=true)(hts:ts.map (·.2)=tl.map (·.1))(nd:(tl.map (·.1)).Nodup){vs:List V}{H:Hp}{Q:VK}{E:XK}(h:D_ K ts vs H Q E):cn (DQ tl) vs H Q E:=by
 obtain⟨a,ns,rfl,hE,hl,q⟩:=h
 have tabs:∀q∈tl,H q.1=some (.jw #[])∧q.1≠a:=fun q hq=>by
  have h1:q.1∈ts.map (·.2):=by rw[hts];exact List.mem_map_of_mem hq
  obtain⟨t,ht,e⟩:=List.mem_map.mp h1
  rw[←e];exact hE.tab t ht
 have at_:∀(i:Nat) (x:Addr),(tl.map fun q=>some q.1)[i]?=some (some x)→∃q,tl[i]?=some q∧q.1=x:=fun i x e=>by
  rw[List.getElem?_map]at e
  cases z:tl[i]? with
  |none=>rw[z]at e;cases e
  |some w=>rw[z]at e;simp at e;exact⟨w,rfl,e⟩
 have nota:some a∉tl.map fun q=>some q.1:=fun z=>by
  obtain⟨w,hw,e⟩:=List.mem_map.mp z
  exact(tabs w hw).2 (Option.some.inj e)
 rcases hE.lst with hS|⟨o,au,n,e,hc,_⟩
 · refine⟨tl.map fun q=>some q.1,[.lst (ns.map .int)],tl.map (fun q=> .tab q.1 q.2.1 q.2.2 false),fun d _=>d= .bl true,H,fun _=>none,⟨fun b=>by cases H b<;>rfl,fun _ _ _=>rfl⟩,?_,⟨by simp,fun i j x e1 e2=>?_,fun n c e=>?_⟩,⟨ns,rfl,hl,rfl,fun _=>rfl⟩,?_⟩
   · unfold aK
     refine⟨.ref a,[],rfl,?_,by unfold aK;rfl⟩
     unfold Rep
     exact⟨a,ns.map V.int,rfl,nota,hS,wk ns⟩
   · obtain⟨p,hp,e3⟩:=at_ i x e1
     obtain⟨r,hr,e4⟩:=at_ j x e2
     have k1:(tl.map (·.1))[i]?=some x:=by rw[List.getElem?_map,hp,←e3];rfl
     have k2:(tl.map (·.1))[j]?=some x:=by rw[List.getElem?_map,hr,←e4];rfl
     have hi:=(List.getElem?_eq_some_iff.mp k1).1
     exact(List.getElem?_inj hi nd).mp (k1.trans k2.symm)
   · rw[List.getElem?_map]at e
     cases z:tl[n]? with
     |none=>rw[z]at e;cases e
     |some w=>
      rw[z]at e
      have e':Cell.tab w.1 w.2.1 w.2.2 false=c:=Option.some.inj e
      subst e'
      refine .inr ⟨w.1,by rw[List.getElem?_map,z];rfl,rfl,#[],(tabs w (List.mem_of_getElem? z)).1,trivial,.inl ⟨rfl,rfl⟩⟩
   · rintro d st' rfl α' G' H' v _ _ _ r
     unfold Rep at r
     subst r
     exact q H'
 · exact absurd hc (xi nl e)
end L3
namespace L3
open PySem L2
open PySem.Spec hiding items?
open PyProof.Rows hiding St
section
variable {K:PySem.W.Frag}{x qual p1 p2 p3 p4 p5:Str}{st:Stmt}{f:Addr}{fd:FuncData}
noncomputable abbrev qI(x qual:Str)(st:Stmt)(kV doc pm:Value)(an:Option Addr)(cdv ct:Value):FuncData:=PySem.W.fnOf x qual (js st) (gf st) (ai st) .none kV doc pm an cdv ct
theorem fI{α:Type}{n:Nat}{us:List α}(h:us.length=n+1):∃a r,us=a::r∧r.length=n:=by
 cases us with
 |nil=>cases h
 |cons a r=>exact⟨a,r,rfl,Nat.succ.inj h⟩
theorem rP{α:Type}{us:List α}(h:us.length=0):us=[]:=List.length_eq_zero_iff.mp h
theorem N9(F:m_ K x qual st f fd)(h:∀kV doc pm an cdv ct a,bindArgs (qI x qual st kV doc pm an cdv ct) ⟨[a],[]⟩=pure [(p1,a)]):Binds K fd [p1] []:=
 F.binds fun kV doc pm an cdv ct us hl=>by
  obtain⟨a,r1,rfl,h1⟩:=fI hl
  cases rP h1
  exact h kV doc pm an cdv ct a
theorem M_(F:m_ K x qual st f fd)(h:∀kV doc pm an cdv ct a b,bindArgs (qI x qual st kV doc pm an cdv ct) ⟨[a,b],[]⟩=pure [(p1,a),(p2,b)]):Binds K fd [p1,p2] []:=
 F.binds fun kV doc pm an cdv ct us hl=>by
  obtain⟨a,r1,rfl,h1⟩:=fI hl
  obtain⟨b,r2,rfl,h2⟩:=fI h1
  cases rP h2
  exact h kV doc pm an cdv ct a b
theorem M6(F:m_ K x qual st f fd)(h:∀kV doc pm an cdv ct a b c,bindArgs (qI x qual st kV doc pm an cdv ct) ⟨[a,b,c],[]⟩=pure [(p1,a),(p2,b),(p3,c)]):Binds K fd [p1,p2,p3] []:=
 F.binds fun kV doc pm an cdv ct us hl=>by
  obtain⟨a,r1,rfl,h1⟩:=fI hl
  obtain⟨b,r2,rfl,h2⟩:=fI h1
  obtain⟨c,r3,rfl,h3⟩:=fI h2
  cases rP h3
  exact h kV doc pm an cdv ct a b c
theorem MZ(F:m_ K x qual st f fd)(h:∀kV doc pm an cdv ct a b c d,bindArgs (qI x qual st kV doc pm an cdv ct) ⟨[a,b,c,d],[]⟩=pure [(p1,a),(p2,b),(p3,c),(p4,d)]):Binds K fd [p1,p2,p3,p4] []:=
 F.binds fun kV doc pm an cdv ct us hl=>by
  obtain⟨a,r1,rfl,h1⟩:=fI hl
  obtain⟨b,r2,rfl,h2⟩:=fI h1
  obtain⟨c,r3,rfl,h3⟩:=fI h2
  obtain⟨d,r4,rfl,h4⟩:=fI h3
  cases rP h4
  exact h kV doc pm an cdv ct a b c d
end
end L3
namespace L3
open PySem L2
open PySem.Spec hiding items?
open PyProof.Rows hiding St
section
variable {X:Cx}
end
end L3
namespace L3
open PySem L2
open PySem.Spec hiding items?
open PyProof.Rows hiding St
section
variable {X:Cx}
end
end L3
namespace L3
open PySem L2
open PySem.Spec hiding items?
open PyProof.Rows hiding St
section
variable {X:Cx}
end
end L3
namespace L3
open PySem L2
open PySem.Spec hiding items?
open PyProof.Rows hiding St
section
variable {X:Cx}
end
end L3
namespace L3
open PySem L2
open PySem.Spec hiding items?
open PyProof.Rows hiding St
section
variable {X:Cx}
noncomputable def uJ(X:Cx):Cx:={X with xe:=fun _ _=>False}
end
end L3
namespace L3
open PySem L2
open PySem.Spec hiding items?
open PyProof.Rows hiding St
section
variable {X:Cx}
end
variable {st:ag}{K:D→ag→Prop}{i j:Int}
end L3
namespace L3
open PySem L2
open PySem.Spec hiding items?
open PyProof.Rows hiding St
section
variable {X:Cx}{pos:Pos}
end
end L3
namespace L3
open PySem L2
structure ClsAt(K:PySem.W.Frag)(mg:Str→Option Value)(x:Str)(C:Addr):Prop where
 cl:nz K C
 mg:mg x=some (.ref C)
 Ow:PySem.W.makesIn K C=true
 kp:PySem.W.keepIn K (.ref C)=true
structure MethAt(K:PySem.W.Frag)(C:Addr)(m qual:Str)(st:Stmt)(ps:List Str)(f:Addr)(fd:FuncData):Prop where
 fn:m_ K m qual st f fd
 me:Meth K C m f
 bd:Binds K fd ps []
end L3
namespace Hd
open PySem PySem.W L2 L3
open PySem.Spec hiding items?
open PyProof.Rows hiding St
section
variable {K:Frag}{mg:Str→Option Value}{h:Heap}{x q:Str}{st:Stmt}{f c C:Addr}{pm:Value}{p1 p2 p3 p4 p5 p6:Str}
noncomputable abbrev Ed(K:Frag)(x:Str)(st:Stmt)(f:Addr)(pm:Value)(c:Addr):Prop:=(nsIn K mainGlobals x,K.lookup f,codeIn K (.ref c) x,keepIn K (.ref f))=(some (some (.ref f)),some (fq st x x pm c),true,true)
noncomputable abbrev Em(K:Frag)(C:Addr)(x q:Str)(st:Stmt)(f:Addr)(pm:Value)(c:Addr):Prop:=(findIn K (.ref C) x,isFn K (.ref f),K.lookup f,codeIn K (.ref c) q,keepIn K (.ref f))=(some (some (.ref f)),true,some (fq st x q pm c),true,true)
theorem Ed.fn(e:Ed K x st f pm c):m_ K x x st f (fd st x x pm c)∧nsIn K mainGlobals x=some (some (.ref f)):=by
 obtain⟨e1,e2,e3,e4⟩:_∧_∧_∧_:=by simpa only[Prod.mk.injEq]using e
 exact⟨D9 (st:=st) e2 e3 e4,e1⟩
theorem Em.fn(e:Em K C x q st f pm c):m_ K x q st f (fd st x q pm c)∧Meth K C x f:=by
 obtain⟨e1,e2,e3,e4,e5⟩:_∧_∧_∧_∧_:=by simpa only[Prod.mk.injEq]using e
 exact⟨D9 (st:=st) e3 e4 e5,e1,e2,e5⟩
theorem oZ(X:K.In h)(G:h.Ns mainGlobals mg)(e:Ed K x st f pm c)(b:∀kV doc pm an cdv ct a,bindArgs (qI x x st kV doc pm an cdv ct) ⟨[a],[]⟩=pure [(p1,a)]):bg K mg x x st [p1] f (fd st x x pm c):=⟨e.fn.1,mg_of X G e.fn.2,N9 e.fn.1 b⟩
theorem iQ(X:K.In h)(G:h.Ns mainGlobals mg)(e:Ed K x st f pm c)(b:∀kV doc pm an cdv ct a1 a2,bindArgs (qI x x st kV doc pm an cdv ct) ⟨[a1,a2],[]⟩=pure [(p1,a1),(p2,a2)]):bg K mg x x st [p1,p2] f (fd st x x pm c):=⟨e.fn.1,mg_of X G e.fn.2,M_ e.fn.1 b⟩
theorem yl(X:K.In h)(G:h.Ns mainGlobals mg)(e:Ed K x st f pm c)(b:∀kV doc pm an cdv ct a1 a2 a3,bindArgs (qI x x st kV doc pm an cdv ct) ⟨[a1,a2,a3],[]⟩=pure [(p1,a1),(p2,a2),(p3,a3)]):bg K mg x x st [p1,p2,p3] f (fd st x x pm c):=⟨e.fn.1,mg_of X G e.fn.2,M6 e.fn.1 b⟩
theorem Od(X:K.In h)(G:h.Ns mainGlobals mg)(e:Ed K x st f pm c)(b:∀kV doc pm an cdv ct a1 a2 a3 a4,bindArgs (qI x x st kV doc pm an cdv ct) ⟨[a1,a2,a3,a4],[]⟩=pure [(p1,a1),(p2,a2),(p3,a3),(p4,a4)]):bg K mg x x st [p1,p2,p3,p4] f (fd st x x pm c):=⟨e.fn.1,mg_of X G e.fn.2,MZ e.fn.1 b⟩
theorem MY(e:Em K C x q st f pm c)(b:∀kV doc pm an cdv ct a1 a2,bindArgs (qI x q st kV doc pm an cdv ct) ⟨[a1,a2],[]⟩=pure [(p1,a1),(p2,a2)]):MethAt K C x q st [p1,p2] f (fd st x q pm c):=⟨e.fn.1,e.fn.2,M_ e.fn.1 b⟩
theorem Gb(e:Em K C x q st f pm c)(b:∀kV doc pm an cdv ct a1 a2 a3,bindArgs (qI x q st kV doc pm an cdv ct) ⟨[a1,a2,a3],[]⟩=pure [(p1,a1),(p2,a2),(p3,a3)]):MethAt K C x q st [p1,p2,p3] f (fd st x q pm c):=⟨e.fn.1,e.fn.2,M6 e.fn.1 b⟩
theorem Ol(e:Em K C x q st f pm c)(b:∀kV doc pm an cdv ct a1 a2 a3 a4,bindArgs (qI x q st kV doc pm an cdv ct) ⟨[a1,a2,a3,a4],[]⟩=pure [(p1,a1),(p2,a2),(p3,a3),(p4,a4)]):MethAt K C x q st [p1,p2,p3,p4] f (fd st x q pm c):=⟨e.fn.1,e.fn.2,MZ e.fn.1 b⟩
theorem fc(e:(K.lookup f,codeIn K (.ref c) q)=(some (fq st x q pm c),true)):Iw K x q st f (fd st x q pm c) c:=by
 obtain⟨e1,e2⟩:_∧_:=by simpa only[Prod.mk.injEq]using e
 exact⟨_,_,_,_,_,_,_,_,rfl,e1,e2⟩
theorem na{a:Str}(e:findIn K (.ref C) a=some none):fD K C a:=e
end
end Hd
namespace L3
open PySem L2
open PySem.Spec hiding items?
open PyProof.Rows hiding St
section
variable {X:Cx}{pos:Pos}
end
end L3
namespace Mx
noncomputable def S:Nat→(Nat→Int)→Int
 |0,_=>0
 |n+1,f=>S n f+f n
theorem aG{n:Nat}{f g:Nat→Int}(h:∀i,i<n→f i=g i):S n f=S n g:=by
 induction n with
 |zero=>rfl
 |succ n ih=>unfold S;rw[ih fun i hi=>h i (by omega),h n (by omega)]
theorem nh{n:Nat}{f:Nat→Int}(h:∀i,i<n→f i=0):S n f=0:=by
 induction n with
 |zero=>rfl
 |succ n ih=>unfold S;rw[ih fun i hi=>h i (by omega),h n (by omega)];rfl
theorem iF(n:Nat)(f g:Nat→Int):S n (fun i=>f i+g i)=S n f+S n g:=by
 induction n with
 |zero=>rfl
 |succ n ih=>unfold S;rw[ih];dsimp only;omega
theorem eS(n:Nat)(c:Int)(f:Nat→Int):S n (fun i=>c*f i)=c*S n f:=by
 induction n with
 |zero=>unfold S;rw[Int.mul_zero]
 |succ n ih=>unfold S;rw[ih,Int.mul_add]
theorem ue(n:Nat)(c:Int)(f:Nat→Int):S n (fun i=>f i*c)=S n f*c:=by
 induction n with
 |zero=>unfold S;rw[Int.zero_mul]
 |succ n ih=>unfold S;rw[ih,Int.add_mul]
theorem xy(n:Nat)(f:Nat→Int):S n (fun i=> -f i)= -S n f:=by
 induction n with
 |zero=>rfl
 |succ n ih=>unfold S;rw[ih];dsimp only;omega
theorem qO(m n:Nat)(f:Nat→Nat→Int):S m (fun i=>S n fun j=>f i j)=S n fun j=>S m fun i=>f i j:=by
 induction m with
 |zero=>exact(nh (n:=n) (fun i _=>rfl)).symm
 |succ m ih=>
  have:S n (fun j=>S (m+1) fun i=>f i j)=S n fun j=>(S m fun i=>f i j)+f m j:=aG fun j _=>rfl
  rw[this,iF,←ih]
  rfl
theorem l_{n:Nat}{k:Nat}(hk:k<n){f:Nat→Int}(h:∀i,i<n→i≠k→f i=0):S n f=f k:=by
 induction n with
 |zero=>omega
 |succ n ih=>
  unfold S
  by_cases e:k=n
  · subst e
    rw[nh fun i hi=>h i (by omega) (by omega),Int.zero_add]
  · rw[ih (by omega) fun i hi hn=>h i (by omega) hn,h n (by omega) (by omega),Int.add_zero]
theorem Cy(n:Nat)(f:Nat→Int):S (n+1) f=f 0+S n fun i=>f (i+1):=by
 induction n with
 |zero=>unfold S S;omega
 |succ n ih=>
  have:S (n+1+1) f=S (n+1) f+f (n+1):=rfl
  rw[this,ih]
  have:S (n+1) (fun i=>f (i+1))=S n (fun i=>f (i+1))+f (n+1):=rfl
  rw[this]
  omega
noncomputable def dl(i j:Nat):Int:=if i=j then 1 else 0
theorem d9(i:Nat):dl i i=1:=if_pos rfl
theorem eG{i j:Nat}(h:i≠j):dl i j=0:=if_neg h
theorem ng{n k:Nat}(hk:k<n)(f:Nat→Int):S n (fun i=>dl k i*f i)=f k:=by
 rw[l_ hk (fun i _ h=>by rw[eG (Ne.symm h),Int.zero_mul]),d9,Int.one_mul]
theorem qX{n k:Nat}(hk:k<n)(f:Nat→Int):S n (fun i=>f i*dl i k)=f k:=by
 rw[l_ hk (fun i _ h=>by rw[eG h,Int.mul_zero]),d9,Int.mul_one]
noncomputable abbrev Row:=List Int
noncomputable abbrev Rows:=List (List Int)
noncomputable def g(A:Rows)(i j:Nat):Int:=(A.getD i []).getD j 0
structure cT(m n:Nat)(A:Rows):Prop where
 len:A.length=m
 lP:∀r∈A,r.length=n
theorem ba{α:Type}{l:List α}{i:Nat}{d:α}(h:i<l.length):l.getD i d=l[i]:=by
 rw[List.getD_eq_getElem?_getD,List.getElem?_eq_getElem h];rfl
theorem mQ{α:Type}{l:List α}{i:Nat}{d:α}(h:l.length≤i):l.getD i d=d:=by
 rw[List.getD_eq_getElem?_getD,List.getElem?_eq_none h];rfl
theorem vX{a b:Row}{n:Nat}(ha:a.length=n)(hb:b.length=n)(h:∀j,j<n→a.getD j 0=b.getD j 0):a=b:=by
 refine List.ext_getElem (by omega) fun i h1 h2=>?_
 have:=h i (by omega)
 rwa [ba h1,ba h2]at this
theorem cT.row{m n:Nat}{A:Rows}(h:cT m n A){i:Nat}(hi:i<m):(A.getD i []).length=n:=by
 have hl:=h.len
 rw[ba (by omega)]
 exact h.lP _ (List.getElem_mem _)
theorem cT.ext{m n:Nat}{A B:Rows}(ha:cT m n A)(hb:cT m n B)(h:∀i j,i<m→j<n→g A i j=g B i j):A=B:=by
 have h1:=ha.len
 have h2:=hb.len
 refine List.ext_getElem (by omega) fun i hi hj=>?_
 have e1:=ha.row (i:=i) (by omega)
 have e2:=hb.row (i:=i) (by omega)
 have:=vX e1 e2 fun j hj=>h i j (by omega) hj
 rwa [ba hi,ba hj]at this
noncomputable def eP(r:Row)(t:Int)(s:Row):Row:=List.zipWith (fun a b=>a+t*b) r s
theorem kl{r s:Row}{t:Int}(h:r.length=s.length):(eP r t s).length=r.length:=by unfold eP;simp[h]
theorem rR{r s:Row}{t:Int}(h:r.length=s.length)(j:Nat):(eP r t s).getD j 0=r.getD j 0+t*s.getD j 0:=by
 unfold eP
 by_cases hj:j<r.length
 · rw[ba (by simp;omega),ba hj,ba (by omega)];simp
 · rw[mQ (by simp;omega),mQ (by omega),mQ (by omega)];simp
noncomputable def eV:Row→Rows→Row→Row
 |w::ws,r::rs,acc=>eV ws rs (eP acc w r)
 |_,_,acc=>acc
theorem qW{n:Nat}:∀ {ws:Row} {rs:Rows} {acc:Row},acc.length=n→(∀r∈rs,r.length=n)→(eV ws rs acc).length=n
 | [],_,acc,h,_=>by unfold eV;exact h
 |_::_,[],acc,h,_=>by unfold eV;exact h
 |w::ws,r::rs,acc,h,hr=>by
  unfold eV
  refine qW ?_ fun r hr'=>hr r (List.mem_cons_of_mem _ hr')
  rw[kl (by rw[h,hr r List.mem_cons_self]),h]
theorem tT{n:Nat}:∀ {ws:Row} {rs:Rows} {acc:Row} (j:Nat),acc.length=n→(∀r∈rs,r.length=n)→ws.length=rs.length→(eV ws rs acc).getD j 0=acc.getD j 0+S rs.length fun k=>ws.getD k 0*g rs k j
 | [],[],acc,j,h,_,_=>by unfold eV;show _=_+(0:Int);rw[Int.add_zero]
 | [],_::_,acc,j,h,_,hl=>by cases hl
 |_::_,[],acc,j,h,_,hl=>by cases hl
 |w::ws,r::rs,acc,j,h,hr,hl=>by
  have e1:acc.length=r.length:=by rw[h,hr r List.mem_cons_self]
  unfold eV
  rw[tT j (by rw[kl e1,h]) (fun r hr'=>hr r (List.mem_cons_of_mem _ hr')) (by simpa using hl),rR e1,List.length_cons,Cy]
  have:(fun k=>(w::ws).getD (k+1) 0*g (r::rs) (k+1) j)=fun k=>ws.getD k 0*g rs k j:=by
   funext k;unfold g;simp
  rw[this]
  unfold g
  simp
  omega
theorem dU(n j:Nat):(List.replicate n (0:Int)).getD j 0=0:=by
 by_cases h:j<n
 · rw[ba (by simpa using h)];simp
 · rw[mQ (by simp;omega)]
noncomputable def jH(n i:Nat):Row:=(List.range n).map fun k=>dl k i
noncomputable def units(n:Nat):Rows:=(List.range n).map fun i=>jH n i
theorem range_getD{α:Type}{f:Nat→α}{n i:Nat}{d:α}(h:i<n):((List.range n).map f).getD i d=f i:=by
 rw[ba (by simpa using h)];simp
theorem ud(n:Nat):cT n n (units n):=⟨by simp[units],fun r hr=>by unfold units at hr;obtain⟨i,_,rfl⟩:=List.mem_map.mp hr;simp[jH]⟩
theorem kv{n i j:Nat}(hi:i<n)(hj:j<n):g (units n) i j=dl i j:=by
 unfold g units jH
 rw[range_getD hi,range_getD hj]
 unfold dl
 by_cases h:i=j
 · subst h;rfl
 · rw[if_neg (Ne.symm h),if_neg h]
noncomputable def vn(A:Rows)(j:Nat):Row:=A.map fun r=>r.getD j 0
noncomputable def Gx(A:Rows)(n:Nat):Rows:=(List.range n).map fun j=>vn A j
noncomputable def IT:Row→Row→Int
 |a::as,b::bs=>a*b+IT as bs
 |_,_=>0
end Mx
namespace Mx
theorem vk(i j:Nat):dl i j=dl j i:=by
 unfold dl
 by_cases h:i=j
 · rw[if_pos h,if_pos h.symm]
 · rw[if_neg h,if_neg (Ne.symm h)]
noncomputable def sw(i j k:Nat):Nat:=if k=i then j else if k=j then i else k
theorem ND{n i j:Nat}(hi:i<n)(hj:j<n)(hij:i≠j)(f:Nat→Int):S n (fun k=>f (sw i j k))=S n f:=by
 have:S n (fun k=>f (sw i j k))=S n fun k=>f k+(f j-f i)*dl k i+(f i-f j)*dl k j:=aG fun k _=>by
  unfold sw
  by_cases h1:k=i
  · subst h1;rw[if_pos rfl,d9,eG hij];omega
  · rw[if_neg h1,eG h1]
    by_cases h2:k=j
    · subst h2;rw[if_pos rfl,d9];omega
    · rw[if_neg h2,eG h2];omega
 rw[this,iF,iF,qX (f:=fun _=>f j-f i) hi,qX (f:=fun _=>f i-f j) hj]
 omega
end Mx
namespace Mx
noncomputable abbrev Fn:=Nat→Nat→Int
noncomputable def sk(j c:Nat):Nat:=if c<j then c else c+1
noncomputable def sg(j:Nat):Int:=if j%2=0 then 1 else-1
theorem vw(j:Nat):sg (j+1)= -sg j:=by unfold sg;split<;>split<;>omega
theorem vo:sg 0=1:=rfl
theorem jV{j c n:Nat}(h:c<n):sk j c<n+1:=by unfold sk;split<;>omega
theorem LW{j k c:Nat}(h:k<j):sk j (sk k c)=sk k (sk (j-1) c):=by unfold sk;grind
noncomputable def D:Nat→Fn→Int
 |0,_=>1
 |n+1,M=>S (n+1) fun j=>sg j*M 0 j*D n fun r c=>M (r+1) (sk j c)
theorem Cs(M:Fn):D 0 M=1:=rfl
theorem dh(n:Nat)(M:Fn):D (n+1) M=S (n+1) fun j=>sg j*M 0 j*D n fun r c=>M (r+1) (sk j c):=rfl
theorem cX:∀ {n:Nat} {M M':Fn},(∀r c,r<n→c<n→M r c=M' r c)→D n M=D n M'
 |0,_,_,_=>rfl
 |n+1,M,M',h=>by
  rw[dh,dh]
  refine aG fun j hj=>?_
  have e:D n (fun r c=>M (r+1) (sk j c))=D n (fun r c=>M' (r+1) (sk j c)):=cX fun r c hr hc=>h (r+1) (sk j c) (by omega) (jV hc)
  rw[h 0 j (by omega) hj,e]
theorem FK:∀ {n:Nat} {M P Q:Fn} {a b:Int} {i:Nat},i<n→(∀c,c<n→M i c=a*P i c+b*Q i c)→(∀r c,r<n→c<n→r≠i→M r c=P r c∧M r c=Q r c)→D n M=a*D n P+b*D n Q
 |0,_,_,_,_,_,_,h,_,_=>by omega
 |n+1,M,P,Q,a,b,0,_,h0,h=>by
  rw[dh,dh,dh,←eS,←eS,←iF]
  refine aG fun j hj=>?_
  have e1:D n (fun r c=>M (r+1) (sk j c))=D n (fun r c=>P (r+1) (sk j c)):=cX fun r c hr hc=>(h (r+1) (sk j c) (by omega) (jV hc) (by omega)).1
  have e2:D n (fun r c=>M (r+1) (sk j c))=D n (fun r c=>Q (r+1) (sk j c)):=cX fun r c hr hc=>(h (r+1) (sk j c) (by omega) (jV hc) (by omega)).2
  rw[h0 j hj,←e1,←e2]
  grind
 |n+1,M,P,Q,a,b,i+1,hi,h0,h=>by
  rw[dh,dh,dh,←eS,←eS,←iF]
  refine aG fun j hj=>?_
  have e:=FK (n:=n) (M:=fun r c=>M (r+1) (sk j c)) (P:=fun r c=>P (r+1) (sk j c)) (Q:=fun r c=>Q (r+1) (sk j c)) (a:=a) (b:=b) (i:=i) (by omega) (fun c hc=>h0 (sk j c) (jV hc)) fun r c hr hc hne=>h (r+1) (sk j c) (by omega) (jV hc) (by omega)
  have p:=h 0 j (by omega) hj (by omega)
  rw[e,←p.1,←p.2]
  grind
theorem NY{n:Nat}{M:Fn}(h:∀c,c<n+2→M 0 c=M 1 c):D (n+2) M=0:=by
 let T:Nat→Nat→Int:=fun j k=>sg j*M 0 j*(sg k*M 1 (sk j k)*D n fun r c=>M (r+2) (sk j (sk k c)))
 have e1:∀j,j<n+2→sg j*M 0 j*D (n+1) (fun r c=>M (r+1) (sk j c))=S (n+1) fun k=>T j k:=fun j hj=>by
  rw[dh,←eS]
 rw[dh,aG e1]
 have e2:∀j,j<n+2→S (n+1) (fun k=>T j k)=S (n+1) (fun k=>if k<j then T j k else 0)+S (n+1) (fun k=>if k<j then 0 else T j k):=fun j _=>by
  rw[←iF]
  refine aG fun k _=>?_
  split<;>omega
 rw[aG e2,iF]
 have e3:∀j k,j<n+2→k<n+1→¬k<j→T j k= -T (k+1) j:=fun j k hj hk hjk=>by
  have s1:sk (k+1) j=j:=by unfold sk;rw[if_pos (by omega)]
  have s2:sk j k=k+1:=by unfold sk;rw[if_neg hjk]
  have s3:(fun r c=>M (r+2) (sk (k+1) (sk j c)))=fun r c=>M (r+2) (sk j (sk k c)):=by
   funext r c
   rw[LW (show j<k+1 by omega)];rfl
  show sg j*M 0 j*(sg k*M 1 (sk j k)*D n fun r c=>M (r+2) (sk j (sk k c)))= -(sg (k+1)*M 0 (k+1)*(sg j*M 1 (sk (k+1) j)*D n fun r c=>M (r+2) (sk (k+1) (sk j c))))
  rw[s1,s2,s3,vw,←h j hj,←h (k+1) (by omega)]
  grind
 have e4:S (n+2) (fun j=>S (n+1) fun k=>if k<j then 0 else T j k)= -S (n+2) (fun j=>S (n+1) fun k=>if k<j then T j k else 0):=by
  rw[qO,Cy (n+1) (fun j=>S (n+1) fun k=>if k<j then T j k else 0)]
  have z:S (n+1) (fun k=>if k<0 then T 0 k else 0)=0:=nh fun k _=>if_neg (by omega)
  rw[z,Int.zero_add,←xy]
  refine aG fun k hk=>?_
  have:S (n+2) (fun j=>if k<j then 0 else T j k)=S (n+1) (fun j=>if k<j then 0 else T j k)+(if k<n+1 then 0 else T (n+1) k):=rfl
  rw[this,if_pos hk,Int.add_zero,←xy]
  refine aG fun j hj=>?_
  by_cases hkj:k<j
  · rw[if_pos hkj,if_neg (by omega)];rfl
  · rw[if_neg hkj,if_pos (by omega)]
    exact e3 j k (by omega) hk hkj
 rw[e4]
 omega
theorem FU:∀ {n:Nat} {M:Fn} {i:Nat},i+1<n→(∀c,c<n→M i c=M (i+1) c)→D n M=0
 |0,_,_,h,_=>by omega
 |1,_,_,h,_=>by omega
 |n+2,M,0,_,h=>NY h
 |n+2,M,i+1,hi,h=>by
  rw[dh]
  refine nh fun j hj=>?_
  rw[FU (n:=n+1) (M:=fun r c=>M (r+1) (sk j c)) (i:=i) (by omega) fun c hc=>h (sk j c) (jV hc),Int.mul_zero]
structure Alt(n:Nat)(φ:Fn→Int):Prop where
 cg:∀M M':Fn,(∀r c,r<n→c<n→M r c=M' r c)→φ M=φ M'
 oH:∀(i:Nat) (M P Q:Fn) (a b:Int),i<n→(∀c,c<n→M i c=a*P i c+b*Q i c)→(∀r c,r<n→c<n→r≠i→M r c=P r c∧M r c=Q r c)→φ M=a*φ P+b*φ Q
 alt:∀(i j:Nat) (M:Fn),i<n→j<n→i≠j→(∀c,c<n→M i c=M j c)→φ M=0
noncomputable def upd(M:Fn)(i:Nat)(x:Nat→Int):Fn:=fun r c=>if r=i then x c else M r c
theorem bZ(M:Fn)(i:Nat)(x:Nat→Int)(c:Nat):upd M i x i c=x c:=if_pos rfl
theorem ax{M:Fn}{i r:Nat}{x:Nat→Int}(h:r≠i)(c:Nat):upd M i x r c=M r c:=if_neg h
theorem Nf{n i j:Nat}{φ:Fn→Int}(cg:∀M M':Fn,(∀r c,r<n→c<n→M r c=M' r c)→φ M=φ M')
 (oH:∀(i:Nat) (M P Q:Fn) (a b:Int),i<n→(∀c,c<n→M i c=a*P i c+b*Q i c)→(∀r c,r<n→c<n→r≠i→M r c=P r c∧M r c=Q r c)→φ M=a*φ P+b*φ Q)
 (hi:i<n) (hj:j<n) (hij:i≠j) (alt:∀N:Fn,(∀c,c<n→N i c=N j c)→φ N=0) (M:Fn):φ (fun r=>M (sw i j r))= -φ M:=by
 have l1:φ (upd (upd M i fun c=>M i c+M j c) j fun c=>M i c+M j c)=1*φ (upd (upd M i (M i)) j fun c=>M i c+M j c)+1*φ (upd (upd M i (M j)) j fun c=>M i c+M j c):=
  oH i _ _ _ 1 1 hi (fun c _=>by rw[ax hij,ax hij,ax hij,bZ,bZ,bZ];omega) fun r c _ _ hr=>by
   unfold upd
   grind
 have l2:∀x:Nat→Int,φ (upd (upd M i x) j fun c=>M i c+M j c)=1*φ (upd (upd M i x) j (M i))+1*φ (upd (upd M i x) j (M j)):=fun x=>
  oH j _ _ _ 1 1 hj (fun c _=>by rw[bZ,bZ,bZ];omega) fun r c _ _ hr=>by
   rw[ax hr,ax hr,ax hr];exact⟨rfl,rfl⟩
 have z0:φ (upd (upd M i fun c=>M i c+M j c) j fun c=>M i c+M j c)=0:=alt _ fun c _=>by rw[ax hij,bZ,bZ]
 have z1:φ (upd (upd M i (M i)) j (M i))=0:=alt _ fun c _=>by rw[ax hij,bZ,bZ]
 have z2:φ (upd (upd M i (M j)) j (M j))=0:=alt _ fun c _=>by rw[ax hij,bZ,bZ]
 have s1:φ (upd (upd M i (M i)) j (M j))=φ M:=cg _ _ fun r c _ _=>by
  unfold upd
  split
  · rename_i e;rw[e]
  · split
    · rename_i e;rw[e]
    · rfl
 have s2:φ (upd (upd M i (M j)) j (M i))=φ (fun r=>M (sw i j r)):=cg _ _ fun r c _ _=>by
  unfold upd sw
  by_cases h1:r=j
  · rw[if_pos h1]
    by_cases h2:r=i
    · omega
    · rw[if_neg h2,if_pos h1]
  · rw[if_neg h1]
    by_cases h2:r=i
    · rw[if_pos h2,if_pos h2]
    · rw[if_neg h2,if_neg h2,if_neg h1]
 have a1:=l2 (M i)
 have a2:=l2 (M j)
 rw[z1,s1]at a1
 rw[z2,s2]at a2
 rw[z0,a1,a2]at l1
 omega
theorem Alt.swap{n i j:Nat}{φ:Fn→Int}(A:Alt n φ)(hi:i<n)(hj:j<n)(hij:i≠j)(M:Fn):φ (fun r=>M (sw i j r))= -φ M:=
 Nf A.cg A.oH hi hj hij (fun N h=>A.alt i j N hi hj hij h) M
theorem ug{n:Nat}{φ:Fn→Int}(cg:∀M M':Fn,(∀r c,r<n→c<n→M r c=M' r c)→φ M=φ M')
 (oH:∀(i:Nat) (M P Q:Fn) (a b:Int),i<n→(∀c,c<n→M i c=a*P i c+b*Q i c)→(∀r c,r<n→c<n→r≠i→M r c=P r c∧M r c=Q r c)→φ M=a*φ P+b*φ Q)
 (adj:∀(i:Nat) (M:Fn),i+1<n→(∀c,c<n→M i c=M (i+1) c)→φ M=0):Alt n φ:=by
 have far:∀(d i:Nat) (M:Fn),i+d+1<n→(∀c,c<n→M i c=M (i+d+1) c)→φ M=0:=by
  intro d
  induction d with
  |zero=>exact fun i M h1 h2=>adj i M h1 h2
  |succ d ih=>
   intro i M h1 h2
   have hs:=Nf cg oH (i:=i+d+1) (j:=i+d+1+1) (by omega) (by omega) (by omega) (fun N h=>adj (i+d+1) N (by omega) h) M
   have:φ (fun r=>M (sw (i+d+1) (i+d+1+1) r))=0:=ih i _ (by omega) fun c hc=>by
    have e1:sw (i+d+1) (i+d+1+1) i=i:=by unfold sw;rw[if_neg (by omega),if_neg (by omega)]
    have e2:sw (i+d+1) (i+d+1+1) (i+d+1)=i+d+1+1:=by unfold sw;rw[if_pos rfl]
    rw[e1,e2]
    exact h2 c hc
   omega
 refine⟨cg,oH,fun i j M hi hj hij h=>?_⟩
 by_cases hlt:i<j
 · obtain⟨d,rfl⟩:∃d,j=i+d+1:=⟨j-i-1,by omega⟩
   exact far d i M hj h
 · obtain⟨d,rfl⟩:∃d,i=j+d+1:=⟨i-j-1,by omega⟩
   exact far d j M hi fun c hc=>(h c hc).symm
theorem rF(n:Nat):Alt n (D n):=ug (fun _ _ h=>cX h) (fun _ _ _ _ _ _ hi h0 h=>FK hi h0 h) fun _ _ h1 h2=>FU h1 h2
theorem Alt.IS{n i:Nat}{φ:Fn→Int}(A:Alt n φ)(hi:i<n){M:Fn}(h:∀c,c<n→M i c=0):φ M=0:=by
 have:=A.oH i M M M 0 0 hi (fun c hc=>by rw[h c hc];rfl) fun _ _ _ _ _=>⟨rfl,rfl⟩
 omega
theorem Alt.DB{n i:Nat}{φ:Fn→Int}(A:Alt n φ)(hi:i<n)(M:Fn)(t:Int)(x:Nat→Int):φ (upd M i fun c=>t*x c)=t*φ (upd M i x):=by
 have:=A.oH i (upd M i fun c=>t*x c) (upd M i x) (upd M i x) t 0 hi (fun c hc=>by rw[bZ,bZ];omega) fun r c _ _ hr=>by rw[ax hr,ax hr];exact⟨rfl,rfl⟩
 omega
theorem Alt.D8{n i:Nat}{φ:Fn→Int}(A:Alt n φ)(hi:i<n)(M:Fn)(x y:Nat→Int):φ (upd M i fun c=>x c+y c)=φ (upd M i x)+φ (upd M i y):=by
 have:=A.oH i (upd M i fun c=>x c+y c) (upd M i x) (upd M i y) 1 1 hi (fun c hc=>by rw[bZ,bZ,bZ];omega) fun r c _ _ hr=>by rw[ax hr,ax hr,ax hr];exact⟨rfl,rfl⟩
 omega
theorem Alt.uh{n i:Nat}{φ:Fn→Int}(A:Alt n φ)(hi:i<n)(M:Fn)(a:Nat→Int)(x:Nat→Nat→Int):∀m,φ (upd M i fun c=>S m fun j=>a j*x j c)=S m fun j=>a j*φ (upd M i (x j))
 |0=>A.IS hi fun c _=>by rw[bZ];rfl
 |m+1=>by
  have:(fun c=>S (m+1) fun j=>a j*x j c)=fun c=>(S m fun j=>a j*x j c)+a m*x m c:=rfl
  rw[this,A.D8 hi,A.uh hi M a x m,A.DB hi]
  rfl
noncomputable def un(j c:Nat):Nat:=if c<j then c else c-1
noncomputable def grow(j:Nat)(B:Fn):Fn:=fun r c=>if r=0 then dl j c else if c=j then 0 else B (r-1) (un j c)
theorem uI{n j c:Nat}(hj:j<n+1)(hc:c<n+1)(h:c≠j):un j c<n:=by unfold un;split<;>omega
theorem A_{j c:Nat}(h:c≠j):sk j (un j c)=c:=by unfold sk un;grind
theorem Alt.grow{n j:Nat}{φ:Fn→Int}(A:Alt (n+1) φ)(hj:j<n+1):Alt n fun B=>φ (Mx.grow j B) where
 cg:=fun M M' h=>A.cg _ _ fun r c hr hc=>by
  have:=h (r-1) (un j c)
  have:=uI (c:=c) hj hc
  unfold Mx.grow
  grind
 oH:=fun i M P Q a b hi h0 h=>A.oH (i+1) _ _ _ a b (by omega) (fun c hc=>by
  have:=h0 (un j c)
  have:=uI (c:=c) hj hc
  have e:i+1-1=i:=by omega
  unfold Mx.grow
  rw[e]
  grind) fun r c hr hc hne=>by
  have:=h (r-1) (un j c)
  have:=uI (c:=c) hj hc
  unfold Mx.grow
  grind
 alt:=fun i k M hi hk hik h=>A.alt (i+1) (k+1) _ (by omega) (by omega) (by omega) fun c hc=>by
  have:=h (un j c)
  have:=uI (c:=c) hj hc
  have e:i+1-1=i:=by omega
  have e2:k+1-1=k:=by omega
  unfold Mx.grow
  rw[e,e2]
  grind
theorem Alt.units{n:Nat}{φ:Fn→Int}(A:Alt (n+1) φ):∀j,j<n+1→φ (Mx.grow j dl)=sg j*φ dl
 |0,_=>by
  rw[vo,Int.one_mul]
  refine A.cg _ _ fun r c hr hc=>?_
  unfold Mx.grow un dl
  grind
 |j+1,hj=>by
  have ih:=A.units j (by omega)
  have s:=A.swap (i:=0) (j:=j+1) (by omega) hj (by omega) (Mx.grow j dl)
  rw[vw,Int.neg_mul,←ih,←s]
  refine A.cg _ _ fun r c hr hc=>?_
  unfold Mx.grow un dl sw
  grind
theorem Alt.Nq{n i k:Nat}{φ:Fn→Int}(A:Alt n φ)(hi:i<n)(hk:k<n)(hik:i≠k)(M:Fn)(x:Nat→Int)(t:Int):φ (upd M i fun c=>x c+t*M k c)=φ (upd M i x):=by
 rw[A.D8 hi,A.DB hi M t (M k),A.alt i k (upd M i (M k)) hi hk hik fun c _=>by rw[bZ,ax (Ne.symm hik)],Int.mul_zero,Int.add_zero]
noncomputable def zr(j m:Nat)(M:Fn):Fn:=fun r c=>if r=0 then dl j c else if r≤m∧c=j then 0 else M r c
theorem Alt.zr{n j:Nat}{φ:Fn→Int}(A:Alt (n+1) φ)(M:Fn):∀m,m≤n→φ (Mx.zr j m M)=φ (upd M 0 (dl j))
 |0,_=>A.cg _ _ fun r c hr hc=>by unfold Mx.zr upd;grind
 |m+1,hm=>by
  rw[←A.zr M m (by omega)]
  have e:=A.Nq (i:=m+1) (k:=0) (by omega) (by omega) (by omega) (Mx.zr j m M) (M (m+1)) (-M (m+1) j)
  have e1:φ (Mx.zr j (m+1) M)=φ (upd (Mx.zr j m M) (m+1) fun c=>M (m+1) c+ -M (m+1) j*Mx.zr j m M 0 c):=A.cg _ _ fun r c hr hc=>by
   unfold upd Mx.zr dl
   by_cases h0:r=m+1
   · subst h0
     by_cases h1:c=j
     · subst h1;simp;omega
     · have:¬j=c:=fun z=>h1 z.symm
       simp[h1,this]
   · rw[if_neg h0]
     grind
  have e2:φ (upd (Mx.zr j m M) (m+1) (M (m+1)))=φ (Mx.zr j m M):=A.cg _ _ fun r c hr hc=>by
   unfold upd Mx.zr
   grind
  rw[e1,e,e2]
theorem BS:∀ {n:Nat} {φ:Fn→Int},Alt n φ→∀M,φ M=φ dl*D n M
 |0,φ,A,M=>by rw[Cs,Int.mul_one];exact A.cg _ _ fun r c hr=>by omega
 |n+1,φ,A,M=>by
  have h1:φ M=S (n+1) fun j=>M 0 j*φ (upd M 0 (dl j)):=by
   rw[←A.uh (by omega) M (M 0) dl (n+1)]
   refine A.cg _ _ fun r c hr hc=>?_
   by_cases h0:r=0
   · subst h0
     rw[bZ,qX hc]
   · rw[ax h0]
  have h2:∀j,j<n+1→φ (upd M 0 (dl j))=φ (Mx.grow j fun r c=>M (r+1) (sk j c)):=fun j hj=>by
   rw[←A.zr M n (Nat.le_refl _)]
   refine A.cg _ _ fun r c hr hc=>?_
   unfold Mx.grow Mx.zr
   by_cases h0:r=0
   · rw[if_pos h0,if_pos h0]
   · rw[if_neg h0,if_neg h0]
     by_cases h3:c=j
     · rw[if_pos ⟨by omega,h3⟩,if_pos h3]
     · rw[if_neg (by omega),if_neg h3]
       dsimp only
       rw[A_ h3,show r-1+1=r by omega]
  rw[h1,dh,←eS]
  refine aG fun j hj=>?_
  have h3:=BS (A.grow hj) fun r c=>M (r+1) (sk j c)
  have h4:=A.units j hj
  have h5:φ (Mx.grow j fun r c=>M (r+1) (sk j c))=φ (Mx.grow j dl)*D n fun r c=>M (r+1) (sk j c):=h3
  rw[h2 j hj,h5,h4]
  grind
theorem vW:∀n,D n dl=1
 |0=>rfl
 |n+1=>by
  rw[dh,l_ (k:=0) (by omega) fun j hj h0=>by rw[eG (Ne.symm h0),Int.mul_zero,Int.zero_mul]]
  have:D n (fun r c=>dl (r+1) (sk 0 c))=D n dl:=cX fun r c _ _=>by
   unfold dl sk
   grind
  rw[this,vW n,d9];rfl
theorem FI(n:Nat)(A B:Fn):D n (fun r c=>S n fun k=>A r k*B k c)=D n A*D n B:=by
 have al:Alt n fun A=>D n (fun r c=>S n fun k=>A r k*B k c):=by
  refine⟨fun M M' h=>cX fun r c hr hc=>aG fun k hk=>by rw[h r k hr hk],fun i M P Q a b hi h0 h=>(rF n).oH i _ _ _ a b hi (fun c hc=>?_) fun r c hr hc hne=>⟨aG fun k hk=>by rw[(h r k hr hk hne).1],aG fun k hk=>by rw[(h r k hr hk hne).2]⟩,fun i j M hi hj hij h=>(rF n).alt i j _ hi hj hij fun c hc=>aG fun k hk=>by rw[h k hk]⟩
  show(S n fun k=>M i k*B k c)=a*(S n fun k=>P i k*B k c)+b*S n fun k=>Q i k*B k c
  rw[←eS,←eS,←iF]
  refine aG fun k hk=>?_
  rw[h0 k hk]
  grind
 have h:=BS al A
 have e:D n (fun r c=>S n fun k=>dl r k*B k c)=D n B:=cX fun r c hr hc=>ng hr fun k=>B k c
 rw[h,e,Int.mul_comm]
theorem D6:∀ {n:Nat} {M P Q:Fn} {a b:Int} {i:Nat},i<n→(∀r,r<n→M r i=a*P r i+b*Q r i)→(∀r c,r<n→c<n→c≠i→M r c=P r c∧M r c=Q r c)→D n M=a*D n P+b*D n Q
 |0,_,_,_,_,_,_,h,_,_=>by omega
 |n+1,M,P,Q,a,b,i,hi,h0,h=>by
  rw[dh,dh,dh,←eS,←eS,←iF]
  refine aG fun j hj=>?_
  by_cases hij:j=i
  · subst hij
    have hs:∀c,sk j c≠j:=fun c=>by unfold sk;split<;>omega
    have e1:D n (fun r c=>M (r+1) (sk j c))=D n (fun r c=>P (r+1) (sk j c)):=cX fun r c hr hc=>(h (r+1) (sk j c) (by omega) (jV hc) (hs c)).1
    have e2:D n (fun r c=>M (r+1) (sk j c))=D n (fun r c=>Q (r+1) (sk j c)):=cX fun r c hr hc=>(h (r+1) (sk j c) (by omega) (jV hc) (hs c)).2
    rw[h0 0 (by omega),←e1,←e2]
    grind
  · have p:=h 0 j (by omega) hj hij
    have hu:sk j (un j i)=i:=A_ (Ne.symm hij)
    have hs:∀c,c≠un j i→sk j c≠i:=fun c hc=>by unfold sk;unfold un at hc;grind
    have hlt:un j i<n:=uI hj hi (Ne.symm hij)
    have e:=D6 (n:=n) (M:=fun r c=>M (r+1) (sk j c)) (P:=fun r c=>P (r+1) (sk j c)) (Q:=fun r c=>Q (r+1) (sk j c)) (a:=a) (b:=b) (i:=un j i) hlt (fun r hr=>by
     rw[hu]
     exact h0 (r+1) (by omega)) fun r c hr hc hne=>h (r+1) (sk j c) (by omega) (jV hc) (hs c hne)
    rw[e,←p.1,←p.2]
    grind
theorem C5:∀ {n:Nat} {M:Fn} {i:Nat},i+1<n→(∀r,r<n→M r i=M r (i+1))→D n M=0
 |0,_,_,h,_=>by omega
 |n+1,M,i,hi,h=>by
  rw[dh]
  have key:∀j,j<n+1→j≠i→j≠i+1→D n (fun r c=>M (r+1) (sk j c))=0:=fun j hj h1 h2=>by
   refine C5 (i:=un j i) (by unfold un;split<;>omega) fun r hr=>?_
   have e1:sk j (un j i)=i:=A_ (Ne.symm h1)
   have e2:sk j (un j i+1)=i+1:=by unfold sk un;grind
   rw[e1,e2]
   exact h (r+1) (by omega)
  have e:D n (fun r c=>M (r+1) (sk i c))=D n (fun r c=>M (r+1) (sk (i+1) c)):=cX fun r c hr hc=>by
   by_cases hc2:c=i
   · subst hc2
     have a1:sk c c=c+1:=by unfold sk;rw[if_neg (by omega)]
     have a2:sk (c+1) c=c:=by unfold sk;rw[if_pos (by omega)]
     rw[a1,a2]
     exact(h (r+1) (by omega)).symm
   · have a1:sk i c=sk (i+1) c:=by unfold sk;grind
     rw[a1]
  have two:∀(m:Nat) (f:Nat→Int),i+1<m→(∀j,j<m→j≠i→j≠i+1→f j=0)→S m f=f i+f (i+1):=fun m=>by
   induction m with
   |zero=>intro f h;omega
   |succ m ih=>
    intro f hm hf
    show S m f+f m=_
    by_cases hmi:m=i+1
    · subst hmi
      rw[l_ (k:=i) (by omega) fun j hj hne=>hf j (by omega) hne (by omega)]
    · rw[ih f (by omega) fun j hj h1 h2=>hf j (by omega) h1 h2,hf m (by omega) (by omega) hmi,Int.add_zero]
  rw[two (n+1) _ hi fun j hj h1 h2=>by rw[key j hj h1 h2,Int.mul_zero],e,vw,h 0 (by omega)]
  grind
noncomputable def tr(M:Fn):Fn:=fun r c=>M c r
theorem zd(n:Nat)(M:Fn):D n (tr M)=D n M:=by
 have al:Alt n fun A=>D n (tr A):=ug (fun M M' h=>cX fun r c hr hc=>h c r hc hr)
  (fun i M P Q a b hi h0 h=>D6 hi (fun r hr=>h0 r hr) fun r c hr hc hne=>h c r hc hr hne)
  fun i M hi h=>C5 hi fun r hr=>h r hr
 have h:=BS al M
 have e:D n (tr dl)=D n dl:=cX fun r c _ _=>vk c r
 have h2:D n (tr M)=D n (tr dl)*D n M:=h
 rw[h2,e,vW,Int.one_mul]
noncomputable def Pr:Nat→(Nat→Int)→Int
 |0,_=>1
 |n+1,f=>Pr n f*f n
theorem AM:∀(n:Nat) (f:Nat→Int),Pr (n+1) f=f 0*Pr n fun i=>f (i+1)
 |0,f=>by show 1*f 0=f 0*1;omega
 |n+1,f=>by
  have:Pr (n+1+1) f=Pr (n+1) f*f (n+1):=rfl
  rw[this,AM n f]
  have:Pr (n+1) (fun i=>f (i+1))=Pr n (fun i=>f (i+1))*f (n+1):=rfl
  rw[this,Int.mul_assoc]
theorem Gr:∀ {n:Nat} {M:Fn},(∀r c,r<n→c<n→r<c→M r c=0)→D n M=Pr n fun i=>M i i
 |0,_,_=>rfl
 |n+1,M,h=>by
  rw[dh,l_ (k:=0) (by omega) fun j hj h0=>by rw[h 0 j (by omega) hj (by omega),Int.mul_zero,Int.zero_mul],AM,vo,Int.one_mul]
  have s:∀c,sk 0 c=c+1:=fun c=>by unfold sk;rw[if_neg (by omega)]
  have e:D n (fun r c=>M (r+1) (sk 0 c))=Pr n fun i=>M (i+1) (i+1):=by
   rw[Gr fun r c hr hc hrc=>by rw[s];exact h (r+1) (c+1) (by omega) (by omega) (by omega)]
   simp only[s]
  rw[e]
theorem Nw{n:Nat}{M:Fn}(h:∀r c,r<n→c<n→c<r→M r c=0):D n M=Pr n fun i=>M i i:=by
 rw[←zd n M,Gr (M:=tr M) fun r c hr hc hrc=>h c r hc hr hrc]
 rfl
theorem yd:∀ {n:Nat} {M:Fn},(∀c,c<n+1→M n c=dl n c)→D (n+1) M=D n M
 |0,M,h=>by
  rw[dh]
  show 0+sg 0*M 0 0*D 0 _=1
  rw[h 0 (by omega),d9,vo,Cs];omega
 |n+1,M,h=>by
  have e1:∀j,j<n+1→D (n+1) (fun r c=>M (r+1) (sk j c))=D n (fun r c=>M (r+1) (sk j c)):=fun j hj=>yd fun c hc=>by
   rw[h (sk j c) (jV hc)]
   unfold dl sk
   grind
  have e2:D (n+1) (fun r c=>M (r+1) (sk (n+1) c))=0:=(rF (n+1)).IS (i:=n) (by omega) fun c hc=>by
   have s:sk (n+1) c=c:=by unfold sk;rw[if_pos (by omega)]
   rw[s,h c (by omega),eG (by omega)]
  have e3:D (n+1+1) M=(S (n+1) fun j=>sg j*M 0 j*D (n+1) fun r c=>M (r+1) (sk j c))+sg (n+1)*M 0 (n+1)*D (n+1) (fun r c=>M (r+1) (sk (n+1) c)):=dh (n+1) M
  rw[e3,e2,Int.mul_zero,Int.add_zero,dh]
  exact aG fun j hj=>by rw[e1 j hj]
end Mx
namespace Mx
noncomputable def gx(R:Fn)(p:Nat)(x:Nat→Int)(j:Nat):Int:=D (p+1) fun r c=>if r<p then R r (if c<p then c else j)else x (if c<p then c else j)
theorem Kw{R:Fn}{p j:Nat}{x:Nat→Int}(h:j<p):gx R p x j=0:=by
 unfold gx
 rw[←zd]
 refine(rF (p+1)).alt j p _ (by omega) (by omega) (by omega) fun c hc=>?_
 unfold tr
 dsimp only
 rw[if_pos h,if_neg (Nat.lt_irrefl p)]
noncomputable def bt(R:Fn)(p:Nat)(x:Nat→Int)(k:Nat):Int:=D (p+1) (upd (fun c r=>if r<p then R r c else x c) p (dl k))
theorem Ml(R:Fn)(p:Nat)(x:Nat→Int)(j:Nat):gx R p x j=D p R*x j+S p fun k=>bt R p x k*R k j:=by
 have e1:gx R p x j=D (p+1) (upd (fun c r=>if r<p then R r c else x c) p fun r=>S (p+1) fun k=>(if k<p then R k j else x j)*dl k r):=by
  unfold gx
  rw[←zd]
  refine cX fun c r hc hr=>?_
  unfold tr upd
  by_cases h:c=p
  · subst h
    rw[if_pos rfl]
    dsimp only
    rw[qX hr,if_neg (Nat.lt_irrefl _)]
  · rw[if_neg h]
    dsimp only
    rw[if_pos (show c<p by omega)]
 rw[e1,(rF (p+1)).uh (by omega)]
 have e2:D (p+1) (upd (fun c r=>if r<p then R r c else x c) p (dl p))=D p R:=by
  rw[yd fun c _=>bZ _ _ _ _]
  rw[←zd]
  refine cX fun r c hr hc=>?_
  unfold tr
  rw[ax (by omega),if_pos (by omega)]
 have e3:(S (p+1) fun k=>(if k<p then R k j else x j)*D (p+1) (upd (fun c r=>if r<p then R r c else x c) p (dl k)))=(S p fun k=>(if k<p then R k j else x j)*D (p+1) (upd (fun c r=>if r<p then R r c else x c) p (dl k)))+(if p<p then R p j else x j)*D (p+1) (upd (fun c r=>if r<p then R r c else x c) p (dl p)):=rfl
 rw[e3,e2,if_neg (Nat.lt_irrefl p),Int.add_comm,Int.mul_comm]
 congr 1
 refine aG fun k hk=>?_
 rw[if_pos hk,Int.mul_comm]
 rfl
noncomputable def cl(p j1 j2 c:Nat):Nat:=if c<p then c else if c=p then j1 else j2
theorem F9{n:Nat}{f:Nat→Int}{m:Nat}(h:∀i,i<n→(f i).natAbs≤m):(S n f).natAbs≤n*m:=by
 induction n with
 |zero=>simp[S]
 |succ n ih=>
  have h1:=ih fun i hi=>h i (by omega)
  have h2:=h n (by omega)
  show(S n f+f n).natAbs≤_
  rw[Nat.succ_mul]
  omega
end Mx
namespace Mx
end Mx
namespace Mx
noncomputable def lam(G:Fn)(i j:Nat):Int:=gx G j (G i) j
noncomputable def NK(A:Rows):Fn:=fun i j=>IT (A.getD i []) (A.getD j [])
end Mx
namespace Mx
noncomputable def Mw(G:Fn)(i:Nat):Row:=(List.range (i+1)).map fun j=>lam G i j
noncomputable def La(G:Fn)(n:Nat):Rows:=(List.range n).map (Mw G)
end Mx
namespace Mx
noncomputable def RA(A:Rows)(N:Nat):Fn:=fun i j=>if j<N then NK A i j else(A.getD i []).getD (j-N) 0
noncomputable def ev(A:Rows)(N i k c:Nat):Int:=gx (RA A N) k (RA A N i) (N+c)
theorem Bf(n:Nat)(a b:Int)(f g:Nat→Int):S n (fun c=>a*f c-b*g c)=a*S n f-b*S n g:=by
 induction n with
 |zero=>show(0:Int)=a*0-b*0;omega
 |succ n ih=>
  show S n (fun c=>a*f c-b*g c)+(a*f n-b*g n)=a*(S n f+f n)-b*(S n g+g n)
  rw[ih,Int.mul_add,Int.mul_add];omega
section
variable {A:Rows}{N w:Nat}
end
end Mx
namespace Mx
end Mx
namespace Mx
noncomputable def Ob(M:Fn)(k j:Nat)(q:Int):Fn:=fun a b=>if a=k then M a b-q*M j b else M a b
noncomputable def Om(M:Fn)(k j:Nat)(q:Int):Fn:=fun a b=>if b=k then M a b-q*M a j else M a b
noncomputable def tk(G:Fn)(k j:Nat)(q:Int):Fn:=Om (Ob G k j q) k j q
end Mx
namespace Mx
section
variable {G:Fn}{t:Nat}(sym:∀i j,G i j=G j i)
include sym
end
end Mx
namespace Mx
section
variable {A:Rows}{N w:Nat}
theorem cH(hA:cT N w A){i:Nat}(hi:i<N):(A.getD i []).length=w:=hA.lP _ (by have:=hA.len;rw[ba (by omega)];exact List.getElem_mem _)
end
end Mx
namespace Mx
noncomputable def bG(A:Rows)(k:Nat)(q:Int)(j:Nat):Rows:=A.set k (eP (A.getD k []) (-q) (A.getD j []))
noncomputable def bw(A:Rows)(k o:Nat):Rows:=(A.set k (A.getD o [])).set o (A.getD k [])
theorem kE{A:Rows}{k i:Nat}{r:Row}(hk:k<A.length):(A.set k r).getD i []=if i=k then r else A.getD i []:=by
 rw[List.getD_eq_getElem?_getD,List.getElem?_set]
 by_cases h:k=i
 · rw[if_pos h,if_pos (by omega),if_pos h.symm];rfl
 · rw[if_neg h,if_neg (Ne.symm h),List.getD_eq_getElem?_getD]
theorem CM{A:Rows}{k j:Nat}{q:Int}:(bG A k q j).length=A.length:=by unfold bG;rw[List.length_set]
theorem tY{A:Rows}{N w k j:Nat}{q:Int}(hA:cT N w A)(hk:k<N)(hj:j<N):cT N w (bG A k q j):=by
 refine⟨CM.trans hA.len,fun r hr=>?_⟩
 unfold bG at hr
 rcases List.mem_or_eq_of_mem_set hr with h|rfl
 · exact hA.lP r h
 · rw[kl (by rw[cH hA hk,cH hA hj]),cH hA hk]
end Mx
namespace Mx
structure Tn(A0 A U C:Rows)(N w:Nat):Prop where
 isA:cT N w A
 d8:cT N N U
 fO:cT N N C
 ua:∀i c,i<N→c<w→g A i c=S N fun k=>g U i k*g A0 k c
 ub:∀i j,i<N→j<N→S N (fun k=>g U i k*g C j k)=dl i j
 bu:∀i j,i<N→j<N→S N (fun k=>g C k i*g U k j)=dl i j
theorem eR{A:Rows}{N w k j:Nat}{q:Int}(hA:cT N w A)(hk:k<N)(hj:j<N)(i c:Nat):g (bG A k q j) i c=if i=k then g A k c-q*g A j c else g A i c:=by
 unfold g bG
 have hl:=hA.len
 rw[kE (by omega)]
 by_cases h:i=k
 · rw[if_pos h,if_pos h,rR (by rw[cH hA hk,cH hA hj]),Int.neg_mul];omega
 · rw[if_neg h,if_neg h]
theorem uv(n:Nat)(a b:Int)(f h:Nat→Int):S n (fun c=>a*f c+b*h c)=a*S n f+b*S n h:=by
 rw[iF,eS,eS]
theorem Tn.take{A0 A U C:Rows}{N w k j:Nat}{q:Int}(T:Tn A0 A U C N w)(hk:k<N)(hj:j<N)(hkj:j≠k):Tn A0 (bG A k q j) (bG U k q j) (bG C j (-q) k) N w where
 isA:=tY T.isA hk hj
 d8:=tY T.d8 hk hj
 fO:=tY T.fO hj hk
 ua:=fun i c hi hc=>by
  rw[eR T.isA hk hj]
  have e:S N (fun m=>g (bG U k q j) i m*g A0 m c)=S N fun m=>(if i=k then g U k m-q*g U j m else g U i m)*g A0 m c:=aG fun m _=>by rw[eR T.d8 hk hj]
  rw[e]
  by_cases h:i=k
  · simp only[if_pos h]
    rw[T.ua k c hk hc,T.ua j c hj hc]
    have e2:S N (fun m=>(g U k m-q*g U j m)*g A0 m c)=S N fun m=>1*(g U k m*g A0 m c)-q*(g U j m*g A0 m c):=aG fun m _=>by grind
    rw[e2,Bf];omega
  · simp only[if_neg h]
    exact T.ua i c hi hc
 ub:=fun i l hi hl=>by
  have e:S N (fun m=>g (bG U k q j) i m*g (bG C j (-q) k) l m)=S N fun m=>(if i=k then g U k m-q*g U j m else g U i m)*(if l=j then g C j m- -q*g C k m else g C l m):=aG fun m _=>by rw[eR T.d8 hk hj,eR T.fO hj hk]
  rw[e]
  have djk:dl j k=0:=eG hkj
  by_cases h:i=k
  · by_cases h2:l=j
    · simp only[if_pos h,if_pos h2]
      have e2:S N (fun m=>(g U k m-q*g U j m)*(g C j m- -q*g C k m))=S N fun m=>1*(1*(g U k m*g C j m)+q*(g U k m*g C k m))-q*(1*(g U j m*g C j m)+q*(g U j m*g C k m)):=aG fun m _=>by grind
      rw[e2,Bf,uv,uv,T.ub k j hk hj,T.ub k k hk hk,T.ub j j hj hj,T.ub j k hj hk,h,h2,d9,d9,djk,vk k j,djk]
      omega
    · simp only[if_pos h,if_neg h2]
      have e2:S N (fun m=>(g U k m-q*g U j m)*g C l m)=S N fun m=>1*(g U k m*g C l m)-q*(g U j m*g C l m):=aG fun m _=>by grind
      rw[e2,Bf,T.ub k l hk hl,T.ub j l hj hl,h,eG (Ne.symm h2)]
      omega
  · by_cases h2:l=j
    · simp only[if_neg h,if_pos h2]
      have e2:S N (fun m=>g U i m*(g C j m- -q*g C k m))=S N fun m=>1*(g U i m*g C j m)+q*(g U i m*g C k m):=aG fun m _=>by grind
      rw[e2,uv,T.ub i j hi hj,T.ub i k hi hk,h2,eG h]
      omega
    · simp only[if_neg h,if_neg h2]
      exact T.ub i l hi hl
 bu:=fun i l hi hl=>by
  have e:S N (fun m=>g (bG C j (-q) k) m i*g (bG U k q j) m l)=S N fun m=>g C m i*g U m l+((q*(g C k i*g U j l))*dl m j+(-(q*(g C k i*g U j l)))*dl m k):=aG fun m _=>by
   rw[eR T.d8 hk hj,eR T.fO hj hk]
   by_cases h1:m=j
   · have h2:m≠k:=by omega
     rw[if_pos h1,if_neg h2,h1,d9,eG hkj];grind
   · rw[if_neg h1,eG h1]
     by_cases h2:m=k
     · rw[if_pos h2,h2,d9];grind
     · rw[if_neg h2,eG h2];grind
  rw[e,iF,uv,T.bu i l hi hl]
  have e1:S N (fun c=>dl c j)=1:=by
   rw[l_ hj fun i _ h=>eG h,d9]
  have e2:S N (fun c=>dl c k)=1:=by
   rw[l_ hk fun i _ h=>eG h,d9]
  rw[e1,e2];omega
end Mx
namespace Mx
theorem y_{A:Rows}{k o i:Nat}(hk:k<A.length)(ho:o<A.length):(bw A k o).getD i []=A.getD (sw k o i) []:=by
 unfold bw
 rw[kE (by rw[List.length_set];exact ho),kE hk]
 unfold sw
 by_cases h1:i=k
 · rw[if_pos h1,if_pos h1]
   by_cases h2:i=o
   · rw[if_pos h2,←h1,←h2]
   · rw[if_neg h2]
 · rw[if_neg h1,if_neg h1]
   by_cases h2:i=o
   · rw[if_pos h2,if_pos h2]
   · rw[if_neg h2,if_neg h2]
theorem tG{A:Rows}{N w k o:Nat}(hA:cT N w A)(hk:k<N)(ho:o<N):cT N w (bw A k o):=by
 refine⟨by unfold bw;rw[List.length_set,List.length_set];exact hA.len,fun r hr=>?_⟩
 unfold bw at hr
 rcases List.mem_or_eq_of_mem_set hr with h|rfl
 · rcases List.mem_or_eq_of_mem_set h with h|rfl
   · exact hA.lP r h
   · exact cH hA ho
 · exact cH hA hk
theorem jt{A:Rows}{N w k o:Nat}(hA:cT N w A)(hk:k<N)(ho:o<N)(i c:Nat):g (bw A k o) i c=g A (sw k o i) c:=by
 unfold g
 rw[y_ (by have:=hA.len;omega) (by have:=hA.len;omega)]
theorem qD{k o N i:Nat}(hk:k<N)(ho:o<N)(hi:i<N):sw k o i<N:=by unfold sw;split<;>(try split)<;>assumption
theorem Dl(k o x:Nat):sw k o (sw k o x)=x:=by
 unfold sw
 by_cases h1:x=k
 · subst h1
   rw[if_pos rfl]
   by_cases h2:o=x
   · rw[if_pos h2];exact h2
   · rw[if_neg h2,if_pos rfl]
 · rw[if_neg h1]
   by_cases h2:x=o
   · subst h2;rw[if_pos rfl,if_pos rfl]
   · rw[if_neg h2,if_neg h1,if_neg h2]
theorem MN{k o a b:Nat}:dl (sw k o a) (sw k o b)=dl a b:=by
 by_cases h:a=b
 · rw[h,d9,d9]
 · rw[eG h,eG fun z=>h (by rw[←Dl k o a,←Dl k o b,z])]
theorem HN(k x:Nat):sw k k x=x:=by
 unfold sw
 by_cases h:x=k
 · rw[if_pos h,h]
 · rw[if_neg h,if_neg h]
theorem Ly{n i j:Nat}(hi:i<n)(hj:j<n)(f:Nat→Int):S n (fun k=>f (sw i j k))=S n f:=by
 by_cases h:i=j
 · subst h;exact aG fun k _=>by rw[HN]
 · exact ND hi hj h f
theorem Tn.Gi{A0 A U C:Rows}{N w k o:Nat}(T:Tn A0 A U C N w)(hk:k<N)(ho:o<N):Tn A0 (bw A k o) (bw U k o) (bw C k o) N w where
 isA:=tG T.isA hk ho
 d8:=tG T.d8 hk ho
 fO:=tG T.fO hk ho
 ua:=fun i c hi hc=>by
  rw[jt T.isA hk ho,T.ua _ c (qD hk ho hi) hc]
  exact aG fun m _=>by rw[jt T.d8 hk ho]
 ub:=fun i j hi hj=>by
  rw[←MN (k:=k) (o:=o),←T.ub _ _ (qD hk ho hi) (qD hk ho hj)]
  exact aG fun m _=>by rw[jt T.d8 hk ho,jt T.fO hk ho]
 bu:=fun i j hi hj=>by
  rw[←T.bu i j hi hj,←Ly hk ho fun m=>g C m i*g U m j]
  exact aG fun m _=>by rw[jt T.d8 hk ho,jt T.fO hk ho]
noncomputable def fW(A:Rows)(k:Nat):Rows:=A.set k ((A.getD k []).map fun x=> -x)
theorem xZ{A:Rows}{N w k:Nat}(hA:cT N w A)(hk:k<N):cT N w (fW A k):=by
 refine⟨by unfold fW;rw[List.length_set];exact hA.len,fun r hr=>?_⟩
 unfold fW at hr
 rcases List.mem_or_eq_of_mem_set hr with h|rfl
 · exact hA.lP r h
 · rw[List.length_map];exact cH hA hk
theorem EE(r:Row)(c:Nat):(r.map fun x=> -x).getD c 0= -r.getD c 0:=by
 rw[List.getD_eq_getElem?_getD,List.getD_eq_getElem?_getD,List.getElem?_map]
 cases r[c]?<;>rfl
theorem jZ{A:Rows}{N w k:Nat}(hA:cT N w A)(hk:k<N)(i c:Nat):g (fW A k) i c=if i=k then-g A k c else g A i c:=by
 unfold g fW
 rw[kE (by have:=hA.len;omega)]
 by_cases h:i=k
 · rw[if_pos h,if_pos h,EE]
 · rw[if_neg h,if_neg h]
theorem Tn.neg{A0 A U C:Rows}{N w k:Nat}(T:Tn A0 A U C N w)(hk:k<N):Tn A0 (fW A k) (fW U k) (fW C k) N w where
 isA:=xZ T.isA hk
 d8:=xZ T.d8 hk
 fO:=xZ T.fO hk
 ua:=fun i c hi hc=>by
  rw[jZ T.isA hk]
  by_cases h:i=k
  · rw[if_pos h,T.ua k c hk hc,←xy]
    exact aG fun m _=>by rw[jZ T.d8 hk,if_pos h,Int.neg_mul]
  · rw[if_neg h,T.ua i c hi hc]
    exact aG fun m _=>by rw[jZ T.d8 hk,if_neg h]
 ub:=fun i j hi hj=>by
  have e:S N (fun m=>g (fW U k) i m*g (fW C k) j m)=S N fun m=>(if i=k then-1 else 1)*(if j=k then-1 else 1)*(g U i m*g C j m):=aG fun m _=>by
   rw[jZ T.d8 hk,jZ T.fO hk]
   by_cases h1:i=k<;>by_cases h2:j=k<;>simp only[h1,h2,if_true,if_false]<;>grind
  rw[e,eS,T.ub i j hi hj]
  by_cases h1:i=k
  · by_cases h2:j=k
    · simp[h1,h2]
    · rw[eG (by omega)];simp
  · by_cases h2:j=k
    · rw[eG (by omega)];simp
    · simp[h1,h2]
 bu:=fun i j hi hj=>by
  rw[←T.bu i j hi hj]
  exact aG fun m _=>by
   rw[jZ T.d8 hk,jZ T.fO hk]
   by_cases h:m=k
   · subst h;rw[if_pos rfl,if_pos rfl];grind
   · rw[if_neg h,if_neg h]
structure g0(A:Rows)(N top p:Nat)(L:List Nat):Prop where
 mem:∀k,k∈L↔top≤k∧k<N∧g A k p≠0
 ord:L.Pairwise fun i j=>(g A i p).natAbs<(g A j p).natAbs∨((g A i p).natAbs=(g A j p).natAbs∧i<j)
theorem uj{f:Nat→Nat}:∀ {l m:List Nat},(∀k,k∈l↔k∈m)→l.Pairwise (fun i j=>f i<f j∨(f i=f j∧i<j))→m.Pairwise (fun i j=>f i<f j∨(f i=f j∧i<j))→l=m
 | [],[],_,_,_=>rfl
 | [],b::m,h,_,_=>by have:=(h b).mpr (List.mem_cons_self ..);simp at this
 |a::l,[],h,_,_=>by have:=(h a).mp (List.mem_cons_self ..);simp at this
 |a::l,b::m,h,h1,h2=>by
  obtain⟨p1,q1⟩:=List.pairwise_cons.mp h1
  obtain⟨p2,q2⟩:=List.pairwise_cons.mp h2
  have e:a=b:=by
   rcases List.mem_cons.mp ((h a).mp (List.mem_cons_self ..))with z|z
   · exact z
   · rcases List.mem_cons.mp ((h b).mpr (List.mem_cons_self ..))with y|y
     · exact y.symm
     · have x1:=p1 b y
       have x2:=p2 a z
       omega
  subst e
  have na:a∉l:=fun z=>by have:=p1 a z;omega
  have nb:a∉m:=fun z=>by have:=p2 a z;omega
  rw[uj (l:=l) (m:=m) (fun k=>?_) q1 q2]
  have:=h k
  rw[List.mem_cons,List.mem_cons]at this
  constructor
  · intro z
    rcases this.mp (.inr z)with y|y
    · subst y;exact absurd z na
    · exact y
  · intro z
    rcases this.mpr (.inr z)with y|y
    · subst y;exact absurd z nb
    · exact y
theorem g0.unique{A:Rows}{N top p:Nat}{L M:List Nat}(h:g0 A N top p L)(h':g0 A N top p M):L=M:=
 uj (f:=fun i=>(g A i p).natAbs) (fun k=>(h.mem k).trans (h'.mem k).symm) h.ord h'.ord
structure B3 where
 A:Rows
 U:Rows
 C:Rows
noncomputable def qn(x y:Int):Int:=(2*x+y).fdiv (2*y)
noncomputable def jQ(b:B3)(p k j:Nat):B3:=⟨bG b.A k (qn (g b.A k p) (g b.A j p)) j,bG b.U k (qn (g b.A k p) (g b.A j p)) j,bG b.C j (-(qn (g b.A k p) (g b.A j p))) k⟩
noncomputable def rK(N top p:Nat)(b c:B3):Prop:=∃(L:List Nat) (k j:Nat),g0 b.A N top p (L++[j,k])∧c=jQ b p k j
theorem rK.unique{N top p:Nat}{b c d:B3}(h:rK N top p b c)(h':rK N top p b d):c=d:=by
 obtain⟨L,k,j,h1,rfl⟩:=h
 obtain⟨M,k',j',h2,rfl⟩:=h'
 have e:=h1.unique h2
 have e2:=congrArg List.reverse e
 simp only[List.reverse_append,List.reverse_cons,List.reverse_nil,List.nil_append,List.cons_append,List.cons.injEq]at e2
 rw[e2.1,e2.2.1]
inductive fF(N top p:Nat):B3→B3→Prop
 |refl (b:B3):fF N top p b b
 |head {b c d:B3} (h:rK N top p b c) (t:fF N top p c d):fF N top p b d
theorem fF.tail{N top p:Nat}{b c d:B3}(h:fF N top p b c)(t:rK N top p c d):fF N top p b d:=by
 induction h with
 |refl b=>exact .head t (.refl _)
 |head x _ ih=>exact .head x (ih t)
noncomputable def uu(N top p:Nat)(b:B3):Prop:=∃L,g0 b.A N top p L∧L.length≤1
theorem uu.stop{N top p:Nat}{b c:B3}(h:uu N top p b)(s:rK N top p b c):False:=by
 obtain⟨L,h1,h2⟩:=h
 obtain⟨M,k,j,h3,_⟩:=s
 rw[h1.unique h3]at h2
 simp at h2
theorem fF.unique{N top p:Nat}{b c d:B3}(h:fF N top p b c)(hc:uu N top p c)(h':fF N top p b d)(hd:uu N top p d):c=d:=by
 induction h with
 |refl b=>
  cases h' with
  |refl=>rfl
  |head s _=>exact(hc.stop s).elim
 |head s _ ih=>
  cases h' with
  |refl=>exact(hd.stop s).elim
  |head s' t=>
   rw[s'.unique s]at t
   exact ih hc t
noncomputable def iZ(X:Rows)(N top m:Nat):Prop:=∀i c,top≤i→i<N→(g X i c).natAbs≤m
noncomputable def PR(f:Nat→Nat):Nat→Nat
 |0=>1
 |n+1=>PR f n*f n
theorem Cg{f:Nat→Nat}(h:∀i,1≤f i):∀n,1≤PR f n
 |0=>Nat.le_refl _
 |n+1=>Nat.mul_le_mul (Cg h n) (h n)
theorem yP{f f':Nat→Nat}:∀ {n:Nat},(∀i,i<n→f i=f' i)→PR f n=PR f' n
 |0,_=>rfl
 |n+1,h=>by
  show PR f n*f n=PR f' n*f' n
  rw[yP fun i hi=>h i (Nat.lt_succ_of_lt hi),h n (Nat.lt_succ_self n)]
theorem Cu{f f':Nat→Nat}{k:Nat}:∀ {n:Nat},k<n→(∀i,i≠k→f i=f' i)→PR f n*f' k=PR f' n*f k
 |0,hk,_=>absurd hk (Nat.not_lt_zero _)
 |n+1,hk,h=>by
  show PR f n*f n*f' k=PR f' n*f' n*f k
  by_cases e:k=n
  · subst e
    rw[yP (n:=k) fun i hi=>h i (Nat.ne_of_lt hi),Nat.mul_assoc,Nat.mul_comm (f k),Nat.mul_assoc]
  · have:=Cu (n:=n) (by omega) h
    rw[h n (Ne.symm e),Nat.mul_right_comm,this,Nat.mul_right_comm]
theorem F7{f:Nat→Nat}{m top:Nat}(hm:1≤m):∀ {n:Nat},(∀i,i<n→i<top→f i≤1)→(∀i,i<n→f i≤m)→PR f n≤m^(n-top)
 |0,_,_=>by simp[PR]
 |n+1,h1,h2=>by
  have ih:=F7 hm (n:=n) (fun i hi=>h1 i (Nat.lt_succ_of_lt hi)) fun i hi=>h2 i (Nat.lt_succ_of_lt hi)
  show PR f n*f n≤_
  by_cases ht:n<top
  · have z:n+1-top=n-top:=by omega
    rw[z]
    exact Nat.le_trans (Nat.mul_le_mul ih (h1 n (Nat.lt_succ_self n) ht)) (by rw[Nat.mul_one];exact Nat.le_refl _)
  · have z:n+1-top=(n-top)+1:=by omega
    rw[z,Nat.pow_succ]
    exact Nat.mul_le_mul ih (h2 n (Nat.lt_succ_self n))
noncomputable def wt(A:Rows)(top p i:Nat):Nat:=if top≤i∧g A i p≠0 then 2*(g A i p).natAbs else 1
theorem CU(A:Rows)(top p i:Nat):1≤wt A top p i:=by
 unfold wt
 split<;>omega
theorem Ag{x y:Int}(hy:y≠0):2*(x-qn x y*y).natAbs≤y.natAbs:=by
 unfold qn
 have h1:=Int.mul_fdiv_add_fmod (2*x+y) (2*y)
 have h2:(2*x+y).fmod (2*y)=2*x+y-2*y*(2*x+y).fdiv (2*y):=by omega
 generalize(2*x+y).fdiv (2*y)=q at*
 have e:2*(x-q*y)=(2*x+y).fmod (2*y)-y:=by rw[h2];grind
 rcases Int.lt_or_gt_of_ne hy with h|h
 · have a0:=Int.neg_fmod_neg (2*x+y) (2*y)
   have a1:=Int.fmod_nonneg_of_pos (-(2*x+y)) (show 0< -(2*y) by omega)
   have a2:=Int.fmod_lt_of_pos (-(2*x+y)) (show 0< -(2*y) by omega)
   omega
 · have a1:=Int.fmod_nonneg_of_pos (2*x+y) (show 0<2*y by omega)
   have a2:=Int.fmod_lt_of_pos (2*x+y) (show 0<2*y by omega)
   omega
theorem GF{x y:Int}(hy:y≠0)(hxy:y.natAbs≤x.natAbs):(1+(qn x y).natAbs)*(if x-qn x y*y≠0 then 2*(x-qn x y*y).natAbs else 1)≤2*x.natAbs:=by
 have h2:=Ag (x:=x) hy
 generalize qn x y=q at*
 generalize hr:x-q*y=r at*
 have hx:x=q*y+r:=by omega
 have hq:(q*y).natAbs=q.natAbs*y.natAbs:=Int.natAbs_mul ..
 by_cases h0:r=0
 · rw[if_neg (fun z=>z h0),Nat.mul_one]
   subst h0
   have hxa:x.natAbs=q.natAbs*y.natAbs:=by rw[←hq,hx];simp
   have hy1:1≤y.natAbs:=by omega
   have hq1:1≤q.natAbs:=by
    rcases Nat.eq_zero_or_pos q.natAbs with z|z
    · rw[z,Nat.zero_mul]at hxa;omega
    · exact z
   have:q.natAbs≤q.natAbs*y.natAbs:=Nat.le_mul_of_pos_right _ hy1
   omega
 · rw[if_pos h0]
   have hr1:1≤r.natAbs:=by omega
   have key:(1+q.natAbs)*r.natAbs≤x.natAbs:=by
    rcases Nat.lt_or_ge q.natAbs 2 with hlt|hge
    · rcases Nat.lt_or_ge q.natAbs 1 with h|h
      · have z:q.natAbs=0:=by omega
        have zq:q=0:=by omega
        subst zq
        simp at hx
        subst hx
        simp
      · have z:q.natAbs=1:=by omega
        rw[z]at hq⊢
        have:(q*y).natAbs=y.natAbs:=by omega
        have h3:x.natAbs=y.natAbs+r.natAbs∨x.natAbs+r.natAbs=y.natAbs∨x.natAbs+y.natAbs=r.natAbs:=by omega
        omega
    · have h3:(q*y).natAbs≤x.natAbs+r.natAbs:=by omega
      rw[hq]at h3
      have h4:q.natAbs*(2*r.natAbs)≤q.natAbs*y.natAbs:=Nat.mul_le_mul_left _ h2
      have h5:2*r.natAbs≤q.natAbs*r.natAbs:=Nat.mul_le_mul_right _ hge
      have h6:q.natAbs*(2*r.natAbs)=q.natAbs*r.natAbs+q.natAbs*r.natAbs:=by rw[Nat.mul_left_comm];omega
      rw[Nat.add_mul,Nat.one_mul]
      omega
   have:(1+q.natAbs)*(2*r.natAbs)=2*((1+q.natAbs)*r.natAbs):=by rw[Nat.mul_left_comm]
   omega
structure sS(A0:Rows)(N w top p m:Nat)(b0 b:B3)(gr:Nat):Prop where
 tn:Tn A0 b.A b.U b.C N w
 up:∀i,i<top→b.A.getD i []=b0.A.getD i []∧b.U.getD i []=b0.U.getD i []∧b.C.getD i []=b0.C.getD i []
 lA:iZ b.A N top (m*gr)
 lU:iZ b.U N top (m*gr)
 lC:iZ b.C N top (m*gr)
 zs:∀i c,top≤i→i<N→c<p→g b.A i c=0
 M5:gr*PR (wt b.A top p) N≤PR (wt b0.A top p) N
 pos:1≤gr
 Mo:b=b0∨∃j,top≤j∧j<N∧g b.A j p≠0
theorem tO{X:Rows}{N w top k j m gr:Nat}{q:Int}(hX:cT N w X)(hk:k<N)(hj:j<N)(hkt:top≤k)(hjt:top≤j)(h:iZ X N top (m*gr)):iZ (bG X k q j) N top (m*(gr*(1+q.natAbs))):=fun i c hi hN=>by
 rw[eR hX hk hj]
 have e:m*(gr*(1+q.natAbs))=m*gr+q.natAbs*(m*gr):=by rw[←Nat.mul_assoc,Nat.mul_add,Nat.mul_one,Nat.mul_comm (m*gr) q.natAbs]
 rw[e]
 by_cases hik:i=k
 · rw[if_pos hik]
   have h1:=h k c hkt hk
   have h2:=h j c hjt hj
   have h3:(q*g X j c).natAbs≤q.natAbs*(m*gr):=by rw[Int.natAbs_mul];exact Nat.mul_le_mul_left _ h2
   omega
 · rw[if_neg hik]
   have:=h i c hi hN
   omega
theorem jE{X:Rows}{k j i:Nat}{q:Int}(hk:k<X.length)(h:i≠k):(bG X k q j).getD i []=X.getD i []:=by
 unfold bG
 rw[kE hk,if_neg h]
theorem sS.step{A0:Rows}{N w top p m gr:Nat}{b0 b:B3}{L:List Nat}{k j:Nat}(G:sS A0 N w top p m b0 b gr)(hp:p<w)(hL:g0 b.A N top p (L++[j,k])):
 sS A0 N w top p m b0 (jQ b p k j) (gr*(1+(qn (g b.A k p) (g b.A j p)).natAbs))∧(g (jQ b p k j).A k p).natAbs<(g b.A k p).natAbs∧(∀i,i≠k→g (jQ b p k j).A i p=g b.A i p)∧top≤k∧k<N∧top≤j∧j<N∧j≠k∧g b.A j p≠0:=by
 obtain⟨hk1,hk2,hk3⟩:=(hL.mem k).mp (by simp)
 obtain⟨hj1,hj2,hj3⟩:=(hL.mem j).mp (by simp)
 have hord:=hL.ord
 rw[List.pairwise_append]at hord
 have o2:=(List.pairwise_cons.mp hord.2.1).1 k (by simp)
 have hjk:j≠k:=by intro z;subst z;omega
 have hle:(g b.A j p).natAbs≤(g b.A k p).natAbs:=by omega
 have gk:g (jQ b p k j).A k p=g b.A k p-qn (g b.A k p) (g b.A j p)*g b.A j p:=by
  show g (bG b.A k _ j) k p=_
  rw[eR G.tn.isA hk2 hj2,if_pos rfl]
 have gi:∀i,i≠k→g (jQ b p k j).A i p=g b.A i p:=fun i hi=>by
  show g (bG b.A k _ j) i p=_
  rw[eR G.tn.isA hk2 hj2,if_neg hi]
 have hrest:=Ag (x:=g b.A k p) hj3
 have hgrow:=GF (x:=g b.A k p) hj3 hle
 refine⟨⟨G.tn.take hk2 hj2 hjk,fun i hi=>?_,tO G.tn.isA hk2 hj2 hk1 hj1 G.lA,tO G.tn.d8 hk2 hj2 hk1 hj1 G.lU,?_,fun i c hi hN hc=>?_,?_,?_,.inr ⟨j,hj1,hj2,by rw[gi j hjk];exact hj3⟩⟩,?_,gi,hk1,hk2,hj1,hj2,hjk,hj3⟩
 · obtain⟨a1,a2,a3⟩:=G.up i hi
   refine⟨(jE (by rw[G.tn.isA.len];exact hk2) (by omega)).trans a1,(jE (by rw[G.tn.d8.len];exact hk2) (by omega)).trans a2,(jE (by rw[G.tn.fO.len];exact hj2) (by omega)).trans a3⟩
 · have:=tO (q:= -(qn (g b.A k p) (g b.A j p))) G.tn.fO hj2 hk2 hj1 hk1 G.lC
   rw[Int.natAbs_neg]at this
   exact this
 · show g (bG b.A k _ j) i c=0
   rw[eR G.tn.isA hk2 hj2]
   by_cases h:i=k
   · rw[if_pos h,G.zs k c hk1 hk2 hc,G.zs j c hj1 hj2 hc,Int.mul_zero];rfl
   · rw[if_neg h];exact G.zs i c hi hN hc
 · have e:=Cu (f:=wt (jQ b p k j).A top p) (f':=wt b.A top p) (k:=k) hk2 fun i hi=>by unfold wt;rw[gi i hi]
   have w1:wt b.A top p k=2*(g b.A k p).natAbs:=by unfold wt;rw[if_pos ⟨hk1,hk3⟩]
   have w2:(1+(qn (g b.A k p) (g b.A j p)).natAbs)*wt (jQ b p k j).A top p k≤wt b.A top p k:=by
    rw[w1]
    unfold wt
    rw[gk]
    by_cases h0:g b.A k p-qn (g b.A k p) (g b.A j p)*g b.A j p=0
    · rw[if_neg (fun z=>z.2 h0)]
      rw[if_neg (fun z=>z h0)]at hgrow
      exact hgrow
    · rw[if_pos ⟨hk1,h0⟩]
      rw[if_pos h0]at hgrow
      exact hgrow
   have hw:0<wt b.A top p k:=CU _ _ _ _
   refine Nat.le_of_mul_le_mul_right (c:=wt b.A top p k) ?_ hw
   have s1:gr*(1+(qn (g b.A k p) (g b.A j p)).natAbs)*PR (wt (jQ b p k j).A top p) N*wt b.A top p k=gr*PR (wt b.A top p) N*((1+(qn (g b.A k p) (g b.A j p)).natAbs)*wt (jQ b p k j).A top p k):=by
    rw[Nat.mul_assoc _ (PR _ N),e]
    simp only[Nat.mul_assoc,Nat.mul_left_comm]
   rw[s1]
   exact Nat.mul_le_mul G.M5 w2
 · exact Nat.mul_pos G.pos (by omega)
 · rw[gk];omega
end Mx
namespace Mx
theorem sS.low{A0:Rows}{N w top p e gr:Nat}{b0 b:B3}(G:sS A0 N w top p (2^e) b0 b gr)(h0:iZ b0.A N top (2^e)):2^e*gr≤2^((N-top+1)*(e+1)):=by
 have h1:gr≤PR (wt b0.A top p) N:=Nat.le_trans (Nat.le_mul_of_pos_right _ (Cg (CU _ _ _) N)) G.M5
 have h2:PR (wt b0.A top p) N≤(2^(e+1))^(N-top):=F7 Nat.one_le_two_pow (fun i _ ht=>by unfold wt;rw[if_neg (by omega)];exact Nat.le_refl _) fun i hi=>by
  unfold wt
  split
  · rename_i h
    have:=h0 i p h.1 hi
    rw[Nat.pow_succ];omega
  · exact Nat.one_le_two_pow
 refine Nat.le_trans (Nat.mul_le_mul_left _ (Nat.le_trans h1 h2)) ?_
 rw[←Nat.pow_mul,←Nat.pow_add]
 refine Nat.pow_le_pow_right (by decide) ?_
 have e1:(N-top+1)*(e+1)=(e+1)*(N-top)+(e+1):=by rw[Nat.add_mul,Nat.one_mul,Nat.mul_comm]
 rw[e1]
 omega
structure gE(A0:Rows)(N w:Nat)(b:B3)(top p:Nat)(ld:Nat→Nat)(e u:Nat):Prop where
 tn:Tn A0 b.A b.U b.C N w
 le:top≤N
 lo:iZ b.A N top (2^e)∧iZ b.U N top (2^e)∧iZ b.C N top (2^e)
 hi:∀i c,i<top→(g b.A i c).natAbs≤2^u∧(g b.U i c).natAbs≤2^u∧(g b.C i c).natAbs≤2^u
 zs:∀i c,top≤i→i<N→c<p→g b.A i c=0
 lead:∀i,i<top→ld i<p∧0<g b.A i (ld i)∧∀c,c<ld i→g b.A i c=0
 mono:∀i j,i<j→j<top→ld i<ld j
 red:∀i j,i<j→j<top→0≤g b.A i (ld j)∧g b.A i (ld j)<g b.A j (ld j)
theorem gE.N7{A0:Rows}{N w top p e u:Nat}{b:B3}{ld:Nat→Nat}(S:gE A0 N w b top p ld e u):sS A0 N w top p (2^e) b b 1:=
 ⟨S.tn,fun _ _=>⟨rfl,rfl,rfl⟩,by rw[Nat.mul_one];exact S.lo.1,by rw[Nat.mul_one];exact S.lo.2.1,by rw[Nat.mul_one];exact S.lo.2.2,S.zs,by rw[Nat.one_mul];exact Nat.le_refl _,Nat.le_refl _,.inl rfl⟩
theorem gE.skip{A0:Rows}{N w top p e u:Nat}{b:B3}{ld:Nat→Nat}(S:gE A0 N w b top p ld e u)(h:g0 b.A N top p []):gE A0 N w b top (p+1) ld e u:=
 ⟨S.tn,S.le,S.lo,S.hi,fun i c h1 h2 h3=>by
  by_cases hc:c=p
  · subst hc
    exact Classical.byContradiction fun z=>absurd ((h.mem i).mpr ⟨h1,h2,z⟩) (by simp)
  · exact S.zs i c h1 h2 (by omega),fun i hi=>⟨Nat.lt_succ_of_lt (S.lead i hi).1,(S.lead i hi).2⟩,S.mono,S.red⟩
noncomputable def setB(b:B3)(p top r:Nat):B3:=
 if g (bw b.A top r) top p<0 then⟨fW (bw b.A top r) top,fW (bw b.U top r) top,fW (bw b.C top r) top⟩else⟨bw b.A top r,bw b.U top r,bw b.C top r⟩
theorem tu{X:Rows}{N w top r m:Nat}(hX:cT N w X)(ht:top<N)(hr:r<N)(hrt:top≤r)(h:iZ X N top m):iZ (bw X top r) N top m:=fun i c hi hN=>by
 rw[jt hX ht hr]
 refine h _ c ?_ (qD ht hr hN)
 unfold sw
 split
 · exact hrt
 · split
   · exact Nat.le_refl _
   · exact hi
theorem x9{X:Rows}{N w top m:Nat}(hX:cT N w X)(ht:top<N)(h:iZ X N top m):iZ (fW X top) N top m:=fun i c hi hN=>by
 rw[jZ hX ht]
 split
 · rw[Int.natAbs_neg];exact h top c (Nat.le_refl _) ht
 · exact h i c hi hN
theorem tF{X:Rows}{N w top r i:Nat}(hX:cT N w X)(ht:top<N)(hr:r<N)(hrt:top≤r)(hi:i<top):(bw X top r).getD i []=X.getD i []:=by
 rw[y_ (by have:=hX.len;omega) (by have:=hX.len;omega)]
 unfold sw
 rw[if_neg (by omega),if_neg (by omega)]
theorem x6{X:Rows}{N w top i:Nat}(hX:cT N w X)(ht:top<N)(hi:i<top):(fW X top).getD i []=X.getD i []:=by
 unfold fW
 rw[kE (by have:=hX.len;omega),if_neg (by omega)]
structure vE(A0:Rows)(N w top p m:Nat)(b0 b:B3):Prop where
 tn:Tn A0 b.A b.U b.C N w
 up:∀i,i<top→b.A.getD i []=b0.A.getD i []∧b.U.getD i []=b0.U.getD i []∧b.C.getD i []=b0.C.getD i []
 lo:iZ b.A N top m∧iZ b.U N top m∧iZ b.C N top m
 zs:∀i c,top≤i→i<N→c<p→g b.A i c=0
 tp:0<g b.A top p
 z1:∀i,top<i→i<N→g b.A i p=0
theorem sS.set{A0:Rows}{N w top p m gr r:Nat}{b0 b:B3}(G:sS A0 N w top p m b0 b gr)(hL:g0 b.A N top p [r]):vE A0 N w top p (m*gr) b0 (setB b p top r)∧top≤r∧r<N:=by
 obtain⟨hr1,hr2,hr3⟩:=(hL.mem r).mp (by simp)
 have ht:top<N:=by omega
 have z:∀i,top≤i→i<N→i≠r→g b.A i p=0:=fun i h1 h2 h3=>Classical.byContradiction fun y=>h3 (by simpa using(hL.mem i).mpr ⟨h1,h2,y⟩)
 have swg:∀i c,g (bw b.A top r) i c=g b.A (sw top r i) c:=fun i c=>jt G.tn.isA ht hr2 i c
 have gt:g (bw b.A top r) top p=g b.A r p:=by rw[swg];unfold sw;rw[if_pos rfl]
 have T1:=G.tn.Gi ht hr2
 have z1:∀i,top<i→i<N→g (bw b.A top r) i p=0:=fun i h1 h2=>by
  rw[swg]
  unfold sw
  rw[if_neg (by omega)]
  by_cases h:i=r
  · rw[if_pos h];exact z top (Nat.le_refl _) ht (by omega)
  · rw[if_neg h];exact z i (by omega) h2 h
 have zs:∀i c,top≤i→i<N→c<p→g (bw b.A top r) i c=0:=fun i c h1 h2 h3=>by
  rw[swg]
  refine G.zs _ c ?_ (qD ht hr2 h2) h3
  unfold sw
  split
  · exact hr1
  · split
    · exact Nat.le_refl _
    · exact h1
 have up:∀i,i<top→(bw b.A top r).getD i []=b0.A.getD i []∧(bw b.U top r).getD i []=b0.U.getD i []∧(bw b.C top r).getD i []=b0.C.getD i []:=fun i hi=>by
  obtain⟨a1,a2,a3⟩:=G.up i hi
  exact⟨(tF G.tn.isA ht hr2 hr1 hi).trans a1,(tF G.tn.d8 ht hr2 hr1 hi).trans a2,(tF G.tn.fO ht hr2 hr1 hi).trans a3⟩
 have lo:=And.intro (tu G.tn.isA ht hr2 hr1 G.lA) (And.intro (tu G.tn.d8 ht hr2 hr1 G.lU) (tu G.tn.fO ht hr2 hr1 G.lC))
 refine⟨?_,hr1,hr2⟩
 unfold setB
 by_cases hs:g (bw b.A top r) top p<0
 · rw[if_pos hs]
   refine⟨T1.neg ht,fun i hi=>?_,⟨x9 T1.isA ht lo.1,x9 T1.d8 ht lo.2.1,x9 T1.fO ht lo.2.2⟩,fun i c h1 h2 h3=>?_,?_,fun i h1 h2=>?_⟩
   · obtain⟨a1,a2,a3⟩:=up i hi
     exact⟨(x6 T1.isA ht hi).trans a1,(x6 T1.d8 ht hi).trans a2,(x6 T1.fO ht hi).trans a3⟩
   · show g (fW (bw b.A top r) top) i c=0
     rw[jZ T1.isA ht]
     split
     · rw[zs top c (Nat.le_refl _) ht h3];rfl
     · exact zs i c h1 h2 h3
   · show 0<g (fW (bw b.A top r) top) top p
     rw[jZ T1.isA ht,if_pos rfl];omega
   · show g (fW (bw b.A top r) top) i p=0
     rw[jZ T1.isA ht,if_neg (by omega)];exact z1 i h1 h2
 · rw[if_neg hs]
   exact⟨T1,up,lo,zs,by show 0<g (bw b.A top r) top p;rw[gt]at hs⊢;omega,z1⟩
noncomputable def lX(p top:Nat):Nat→B3→B3
 |0,b=>b
 |k+1,b=>
  let c:=lX p top k b
  ⟨bG c.A k ((g c.A k p).fdiv (g c.A top p)) top,bG c.U k ((g c.A k p).fdiv (g c.A top p)) top,bG c.C top (-((g c.A k p).fdiv (g c.A top p))) k⟩
structure pf(A0:Rows)(N w top p e u:Nat)(b:B3)(k:Nat)(c:B3):Prop where
 tn:Tn A0 c.A c.U c.C N w
 rA:∀i,k≤i→c.A.getD i []=b.A.getD i []∧c.U.getD i []=b.U.getD i []
 rC:∀i,i≠top→c.C.getD i []=b.C.getD i []
 ah:∀i q,i<k→q<p→g c.A i q=g b.A i q
 rd:∀i,i<k→0≤g c.A i p∧g c.A i p<g c.A top p
 sz:∀i q,i<k→(g c.A i q).natAbs≤2^(u+e+1)∧(g c.U i q).natAbs≤2^(u+e+1)
 sC:∀q,(g c.C top q).natAbs≤2^e+k*2^(u+u)
theorem nk(a:Int){b:Int}(hb:0<b):(a.fdiv b).natAbs≤a.natAbs:=by
 have h1:=Int.mul_fdiv_add_fmod a b
 have h2:=Int.fmod_nonneg_of_pos a hb
 have h3:=Int.fmod_lt_of_pos a hb
 generalize a.fdiv b=q at*
 rcases Int.lt_trichotomy q 0 with h|h|h
 · have h4:0≤(b-1)*(-q-1):=Int.mul_nonneg (by omega) (by omega)
   have e:(b-1)*(-q-1)= -(b*q)-b+q+1:=by grind
   omega
 · subst h;simp
 · have:q≤b*q:=by
    have:0≤(b-1)*q:=Int.mul_nonneg (by omega) (by omega)
    grind
   omega
theorem pf.step{A0:Rows}{N w top p e u k:Nat}{b c:B3}(I:pf A0 N w top p e u b k c)(hk:k<top)(ht:top<N)(hp:p<w)(htp:0<g b.A top p)(hz:∀q,q<p→g b.A top q=0)
 (hlo:∀q,(g b.A top q).natAbs≤2^e∧(g b.U top q).natAbs≤2^e) (hhi:∀i q,i<top→(g b.A i q).natAbs≤2^u∧(g b.U i q).natAbs≤2^u∧(g b.C i q).natAbs≤2^u):
 pf A0 N w top p e u b (k+1) ⟨bG c.A k ((g c.A k p).fdiv (g c.A top p)) top,bG c.U k ((g c.A k p).fdiv (g c.A top p)) top,bG c.C top (-((g c.A k p).fdiv (g c.A top p))) k⟩:=by
 have hkN:k<N:=by omega
 have gA:∀i q,k≤i→g c.A i q=g b.A i q:=fun i q hi=>by unfold g;rw[(I.rA i hi).1]
 have gU:∀i q,k≤i→g c.U i q=g b.U i q:=fun i q hi=>by unfold g;rw[(I.rA i hi).2]
 have gC:∀i q,i≠top→g c.C i q=g b.C i q:=fun i q hi=>by unfold g;rw[I.rC i hi]
 have qe:((g c.A k p).fdiv (g c.A top p)).natAbs≤2^u:=by
  rw[gA k p (Nat.le_refl _),gA top p (by omega)]
  exact Nat.le_trans (nk _ htp) (hhi k p hk).1
 have hq:∀x:Int,x.natAbs≤2^e→((g c.A k p).fdiv (g c.A top p)*x).natAbs≤2^(u+e):=fun x hx=>by
  rw[Int.natAbs_mul,Nat.pow_add];exact Nat.mul_le_mul qe hx
 have le1:2^u≤2^(u+e):=Nat.pow_le_pow_right (by decide) (by omega)
 refine⟨I.tn.take hkN ht (by omega),fun i hi=>?_,fun i hi=>?_,fun i q hi hqp=>?_,fun i hi=>?_,fun i q hi=>?_,fun q=>?_⟩
 · exact⟨(jE (by rw[I.tn.isA.len];exact hkN) (by omega)).trans (I.rA i (by omega)).1,(jE (by rw[I.tn.d8.len];exact hkN) (by omega)).trans (I.rA i (by omega)).2⟩
 · exact(jE (by rw[I.tn.fO.len];exact ht) hi).trans (I.rC i hi)
 · show g (bG c.A k _ top) i q=_
   rw[eR I.tn.isA hkN ht]
   split
   · rename_i h
     rw[gA top q (by omega),hz q hqp,Int.mul_zero,gA k q (Nat.le_refl _),h];omega
   · exact I.ah i q (by omega) hqp
 · show 0≤g (bG c.A k _ top) i p∧g (bG c.A k _ top) i p<g (bG c.A k _ top) top p
   rw[eR I.tn.isA hkN ht,eR I.tn.isA hkN ht,if_neg (show¬top=k by omega)]
   split
   · have h1:=Int.mul_fdiv_add_fmod (g c.A k p) (g c.A top p)
     have htp':0<g c.A top p:=by rw[gA top p (by omega)];exact htp
     have h2:=Int.fmod_nonneg_of_pos (g c.A k p) htp'
     have h3:=Int.fmod_lt_of_pos (g c.A k p) htp'
     rw[Int.mul_comm]at h1
     omega
   · exact I.rd i (by omega)
 · show(g (bG c.A k _ top) i q).natAbs≤_∧(g (bG c.U k _ top) i q).natAbs≤_
   rw[eR I.tn.isA hkN ht,eR I.tn.d8 hkN ht]
   split
   · have a1:=hq (g c.A top q) (by rw[gA top q (by omega)];exact(hlo q).1)
     have a2:=hq (g c.U top q) (by rw[gU top q (by omega)];exact(hlo q).2)
     rw[gA k q (Nat.le_refl _),gU k q (Nat.le_refl _)]
     have b1:=(hhi k q hk).1
     have b2:=(hhi k q hk).2.1
     rw[Nat.pow_succ]
     omega
   · exact I.sz i q (by omega)
 · show(g (bG c.C top _ k) top q).natAbs≤_
   rw[eR I.tn.fO ht hkN,if_pos rfl,gC k q (by omega),Int.neg_mul]
   have a1:=I.sC q
   have a2:((g c.A k p).fdiv (g c.A top p)*g b.C k q).natAbs≤2^(u+u):=by
    rw[Int.natAbs_mul,Nat.pow_add];exact Nat.mul_le_mul qe (hhi k q hk).2.2
   rw[Nat.add_mul,Nat.one_mul]
   omega
theorem pf.start{A0:Rows}{N w top p e u:Nat}{b:B3}(T:Tn A0 b.A b.U b.C N w)(h:∀q,(g b.C top q).natAbs≤2^e):pf A0 N w top p e u b 0 b:=
 ⟨T,fun _ _=>⟨rfl,rfl⟩,fun _ _=>rfl,fun _ _ h=>absurd h (Nat.not_lt_zero _),fun _ h=>absurd h (Nat.not_lt_zero _),fun _ _ h=>absurd h (Nat.not_lt_zero _),fun q=>by rw[Nat.zero_mul];exact h q⟩
theorem vE.next{A0:Rows}{N w top p e u e' u':Nat}{b0 b c:B3}{ld:Nat→Nat}(S:gE A0 N w b0 top p ld e u)(s:vE A0 N w top p (2^e') b0 b)(ht:top<N)(I:pf A0 N w top p e' u b top c)(hN:N≤8)
 (h1:u+e'+1≤u') (h2:u+u+4≤u'):gE A0 N w c (top+1) (p+1) (fun i=>if i=top then p else ld i) e' u':=by
 have hup:∀i q,i<top→g b.A i q=g b0.A i q:=fun i q hi=>by unfold g;rw[(s.up i hi).1]
 have hA:∀i q,top≤i→g c.A i q=g b.A i q:=fun i q hi=>by unfold g;rw[(I.rA i hi).1]
 have hU:∀i q,top≤i→g c.U i q=g b.U i q:=fun i q hi=>by unfold g;rw[(I.rA i hi).2]
 have hC:∀i q,i≠top→g c.C i q=g b.C i q:=fun i q hi=>by unfold g;rw[I.rC i hi]
 have le:∀ {a x:Nat},a≤2^x→x≤u'→a≤2^u':=fun h hx=>Nat.le_trans h (Nat.pow_le_pow_right (by decide) hx)
 refine⟨I.tn,ht,⟨fun i q hi hN=>?_,fun i q hi hN=>?_,fun i q hi hN=>?_⟩,fun i q hi=>?_,fun i q hi hN hq=>?_,fun i hi=>?_,fun i j hij hj=>?_,fun i j hij hj=>?_⟩
 · rw[hA i q (by omega)];exact s.lo.1 i q (by omega) hN
 · rw[hU i q (by omega)];exact s.lo.2.1 i q (by omega) hN
 · rw[hC i q (by omega)];exact s.lo.2.2 i q (by omega) hN
 · by_cases h:i=top
   · subst h
     refine⟨?_,?_,?_⟩
     · rw[hA i q (Nat.le_refl _)];exact le (s.lo.1 i q (Nat.le_refl _) ht) (by omega)
     · rw[hU i q (Nat.le_refl _)];exact le (s.lo.2.1 i q (Nat.le_refl _) ht) (by omega)
     · have h3:=I.sC q
       have h4:i*2^(u+u)≤2^(u+u+3):=by rw[Nat.pow_add _ _ 3,Nat.mul_comm];exact Nat.mul_le_mul_left _ (by omega)
       have h5:2^(u+u+3)*2≤2^u':=by rw[←Nat.pow_succ];exact Nat.pow_le_pow_right (by decide) h2
       have h6:2^e'*2≤2^u':=by rw[←Nat.pow_succ];exact Nat.pow_le_pow_right (by decide) (by omega)
       omega
   · have hi':i<top:=by omega
     refine⟨le (I.sz i q hi').1 h1,le (I.sz i q hi').2 h1,?_⟩
     rw[hC i q h]
     have:g b.C i q=g b0.C i q:=by unfold g;rw[(s.up i hi').2.2]
     rw[this]
     exact le (S.hi i q hi').2.2 (by omega)
 · rw[hA i q (by omega)]
   by_cases h:q=p
   · rw[h];exact s.z1 i (by omega) hN
   · exact s.zs i q (by omega) hN (by omega)
 · by_cases h:i=top
   · subst h
     rw[if_pos rfl]
     refine⟨Nat.lt_succ_self p,?_,fun q hq=>?_⟩
     · rw[hA i p (Nat.le_refl _)];exact s.tp
     · rw[hA i q (Nat.le_refl _)];exact s.zs i q (Nat.le_refl _) ht hq
   · have hi':i<top:=by omega
     rw[if_neg h]
     obtain⟨a1,a2,a3⟩:=S.lead i hi'
     refine⟨Nat.lt_succ_of_lt a1,?_,fun q hq=>?_⟩
     · rw[I.ah i _ hi' a1,hup i _ hi'];exact a2
     · rw[I.ah i _ hi' (Nat.lt_trans hq a1),hup i _ hi'];exact a3 q hq
 · by_cases h:j=top
   · rw[if_pos h,if_neg (by omega)];exact(S.lead i (by omega)).1
   · rw[if_neg h,if_neg (by omega)];exact S.mono i j hij (by omega)
 · by_cases h:j=top
   · subst h
     rw[if_pos rfl]
     exact I.rd i hij
   · have hj':j<top:=by omega
     rw[if_neg h]
     have:=S.red i j hij hj'
     have hl:=(S.lead j hj').1
     rw[I.ah i _ (by omega) hl,I.ah j _ hj' hl,hup i _ (by omega),hup j _ hj']
     exact this
theorem Tn.start{A:Rows}{N w:Nat}(hA:cT N w A):Tn A A (units N) (units N) N w where
 isA:=hA
 d8:=ud N
 fO:=ud N
 ua:=fun i c hi hc=>by
  rw[←ng hi fun k=>g A k c]
  exact aG fun m hm=>by rw[kv hi hm]
 ub:=fun i j hi hj=>by
  rw[vk i j,←ng hi fun k=>dl j k]
  · exact aG fun m hm=>by rw[kv hi hm,kv hj hm]
 bu:=fun i j hi hj=>by
  rw[←qX hi fun k=>dl k j]
  exact aG fun m hm=>by rw[kv hm hi,kv hm hj,Int.mul_comm]
theorem gE.start{A:Rows}{N w e:Nat}(hA:cT N w A)(h:iZ A N 0 (2^e)):gE A N w ⟨A,units N,units N⟩ 0 0 (fun _=>0) e 0:=by
 have hu:iZ (units N) N 0 (2^e):=fun i c _ hi=>by
  by_cases hc:c<N
  · rw[kv hi hc]
    unfold dl
    split
    · exact Nat.one_le_two_pow
    · exact Nat.zero_le _
  · unfold g
    rw[mQ (l:=(units N).getD i []) (by rw[cH (ud N) hi];omega)]
    exact Nat.zero_le _
 exact⟨Tn.start hA,Nat.zero_le _,⟨h,hu,hu⟩,fun _ _ h=>absurd h (Nat.not_lt_zero _),fun _ _ _ _ h=>absurd h (Nat.not_lt_zero _),fun _ h=>absurd h (Nat.not_lt_zero _),fun _ _ _ h=>absurd h (Nat.not_lt_zero _),fun _ _ _ h=>absurd h (Nat.not_lt_zero _)⟩
end Mx
namespace Mx
noncomputable def SU(f:Nat→Nat):Nat→Nat
 |0=>0
 |n+1=>SU f n+f n
theorem Gh{f f':Nat→Nat}:∀ {n:Nat},(∀i,i<n→f' i≤f i)→SU f' n≤SU f n
 |0,_=>Nat.le_refl _
 |n+1,h=>Nat.add_le_add (Gh fun i hi=>h i (Nat.lt_succ_of_lt hi)) (h n (Nat.lt_succ_self n))
theorem Gk{f f':Nat→Nat}{k:Nat}(hlt:f' k<f k):∀ {n:Nat},k<n→(∀i,i<n→f' i≤f i)→SU f' n<SU f n
 |0,hk,_=>absurd hk (Nat.not_lt_zero _)
 |n+1,hk,h=>by
  by_cases e:k=n
  · subst e
    exact Nat.add_lt_add_of_le_of_lt (Gh fun i hi=>h i (Nat.lt_succ_of_lt hi)) hlt
  · exact Nat.add_lt_add_of_lt_of_le (Gk hlt (by omega) fun i hi=>h i (Nat.lt_succ_of_lt hi)) (h n (Nat.lt_succ_self n))
noncomputable def mu(A:Rows)(N p:Nat):Nat:=SU (fun i=>(g A i p).natAbs) N
inductive Au(N p:Nat):Nat→B3→Nat→B3→Prop
 |none {top:Nat} {b:B3} (h:g0 b.A N top p []):Au N p top b top b
 |one {top r:Nat} {b c:B3} (h:fF N top p b c) (l:g0 c.A N top p [r]):Au N p top b (top+1) (lX p top top (setB c p top r))
theorem Au.unique{N p t t1 t2:Nat}{b b1 b2:B3}(h:Au N p t b t1 b1)(h':Au N p t b t2 b2):t1=t2∧b1=b2:=by
 have no:∀ {c:B3} {r:Nat},g0 b.A N t p []→fF N t p b c→g0 c.A N t p [r]→False:=fun{c r} h g l=>by
  cases g with
  |refl=>have:=h.unique l;cases this
  |head s _=>exact uu.stop ⟨[],h,by simp⟩ s
 cases h with
 |none h=>
  cases h' with
  |none _=>exact⟨rfl,rfl⟩
  |one g l=>exact(no h g l).elim
 |one g l=>
  cases h' with
  |none h=>exact(no h g l).elim
  |one g' l'=>
   have e:=g.unique ⟨_,l,by simp⟩ g' ⟨_,l',by simp⟩
   subst e
   have e2:=l.unique l'
   cases e2
   exact⟨rfl,rfl⟩
inductive nj(A:Rows)(N:Nat):Nat→Nat→B3→Prop
 |start:nj A N 0 0 ⟨A,units N,units N⟩
 |next {p t t':Nat} {b b':B3} (h:nj A N p t b) (c:Au N p t b t' b'):nj A N (p+1) t' b'
theorem nj.unique{A:Rows}{N:Nat}:∀ {p t1 t2:Nat} {b1 b2:B3},nj A N p t1 b1→nj A N p t2 b2→t1=t2∧b1=b2
 |0,_,_,_,_,.start,.start=>⟨rfl,rfl⟩
 |p+1,_,_,_,_,.next h c,.next h' c'=>by
  obtain⟨rfl,rfl⟩:=nj.unique h h'
  exact c.unique c'
noncomputable def Ez(N e0:Nat):Nat→Nat
 |0=>e0
 |t+1=>(N-t+1)*(Ez N e0 t+1)
noncomputable def Vz(N e0:Nat):Nat→Nat
 |0=>0
 |t+1=>Vz N e0 t+Vz N e0 t+Ez N e0 (t+1)+5
theorem Cb:∀N,N<9→∀t,t<N+1→Ez N 48 t≤50000000∧Vz N 48 t≤60000000:=by decide+kernel
end Mx
namespace Mx
noncomputable def cV(X:Rows)(n w:Nat)(v:Nat→Int):Prop:=∃z:Nat→Int,∀c,c<w→v c=S n fun k=>z k*g X k c
theorem cV.row{X:Rows}{n w k:Nat}(hk:k<n):cV X n w (g X k):=⟨fun i=>dl k i,fun c _=>(ng hk fun i=>g X i c).symm⟩
theorem cV.sub{X:Rows}{n w:Nat}{u v:Nat→Int}(hu:cV X n w u)(hv:cV X n w v):cV X n w fun c=>u c-v c:=by
 obtain⟨y,hy⟩:=hu
 obtain⟨z,hz⟩:=hv
 refine⟨fun k=>y k-z k,fun c hc=>?_⟩
 show u c-v c=S n fun k=>(y k-z k)*g X k c
 rw[hy c hc,hz c hc,Int.sub_eq_add_neg,←xy,←iF]
 exact aG fun k _=>by rw[Int.sub_mul,Int.sub_eq_add_neg]
theorem cV.trans{X Y:Rows}{m n w:Nat}{v:Nat→Int}(h:∀k,k<m→cV Y n w (g X k))(hv:cV X m w v):cV Y n w v:=by
 obtain⟨z,hz⟩:=hv
 have h':∀k,∃y:Nat→Int,k<m→∀c,c<w→g X k c=S n fun i=>y i*g Y i c:=fun k=>by
  by_cases hk:k<m
  · obtain⟨y,hy⟩:=h k hk
    exact⟨y,fun _=>hy⟩
  · exact⟨fun _=>0,fun h=>absurd h hk⟩
 refine⟨fun i=>S m fun k=>z k*Classical.choose (h' k) i,fun c hc=>?_⟩
 rw[hz c hc]
 have e1:S m (fun k=>z k*g X k c)=S m fun k=>S n fun i=>z k*Classical.choose (h' k) i*g Y i c:=aG fun k hk=>by
  rw[Classical.choose_spec (h' k) hk c hc,←eS]
  exact aG fun i _=>(Int.mul_assoc _ _ _).symm
 rw[e1,qO]
 exact aG fun i _=>ue _ _ _
structure cv(X:Rows)(n w:Nat)(ld:Nat→Nat):Prop where
 lead:∀i,i<n→ld i<w∧0<g X i (ld i)∧∀c,c<ld i→g X i c=0
 mono:∀i j,i<j→j<n→ld i<ld j
theorem cv.inj{X:Rows}{n w:Nat}{ld:Nat→Nat}(s:cv X n w ld){i j:Nat}(hi:i<n)(hj:j<n)(h:ld i=ld j):i=j:=by
 rcases Nat.lt_trichotomy i j with q|q|q
 · exact absurd h (Nat.ne_of_lt (s.mono i j q hj))
 · exact q
 · exact absurd h.symm (Nat.ne_of_lt (s.mono j i q hi))
theorem cv.lt{X:Rows}{n w:Nat}{ld:Nat→Nat}(s:cv X n w ld){i j:Nat}(hi:i<n)(hj:j<n)(h:ld i<ld j):i<j:=by
 rcases Nat.lt_trichotomy i j with q|q|q
 · exact q
 · rw[q]at h;exact absurd h (Nat.lt_irrefl _)
 · exact absurd (Nat.lt_trans h (s.mono j i q hi)) (Nat.lt_irrefl _)
theorem cv.gone{X:Rows}{n w q:Nat}{ld:Nat→Nat}{v z:Nat→Int}(s:cv X n w ld)(hz:∀c,c<w→v c=S n fun k=>z k*g X k c)(h0:∀c,c<q→v c=0)(k:Nat):k<n→ld k<q→z k=0:=by
 induction k using Nat.strongRecOn with
 |ind k ih=>
  intro hk hq
  obtain⟨h1,h2,h3⟩:=s.lead k hk
  have e:=hz (ld k) h1
  rw[h0 _ hq,l_ hk fun i hi ne=>?_]at e
  · exact(Int.mul_eq_zero.mp e.symm).resolve_right (Int.ne_of_gt h2)
  · rcases Nat.lt_or_gt_of_ne ne with l|l
    · rw[ih i l hi (Nat.lt_trans (s.mono i k l hk) hq),Int.zero_mul]
    · rw[(s.lead i hi).2.2 _ (s.mono k i l hi),Int.mul_zero]
theorem cv.at{X:Rows}{n w q:Nat}{ld:Nat→Nat}{v:Nat→Int}(s:cv X n w ld)(hv:cV X n w v)(hq:q<w)(h0:∀c,c<q→v c=0):(∃i,i<n∧ld i=q∧g X i q∣v q)∨v q=0:=by
 obtain⟨z,hz⟩:=hv
 have go:∀k,k<n→ld k≠q→z k*g X k q=0:=fun k hk ne=>by
  rcases Nat.lt_or_gt_of_ne ne with l|l
  · rw[s.gone hz h0 k hk l,Int.zero_mul]
  · rw[(s.lead k hk).2.2 _ l,Int.mul_zero]
 by_cases h:∃i,i<n∧ld i=q
 · obtain⟨i,hi,e⟩:=h
   refine .inl ⟨i,hi,e,z i,?_⟩
   rw[hz q hq,l_ hi fun k hk ne=>go k hk fun z=>ne (s.inj hk hi (z.trans e.symm)),Int.mul_comm]
 · refine .inr ?_
   rw[hz q hq]
   exact nh fun k hk=>go k hk fun e=>h ⟨k,hk,e⟩
theorem cv.sees{X Y:Rows}{n m w:Nat}{ld ld':Nat→Nat}(sX:cv X n w ld)(sY:cv Y m w ld')(h:∀k,k<n→cV Y m w (g X k))(i:Nat)(hi:i<n):∃j,j<m∧ld' j=ld i∧g Y j (ld i)∣g X i (ld i):=by
 obtain⟨h1,h2,h3⟩:=sX.lead i hi
 rcases sY.at (h i hi) h1 h3 with q|q
 · exact q
 · rw[q]at h2;exact absurd h2 (by decide)
theorem cv.same{X Y:Rows}{n m w:Nat}{ld ld':Nat→Nat}(sX:cv X n w ld)(sY:cv Y m w ld')(h1:∀k,k<n→cV Y m w (g X k))(h2:∀k,k<m→cV X n w (g Y k))(i:Nat):i<n→i<m∧ld' i=ld i∧g Y i (ld i)=g X i (ld i):=by
 induction i using Nat.strongRecOn with
 |ind i ih=>
  intro hi
  obtain⟨j,hj,ej,dj⟩:=sX.sees sY h1 i hi
  have e:j=i:=by
   rcases Nat.lt_trichotomy j i with l|l|l
   · have:=(ih j l (Nat.lt_trans l hi)).2.1
     exact absurd (this.symm.trans ej) (Nat.ne_of_lt (sX.mono j i l hi))
   · exact l
   · obtain⟨k,hk,ek,_⟩:=sY.sees sX h2 i (Nat.lt_trans l hj)
     have lk:k<i:=sX.lt hk hi (by rw[ek,←ej];exact sY.mono i j l hj)
     have:=(ih k lk hk).2.1
     exact absurd (this.trans ek) (Nat.ne_of_lt (sY.mono k i lk (Nat.lt_trans l hj)))
  subst e
  refine⟨hj,ej,?_⟩
  obtain⟨k,hk,ek,dk⟩:=sY.sees sX h2 j hj
  have:=sX.inj hk hi (ek.trans ej)
  subst this
  rw[ej]at dk
  exact Int.dvd_antisymm (by rw[←ej];exact Int.le_of_lt (sY.lead k hj).2.1) (Int.le_of_lt (sX.lead k hi).2.1) dj dk
noncomputable def Eh(X:Rows)(n:Nat)(ld:Nat→Nat):Prop:=∀i j,i<j→j<n→0≤g X i (ld j)∧g X i (ld j)<g X j (ld j)
theorem cv.only{X Y:Rows}{n m w:Nat}{ld ld':Nat→Nat}(sX:cv X n w ld)(sY:cv Y m w ld')(h1:∀k,k<n→cV Y m w (g X k))(h2:∀k,k<m→cV X n w (g Y k))(rX:Eh X n ld)(rY:Eh Y m ld'){i:Nat}(hi:i<n)(c:Nat):c<w→g X i c=g Y i c:=by
 induction c using Nat.strongRecOn with
 |ind c ih=>
  intro hc
  obtain⟨im,il,ig⟩:=sX.same sY h1 h2 i hi
  have hv:cV X n w fun c=>g X i c-g Y i c:=(cV.row hi).sub (h2 i im)
  rcases sX.at hv hc fun d hd=>by rw[ih d hd (Nat.lt_trans hd hc),Int.sub_self]with⟨j,hj,rfl,d⟩|q
  · obtain⟨jm,jl,jg⟩:=sX.same sY h1 h2 j hj
    rcases Nat.lt_trichotomy i j with l|l|l
    · have a:=rX i j l hj
      have b:=rY i j l jm
      rw[jl,jg]at b
      exact Int.eq_of_sub_eq_zero (Int.eq_zero_of_dvd_of_natAbs_lt_natAbs d (by omega))
    · subst l
      exact ig.symm
    · rw[(sX.lead i hi).2.2 _ (sX.mono j i l hi),(sY.lead i im).2.2 _ (by rw[il];exact sX.mono j i l hi)]
  · exact Int.eq_of_sub_eq_zero q
end Mx
namespace Mx
end Mx
namespace Mx
noncomputable def nl(A:Rows)(N t p:Nat):Nat:=SU (fun i=>if t≤i∧g A i p≠0 then 1 else 0) N
end Mx
namespace Mx
end Mx
namespace Mx
end Mx
namespace Mx
theorem FV{n:Nat}{f:Nat→Int}:∀ {N:Nat},n≤N→(∀i,n≤i→i<N→f i=0)→S N f=S n f
 |0,h,_=>by rw[Nat.le_zero.mp h]
 |N+1,h,z=>by
  by_cases e:n=N+1
  · rw[e]
  · have hn:n≤N:=by omega
    show S N f+f N=_
    rw[z N hn (Nat.lt_succ_self N),Int.add_zero]
    exact FV hn fun i h1 h2=>z i h1 (Nat.lt_succ_of_lt h2)
theorem gE.in{A:Rows}{N w top e u:Nat}{c:B3}{ld:Nat→Nat}(s:gE A N w c top w ld e u)(k:Nat)(hk:k<top):cV A N w (g c.A k):=
 ⟨g c.U k,fun q hq=>s.tn.ua k q (Nat.lt_of_lt_of_le hk s.le) hq⟩
theorem gE.out{A:Rows}{N w top e u:Nat}{c:B3}{ld:Nat→Nat}(s:gE A N w c top w ld e u)(k:Nat)(hk:k<N):cV c.A top w (g A k):=by
 refine⟨fun i=>g c.C i k,fun q hq=>?_⟩
 have e1:S N (fun i=>g c.C i k*g c.A i q)=g A k q:=by
  have:S N (fun i=>g c.C i k*g c.A i q)=S N fun i=>S N fun j=>g c.C i k*g c.U i j*g A j q:=aG fun i hi=>by
   rw[s.tn.ua i q hi hq,←eS]
   exact aG fun j _=>(Int.mul_assoc _ _ _).symm
  rw[this,qO]
  have e2:S N (fun j=>S N fun i=>g c.C i k*g c.U i j*g A j q)=S N fun j=>dl k j*g A j q:=aG fun j hj=>by
   rw[ue,s.tn.bu k j hk hj]
  rw[e2,ng hk fun j=>g A j q]
 rw[←e1]
 exact FV s.le fun i h1 h2=>by rw[s.zs i q h1 h2 hq,Int.mul_zero]
theorem f9{X:Rows}{n i q:Nat}(h:i<n):g (X.take n) i q=g X i q:=by
 unfold g
 rw[List.getD_eq_getElem?_getD (l:=X.take n),List.getD_eq_getElem?_getD (l:=X),List.getElem?_take_of_lt h]
end Mx
namespace Mx
end Mx
namespace Mx
theorem cV.NT{X:Rows}{n w:Nat}{u v:Nat→Int}(x:Int)(hu:cV X n w u)(hv:cV X n w v):cV X n w fun c=>u c+x*v c:=by
 obtain⟨y,hy⟩:=hu
 obtain⟨z,hz⟩:=hv
 refine⟨fun k=>y k+x*z k,fun c hc=>?_⟩
 show u c+x*v c=S n fun k=>(y k+x*z k)*g X k c
 rw[hy c hc,hz c hc,←eS,←iF]
 exact aG fun k _=>by rw[Int.add_mul,Int.mul_assoc]
theorem cV.eq{X:Rows}{n w:Nat}{u v:Nat→Int}(hu:cV X n w u)(h:∀c,c<w→v c=u c):cV X n w v:=by
 obtain⟨y,hy⟩:=hu
 exact⟨y,fun c hc=>(h c hc).trans (hy c hc)⟩
structure mr(X:Rows)(n:Nat)(Y:Rows)(m w:Nat):Prop where
 to:∀k,k<n→cV Y m w (g X k)
 of:∀k,k<m→cV X n w (g Y k)
theorem mr.symm{X Y:Rows}{n m w:Nat}(h:mr X n Y m w):mr Y m X n w:=⟨h.of,h.to⟩
theorem mr.trans{X Y Z:Rows}{n m l w:Nat}(h:mr X n Y m w)(h':mr Y m Z l w):mr X n Z l w:=
 ⟨fun k hk=>cV.trans h'.to (h.to k hk),fun k hk=>cV.trans h.of (h'.of k hk)⟩
theorem cV.zero{X:Rows}{n w:Nat}{v:Nat→Int}(h:∀c,c<w→v c=0):cV X n w v:=
 ⟨fun _=>0,fun c hc=>by rw[h c hc,nh fun k _=>Int.zero_mul _]⟩
end Mx
namespace Mx
theorem oN{X:Rows}{r:Row}{k:Nat}(hk:k≤X.length)(i:Nat):(X.take k++r::X.drop k).getD i []=if i<k then X.getD i []else if i=k then r else X.getD (i-1) []:=by
 have lt:(X.take k).length=k:=by rw[List.length_take];omega
 rw[List.getD_eq_getElem?_getD,List.getD_eq_getElem?_getD,List.getD_eq_getElem?_getD]
 by_cases h:i<k
 · rw[if_pos h,List.getElem?_append_left (by rw[lt];exact h),List.getElem?_take_of_lt h]
 · rw[if_neg h,List.getElem?_append_right (by rw[lt];omega),lt]
   by_cases h2:i=k
   · rw[if_pos h2,h2,Nat.sub_self];rfl
   · rw[if_neg h2]
     have:i-k=(i-1-k)+1:=by omega
     rw[this,List.getElem?_cons_succ,List.getElem?_drop]
     congr 2;omega
end Mx
namespace Mx
end Mx
namespace Mx
end Mx
namespace Mx
structure sJ(F:Rows)(w:Nat)(ld:Nat→Nat)(row:Nat→Int)(i:Nat)(o:Int)(L:Nat→Int):Prop where
 pos:0<o
 sum:cV F i w fun c=>o*row c-L c
 off:∀k,k<i→L (ld k)=0
 least:∀(m:Int) (v:Nat→Int),cV F i w v→(∀k,k<i→m*row (ld k)=v (ld k))→o∣m
theorem cv.Ls{F:Rows}{n w:Nat}{ld:Nat→Nat}{v:Nat→Int}(s:cv F n w ld)(hv:cV F n w v)(h:∀k,k<n→0≤v (ld k)∧v (ld k)<g F k (ld k))(c:Nat):c<w→v c=0:=by
 induction c using Nat.strongRecOn with
 |ind c ih=>
  intro hc
  rcases s.at hv hc fun d hd=>ih d hd (Nat.lt_trans hd hc)with⟨k,hk,rfl,d⟩|q
  · have:=h k hk
    exact Int.eq_zero_of_dvd_of_natAbs_lt_natAbs d (by omega)
  · exact q
structure uF(F:Rows)(n w:Nat)(ld:Nat→Nat)(row:Nat→Int)(i:Nat)(L:Nat→Int):Prop where
 sum:cV F n w fun c=>row c-L c
 red:∀k,k<i→0≤L (ld k)∧L (ld k)<g F k (ld k)
theorem uF.start{F:Rows}{n w:Nat}{ld:Nat→Nat}{row:Nat→Int}:uF F n w ld row 0 row:=⟨cV.zero fun c _=>Int.sub_self _,fun _ h=>absurd h (Nat.not_lt_zero _)⟩
theorem uF.step{F:Rows}{n w i:Nat}{ld:Nat→Nat}{row L:Nat→Int}(s:cv F n w ld)(hi:i<n)(f:uF F n w ld row i L):uF F n w ld row (i+1) fun c=>L c-(L (ld i)).fdiv (g F i (ld i))*g F i c:=by
 obtain⟨l1,l2,l3⟩:=s.lead i hi
 refine⟨(f.sum.NT ((L (ld i)).fdiv (g F i (ld i))) (cV.row hi)).eq fun c _=>by omega,fun k hk=>?_⟩
 show 0≤L (ld k)-_*g F i (ld k)∧L (ld k)-_*g F i (ld k)<_
 rcases Nat.lt_or_ge k i with h|h
 · rw[l3 _ (s.mono k i h hi),Int.mul_zero,Int.sub_zero]
   exact f.red k h
 · have:k=i:=Nat.le_antisymm (Nat.le_of_lt_succ hk) h
   subst this
   have e:=Int.fmod_add_mul_fdiv (L (ld k)) (g F k (ld k))
   have a:=Int.fmod_nonneg_of_pos (L (ld k)) l2
   have b:=Int.fmod_lt_of_pos (L (ld k)) l2
   rw[Int.mul_comm]at e
   omega
theorem uF.zero{F:Rows}{n w:Nat}{ld:Nat→Nat}{row L:Nat→Int}(s:cv F n w ld)(f:uF F n w ld row n L):(∀c,c<w→L c=0)↔cV F n w row:=by
 constructor
 · exact fun h=>f.sum.eq fun c hc=>by rw[h c hc,Int.sub_zero]
 · exact fun h=>s.Ls ((h.sub f.sum).eq fun c _=>by omega) f.red
end Mx
namespace Mx
theorem zy{K m:Nat}:∀ {n:Nat} {M:Fn},n≤K→(∀r c,r<n→c<n→(M r c).natAbs≤m)→(D n M).natAbs≤(K*m)^n
 |0,_,_,_=>by simp[D]
 |n+1,M,hn,h=>by
  rw[dh]
  have key:∀j,j<n+1→(sg j*M 0 j*D n fun r c=>M (r+1) (sk j c)).natAbs≤m*(K*m)^n:=fun j hj=>by
   have a:=zy (K:=K) (m:=m) (n:=n) (M:=fun r c=>M (r+1) (sk j c)) (by omega) fun r c hr hc=>h (r+1) (sk j c) (by omega) (jV hc)
   have b:=h 0 j (by omega) hj
   have s:(sg j).natAbs=1:=by unfold sg;split<;>rfl
   rw[Int.natAbs_mul,Int.natAbs_mul,s,Nat.one_mul]
   exact Nat.mul_le_mul b a
  refine Nat.le_trans (F9 key) ?_
  rw[Nat.pow_succ,Nat.mul_comm ((K*m)^n),Nat.mul_assoc]
  exact Nat.mul_le_mul_right _ hn
theorem pick{t N:Nat}{U B:Fn}(h:∀k l,k<t→l<t→S N (fun i=>U k i*B i l)=dl k l):∃I:Nat→Nat,(∀k,k<t→I k<N)∧D t (fun k l=>B (I k) l)≠0:=by
 apply Classical.byContradiction
 intro no
 have go:∀s,s≤t→∀I:Nat→Nat,(∀k,k<t→s≤k→I k<N)→D t (fun k l=>if k<s then dl k l else B (I k) l)=0:=by
  intro s
  induction s with
  |zero=>
   intro _ I hI
   exact Classical.byContradiction fun z=>no ⟨I,fun k hk=>hI k hk (Nat.zero_le _),z⟩
  |succ s ih=>
   intro hs I hI
   have e:D t (fun k l=>if k<s+1 then dl k l else B (I k) l)=D t (upd (fun k l=>if k<s then dl k l else B (I k) l) s fun l=>S N fun j=>U s j*B j l):=cX fun k l hk hl=>by
    unfold upd
    by_cases h1:k=s
    · subst h1
      rw[if_pos rfl,if_pos (Nat.lt_succ_self _)]
      exact(h k l hk hl).symm
    · rw[if_neg h1]
      show _=if k<s then dl k l else B (I k) l
      by_cases h2:k<s
      · rw[if_pos (by omega),if_pos h2]
      · rw[if_neg (by omega),if_neg h2]
   rw[e,(rF t).uh (by omega)]
   refine nh fun j hj=>?_
   have e2:=ih (by omega) (fun k=>if k=s then j else I k) fun k hk hsk=>by
    by_cases h1:k=s
    · rw[if_pos h1];exact hj
    · rw[if_neg h1];exact hI k hk (by omega)
   have e3:D t (upd (fun k l=>if k<s then dl k l else B (I k) l) s (B j))=D t (fun k l=>if k<s then dl k l else B (if k=s then j else I k) l):=cX fun k l hk hl=>by
    unfold upd
    by_cases h1:k=s
    · subst h1
      rw[if_pos rfl,if_neg (Nat.lt_irrefl _),if_pos rfl]
    · rw[if_neg h1,if_neg h1]
   rw[e3,e2,Int.mul_zero]
 have z:=go t (Nat.le_refl _) (fun _=>0) fun k h1 h2=>absurd h1 (Nat.not_lt.mpr h2)
 rw[cX (M':=dl) fun r c hr hc=>if_pos hr,vW]at z
 exact absurd z (by decide)
theorem yO:∀ {n:Nat} {f:Nat→Int},(∀i,i<n→0<f i)→0<Pr n f
 |0,_,_=>show(0:Int)<1 by decide
 |n+1,f,h=>Int.mul_pos (yO fun i hi=>h i (Nat.lt_succ_of_lt hi)) (h n (Nat.lt_succ_self n))
theorem Gw:∀ {n:Nat} {f:Nat→Int},(∀i,i<n→0<f i)→∀k,k<n→f k≤Pr n f
 |n+1,f,h,k,hk=>by
  have p:=yO fun i hi=>h i (Nat.lt_succ_of_lt hi)
  have q:=h n (Nat.lt_succ_self n)
  show f k≤Pr n f*f n
  by_cases e:k=n
  · subst e
    have:=Int.mul_le_mul_of_nonneg_right (show(1:Int)≤Pr k f from p) (Int.le_of_lt q)
    omega
  · have a:=Gw (fun i hi=>h i (Nat.lt_succ_of_lt hi)) k (by omega)
    have:=Int.mul_le_mul_of_nonneg_left (show(1:Int)≤f n from q) (Int.le_of_lt p)
    omega
theorem u3{w x:Int}{m:Nat}(hw:w≠0)(h:(w*x).natAbs≤m):x.natAbs≤m:=by
 rw[Int.natAbs_mul]at h
 exact Nat.le_trans (Nat.le_mul_of_pos_left _ (by omega)) h
theorem D4{b i j:Nat}(h:1≤b)(l:i≤j):(9*b)^i≤(9*b)^j:=Nat.pow_le_pow_right (by omega) l
theorem FE{A F U B:Fn}{N w t b:Nat}{ld:Nat→Nat}(t8:t≤8)(b1:1≤b)(hA:∀i c,i<N→c<w→(A i c).natAbs≤b)(hAF:∀i c,i<N→c<w→A i c=S t fun k=>B i k*F k c)(hUB:∀k l,k<t→l<t→S N (fun i=>U k i*B i l)=dl k l)(lead:∀i,i<t→ld i<w∧0<F i (ld i)∧∀c,c<ld i→F i c=0)(mono:∀i j,i<j→j<t→ld i<ld j)(red:∀i j,i<j→j<t→0≤F i (ld j)∧F i (ld j)<F j (ld j)):
 Pr t (fun i=>F i (ld i))≤((9*b)^8:Nat)∧∀k c,k<t→c<w→(F k c).natAbs≤8*((9*b)^9*(9*b)^8):=by
 obtain⟨I,hI,hw⟩:=pick hUB
 have eE:D t (fun k l=>F k (ld l))=Pr t fun i=>F i (ld i):=Nw fun r c hr hc h=>(lead r hr).2.2 _ (mono c r h hr)
 have pos:0<Pr t fun i=>F i (ld i):=yO fun i hi=>(lead i hi).2.1
 have eM:D t (fun k l=>A (I k) (ld l))=D t (fun k l=>B (I k) l)*D t fun k l=>F k (ld l):=by
  rw[←FI]
  exact cX fun k l hk hl=>hAF _ _ (hI k hk) (lead l hl).1
 have bM:(D t (fun k l=>A (I k) (ld l))).natAbs≤(9*b)^t:=zy (K:=9) (by omega) fun r c hr hc=>hA _ _ (hI r hr) (lead c hc).1
 rw[eM,eE]at bM
 have bP:(Pr t fun i=>F i (ld i)).natAbs≤(9*b)^8:=Nat.le_trans (u3 hw bM) (D4 b1 t8)
 refine⟨by omega,fun k c hk hc=>?_⟩
 have bF:∀l,l<t→(F k (ld l)).natAbs≤(9*b)^8:=fun l hl=>by
  have p:=Gw (f:=fun i=>F i (ld i)) (fun i hi=>(lead i hi).2.1) l hl
  rcases Nat.lt_trichotomy k l with h|h|h
  · have:=red k l h hl
    have p':F l (ld l)≤Pr t fun i=>F i (ld i):=p
    omega
  · subst h
    have q:=(lead k hk).2.1
    have p':F k (ld k)≤Pr t fun i=>F i (ld i):=p
    omega
  · rw[(lead k hk).2.2 _ (mono l k h hk)];exact Nat.zero_le _
 have e0:=Ml (fun l k=>F k (ld l)) t (fun k=>F k c) k
 rw[Kw hk]at e0
 have eT:D t (fun l k=>F k (ld l))=Pr t fun i=>F i (ld i):=by rw[←eE];exact zd t fun k l=>F k (ld l)
 rw[eT]at e0
 have bB:∀l,l<t→(D t (fun k l=>B (I k) l)*bt (fun l k=>F k (ld l)) t (fun k=>F k c) l).natAbs≤(9*b)^9:=fun l hl=>by
  have eW:D (t+1) (fun i k=>if i=t then dl t k else if k=t then 0 else B (I i) k)=D t fun k l=>B (I k) l:=by
   rw[yd fun c _=>if_pos rfl]
   exact cX fun r c hr hc=>by rw[if_neg (by omega),if_neg (by omega)]
  have eX:D (t+1) (upd (fun i r=>if r<t then A (I i) (ld r)else A (I i) c) t (dl l))=D t (fun k l=>B (I k) l)*bt (fun l k=>F k (ld l)) t (fun k=>F k c) l:=by
   unfold bt
   rw[←eW,←FI]
   refine cX fun i r hi hr=>?_
   by_cases h:i=t
   · subst h
     rw[bZ]
     have:(S (i+1) fun k=>(if i=i then dl i k else if k=i then 0 else B (I i) k)*upd (fun c_1 r=>if r<i then F c_1 (ld r)else F c_1 c) i (dl l) k r)=S (i+1) fun k=>dl i k*upd (fun c_1 r=>if r<i then F c_1 (ld r)else F c_1 c) i (dl l) k r:=aG fun k _=>by rw[if_pos rfl]
     rw[this,ng (Nat.lt_succ_self i),bZ]
   · have hi':i<t:=by omega
     rw[ax h]
     show _=(S t fun k=>(if i=t then dl t k else if k=t then 0 else B (I i) k)*upd (fun c_1 r=>if r<t then F c_1 (ld r)else F c_1 c) t (dl l) k r)+(if i=t then dl t t else if t=t then 0 else B (I i) t)*upd (fun c_1 r=>if r<t then F c_1 (ld r)else F c_1 c) t (dl l) t r
     have z:(if i=t then dl t t else if t=t then 0 else B (I i) t)*upd (fun c_1 r=>if r<t then F c_1 (ld r)else F c_1 c) t (dl l) t r=0:=by rw[if_neg h,if_pos rfl,Int.zero_mul]
     rw[z,Int.add_zero]
     have e2:∀k,k<t→(if i=t then dl t k else if k=t then 0 else B (I i) k)*upd (fun c_1 r=>if r<t then F c_1 (ld r)else F c_1 c) t (dl l) k r=B (I i) k*(if r<t then F k (ld r)else F k c):=fun k hk=>by
      rw[if_neg h,if_neg (by omega),ax (by omega)]
     rw[aG e2]
     by_cases hrt:r<t
     · rw[if_pos hrt,hAF _ _ (hI i hi') (lead r hrt).1]
       exact aG fun k _=>by rw[if_pos hrt]
     · rw[if_neg hrt,hAF _ _ (hI i hi') hc]
       exact aG fun k _=>by rw[if_neg hrt]
  rw[←eX]
  refine Nat.le_trans (zy (K:=9) (by omega) fun r q hr hq=>?_) (D4 b1 (show t+1≤9 by omega))
  by_cases h:r=t
  · subst h
    rw[bZ]
    unfold dl
    split<;>omega
  · rw[ax h]
    have hr':r<t:=by omega
    split
    · rename_i hq'
      exact hA _ _ (hI r hr') (lead q hq').1
    · exact hA _ _ (hI r hr') hc
 have e1:D t (fun k l=>B (I k) l)*(Pr t fun i=>F i (ld i))*F k c= -S t fun l=>(D t (fun k l=>B (I k) l)*bt (fun l k=>F k (ld l)) t (fun k=>F k c) l)*F k (ld l):=by
  have:(S t fun l=>(D t (fun k l=>B (I k) l)*bt (fun l k=>F k (ld l)) t (fun k=>F k c) l)*F k (ld l))=D t (fun k l=>B (I k) l)*S t fun l=>bt (fun l k=>F k (ld l)) t (fun k=>F k c) l*F k (ld l):=by
   rw[←eS]
   exact aG fun l _=>Int.mul_assoc _ _ _
  rw[this,Int.mul_assoc,←Int.mul_neg]
  congr 1
  omega
 refine u3 (w:=D t (fun k l=>B (I k) l)*(Pr t fun i=>F i (ld i))) (Int.mul_ne_zero hw (Int.ne_of_gt pos)) ?_
 rw[e1,Int.natAbs_neg]
 refine Nat.le_trans (F9 fun l hl=>?_) (Nat.mul_le_mul_right _ t8)
 rw[Int.natAbs_mul]
 exact Nat.mul_le_mul (bB l hl) (bF l hl)
theorem gE.back{A0:Rows}{N w top e u:Nat}{c:B3}{ld:Nat→Nat}(H:gE A0 N w c top w ld e u){i q:Nat}(hi:i<N)(hq:q<w):g A0 i q=S top fun k=>g c.C k i*g c.A k q:=by
 have T:=H.tn
 have e1:S N (fun k=>g c.C k i*g c.A k q)=g A0 i q:=by
  have:S N (fun k=>g c.C k i*g c.A k q)=S N fun k=>S N fun m=>g c.C k i*g c.U k m*g A0 m q:=aG fun k hk=>by
   rw[T.ua k q hk hq,←eS]
   exact aG fun m _=>(Int.mul_assoc _ _ _).symm
  rw[this,qO]
  have:(S N fun m=>S N fun k=>g c.C k i*g c.U k m*g A0 m q)=S N fun m=>dl i m*g A0 m q:=aG fun m hm=>by rw[ue,T.bu i m hi hm]
  rw[this,ng hi]
 have cut:∀n,top≤n→n≤N→S n (fun k=>g c.C k i*g c.A k q)=S top fun k=>g c.C k i*g c.A k q:=fun n=>by
  induction n with
  |zero=>intro h _;rw[Nat.le_zero.mp h]
  |succ n ih=>
   intro h h2
   by_cases e:top=n+1
   · rw[e]
   · show S n _+g c.C n i*g c.A n q=_
     rw[ih (by omega) (by omega),H.zs n q (by omega) (by omega) hq,Int.mul_zero,Int.add_zero]
 rw[←e1,cut N H.le (Nat.le_refl _)]
theorem gE.small{A0:Rows}{N w top e u b:Nat}{c:B3}{ld:Nat→Nat}(H:gE A0 N w c top w ld e u)(hN:N≤8)(b1:1≤b)(hA:∀i c,i<N→c<w→(g A0 i c).natAbs≤b):
 Pr top (fun i=>g c.A i (ld i))≤((9*b)^8:Nat)∧∀k q,k<top→q<w→(g c.A k q).natAbs≤8*((9*b)^9*(9*b)^8):=
 FE (A:=g A0) (F:=g c.A) (U:=g c.U) (B:=fun i k=>g c.C k i) (Nat.le_trans H.le hN) b1 hA (fun i q hi hq=>H.back hi hq) (fun k l hk hl=>H.tn.ub k l (Nat.lt_of_lt_of_le hk H.le) (Nat.lt_of_lt_of_le hl H.le)) H.lead H.mono H.red
end Mx
namespace Mx
noncomputable def cM(F:Rows)(i:Nat):Nat:=(F.getD i []).findIdx (fun x=>x != 0)
theorem u6:∀ {r:Row} {l:Nat},(∀c,c<l→r.getD c 0=0)→r.getD l 0≠0→r.findIdx (fun x=>x != 0)=l
 | [],l,_,h=>(h rfl).elim
 |x::r,0,_,h=>by
  have h':(x != 0)=true:=bne_iff_ne.mpr h
  rw[List.findIdx_cons,h'];rfl
 |x::r,l+1,hz,h=>by
  have x0:(x != 0)=false:=bne_eq_false_iff_eq.mpr (hz 0 (Nat.zero_lt_succ _))
  rw[List.findIdx_cons,x0,u6 (r:=r) (l:=l) (fun c hc=>hz (c+1) (Nat.succ_lt_succ hc)) h];rfl
theorem cv.cM{F:Rows}{n w:Nat}{ld:Nat→Nat}(s:cv F n w ld){i:Nat}(hi:i<n):Mx.cM F i=ld i:=by
 obtain⟨_,h2,h3⟩:=s.lead i hi
 exact u6 h3 (Int.ne_of_gt h2)
theorem cv.Oo{F:Rows}{n w:Nat}{ld:Nat→Nat}(s:cv F n w ld):cv F n w (Mx.cM F):=
 ⟨fun i hi=>by rw[s.cM hi];exact s.lead i hi,fun i j h hj=>by rw[s.cM hj,s.cM (Nat.lt_trans h hj)];exact s.mono i j h hj⟩
noncomputable def qv(F:Rows)(L:Row)(i:Nat):Int:=(L.getD (cM F i) 0).fdiv (g F i (cM F i))
noncomputable def c5(F:Rows)(r:Row):Nat→Row
 |0=>r
 |i+1=>eP (c5 F r i) (-(qv F (c5 F r i) i)) (F.getD i [])
noncomputable def pZ(F:Rows)(r:Row)(n:Nat):Row:=(List.range n).map fun i=>qv F (c5 F r i) i
section
variable {F:Rows}{r:Row}{m w:Nat}(isF:cT m w F)(lr:r.length=w)
include isF lr
theorem mJ:∀ {i:Nat},i≤m→(c5 F r i).length=w
 |0,_=>lr
 |i+1,h=>by
  unfold c5
  rw[kl (by rw[mJ (by omega),isF.row (by omega)])]
  exact mJ (by omega)
theorem zF{i:Nat}(hi:i<m)(c:Nat):(c5 F r (i+1)).getD c 0=(c5 F r i).getD c 0-qv F (c5 F r i) i*g F i c:=by
 conv=>lhs;unfold c5
 rw[rR (by rw[mJ isF lr (by omega),isF.row hi]),Int.neg_mul]
 rfl
theorem Av:∀ {i:Nat},i≤m→∀c,r.getD c 0=(c5 F r i).getD c 0+S i fun j=>qv F (c5 F r j) j*g F j c
 |0,_,c=>(Int.add_zero _).symm
 |i+1,h,c=>by
  have e:=Av (i:=i) (by omega) c
  rw[zF isF lr (by omega)]
  show _=_+(S i _+qv F (c5 F r i) i*g F i c)
  omega
theorem vZ(s:cv F m w (cM F)):∀ {i:Nat},i≤m→uF F m w (cM F) (fun c=>r.getD c 0) i (fun c=>(c5 F r i).getD c 0)
 |0,_=>uF.start
 |i+1,h=>by
  have:=(vZ s (i:=i) (by omega)).step s h
  have e:(fun c=>(c5 F r (i+1)).getD c 0)=fun c=>(c5 F r i).getD c 0-((c5 F r i).getD (cM F i) 0).fdiv (g F i (cM F i))*g F i c:=by
   funext c
   rw[zF isF lr h]
   rfl
  rw[e]
  exact this
theorem r9{f e:Nat}(s:cv F m w (cM F))(hF:∀k c,k<m→c<w→(g F k c).natAbs≤2^f)(hr:∀c,c<w→(r.getD c 0).natAbs≤2^e):∀ {i:Nat},i≤m→∀c,c<w→((c5 F r i).getD c 0).natAbs≤2^(e+i*(f+1))
 |0,_,c,hc=>by rw[Nat.zero_mul];exact hr c hc
 |i+1,h,c,hc=>by
  have ih:=r9 s hF hr (i:=i) (by omega)
  obtain⟨l1,l2,_⟩:=s.lead i h
  have q:=Nat.le_trans (nk ((c5 F r i).getD (cM F i) 0) l2) (ih _ l1)
  rw[zF isF lr h]
  have p:(qv F (c5 F r i) i*g F i c).natAbs≤2^(e+i*(f+1))*2^f:=by
   rw[Int.natAbs_mul]
   exact Nat.mul_le_mul q (hF i c h hc)
  have b:=ih c hc
  have e1:2^(e+(i+1)*(f+1))=2^(e+i*(f+1))*2^f*2:=by
   rw[show e+(i+1)*(f+1)=e+i*(f+1)+f+1 by rw[Nat.succ_mul];omega,Nat.pow_succ,Nat.pow_add]
  have e2:2^(e+i*(f+1))≤2^(e+i*(f+1))*2^f:=Nat.le_mul_of_pos_right _ (Nat.pow_pos (by decide))
  rw[e1]
  omega
end
theorem Fw{A0:Rows}{N w top e u:Nat}{c:B3}{ld:Nat→Nat}(H:gE A0 N w c top w ld e u){r ws:Row}(lw:ws.length=top)(hs:∀q,q<w→r.getD q 0=S top fun j=>ws.getD j 0*g c.A j q){q:Nat}(hq:q<w):(S N fun n=>(eV ws (c.U.take top) (List.replicate N 0)).getD n 0*g A0 n q)=r.getD q 0:=by
 have T:=H.tn
 have hl:(c.U.take top).length=top:=by rw[List.length_take,T.d8.len];exact Nat.min_eq_left H.le
 have e1:∀n,(eV ws (c.U.take top) (List.replicate N 0)).getD n 0=S top fun j=>ws.getD j 0*g c.U j n:=fun n=>by
  rw[tT (n:=N) n (by simp) (fun r hr=>T.d8.lP r (List.mem_of_mem_take hr)) (by rw[hl,lw]),dU,Int.zero_add,hl]
  refine aG fun j hj=>?_
  unfold g
  rw[ba (l:=c.U.take top) (by omega),List.getElem_take,ba (l:=c.U) (by have:=T.d8.len;have:=H.le;omega)]
 have e2:(S N fun n=>(eV ws (c.U.take top) (List.replicate N 0)).getD n 0*g A0 n q)=S N fun n=>S top fun j=>ws.getD j 0*(g c.U j n*g A0 n q):=aG fun n _=>by
  rw[e1,←ue]
  exact aG fun j _=>Int.mul_assoc _ _ _
 rw[e2,qO,hs q hq]
 refine aG fun j hj=>?_
 rw[eS,←T.ua j q (Nat.lt_of_lt_of_le hj H.le) hq]
end Mx
namespace Mx
noncomputable def SQ:Nat→(Nat→Rat)→Rat
 |0,_=>0
 |n+1,f=>SQ n f+f n
theorem pA{n:Nat}{f h:Nat→Rat}(e:∀i,i<n→f i=h i):SQ n f=SQ n h:=by
 induction n with
 |zero=>rfl
 |succ n ih=>unfold SQ;rw[ih fun i hi=>e i (by omega),e n (by omega)]
theorem vt{n:Nat}{f:Nat→Rat}(e:∀i,i<n→f i=0):SQ n f=0:=by
 induction n with
 |zero=>rfl
 |succ n ih=>unfold SQ;rw[ih fun i hi=>e i (by omega),e n (by omega)];grind
theorem C9(n:Nat)(f h:Nat→Rat):SQ n (fun i=>f i+h i)=SQ n f+SQ n h:=by
 induction n with
 |zero=>unfold SQ;grind
 |succ n ih=>unfold SQ;rw[ih];grind
theorem J4(n:Nat)(x:Rat)(f:Nat→Rat):SQ n (fun i=>x*f i)=x*SQ n f:=by
 induction n with
 |zero=>unfold SQ;grind
 |succ n ih=>unfold SQ;rw[ih];grind
theorem C0{n k:Nat}(hk:k<n){f:Nat→Rat}(h:∀i,i<n→i≠k→f i=0):SQ n f=f k:=by
 induction n with
 |zero=>omega
 |succ n ih=>
  unfold SQ
  by_cases e:k=n
  · subst e
    rw[vt fun i hi=>h i (by omega) (by omega)];grind
  · rw[ih (by omega) fun i hi hn=>h i (by omega) hn,h n (by omega) (by omega)];grind
theorem IY{n k:Nat}(hk:k<n){f h:Nat→Rat}(e:∀i,i<n→i≠k→h i=f i):SQ n h=SQ n f+(h k-f k):=by
 induction n with
 |zero=>omega
 |succ n ih=>
  unfold SQ
  by_cases q:k=n
  · subst q
    rw[pA (f:=h) (h:=f) fun i hi=>e i (by omega) (by omega)];grind
  · rw[ih (by omega) fun i hi hn=>e i (by omega) hn,e n (by omega) (by omega)];grind
noncomputable def Wh(x:Rat):Prop:=∃z:Int,x=(z:Rat)
theorem Wh.zero:Wh 0:=⟨0,rfl⟩
theorem Wh.add{x y:Rat}(h:Wh x)(k:Wh y):Wh (x+y):=by
 obtain⟨a,rfl⟩:=h
 obtain⟨b,rfl⟩:=k
 exact⟨a+b,(Rat.intCast_add a b).symm⟩
theorem Wh.mul{x:Rat}(h:Wh x)(c:Int):Wh ((c:Rat)*x):=by
 obtain⟨a,rfl⟩:=h
 exact⟨c*a,(Rat.intCast_mul c a).symm⟩
theorem Wh.neg{x:Rat}(h:Wh x):Wh (-x):=by
 obtain⟨a,rfl⟩:=h
 exact⟨-a,(Rat.intCast_neg a).symm⟩
theorem Wh.den{x:Rat}:Wh x↔x.den=1:=by
 constructor
 · rintro⟨a,rfl⟩;rfl
 · intro h
   exact⟨x.num,Rat.ext rfl h⟩
noncomputable def dq(ps:List Rat)(w:Nat)(v:Nat→Int):Rat:=SQ w fun c=>ps.getD c 0*(v c:Rat)
theorem Dm(ps:List Rat)(w n:Nat)(x:Nat→Int)(f:Nat→Nat→Int):dq ps w (fun c=>S n fun k=>x k*f k c)=SQ n fun k=>(x k:Rat)*dq ps w (f k):=by
 induction n with
 |zero=>exact vt fun c _=>by show _*((0:Int):Rat)=0;grind
 |succ n ih=>
  have:dq ps w (fun c=>S (n+1) fun k=>x k*f k c)=dq ps w (fun c=>S n fun k=>x k*f k c)+(x n:Rat)*dq ps w (f n):=by
   unfold dq
   rw[←J4,←C9]
   refine pA fun c _=>?_
   show _*(((S n fun k=>x k*f k c)+x n*f n c:Int):Rat)=_
   rw[Rat.intCast_add,Rat.intCast_mul]
   grind
  rw[this,ih]
  rfl
theorem IG(ps:List Rat)(w:Nat)(u v:Nat→Int):dq ps w (fun c=>u c+v c)=dq ps w u+dq ps w v:=by
 unfold dq
 rw[←C9]
 exact pA fun c _=>by rw[Rat.intCast_add];grind
theorem yh{ps:List Rat}{w:Nat}{u v:Nat→Int}(h:∀c,c<w→u c=v c):dq ps w u=dq ps w v:=pA fun c hc=>by rw[h c hc]
theorem FN{n:Nat}{f:Nat→Rat}(h:∀i,i<n→Wh (f i)):Wh (SQ n f):=by
 induction n with
 |zero=>exact Wh.zero
 |succ n ih=>exact(ih fun i hi=>h i (by omega)).add (h n (by omega))
theorem ib{ps:List Rat}{k:Nat}{x:Rat}(hk:k<ps.length)(c:Nat):(ps.set k x).getD c 0=if c=k then x else ps.getD c 0:=by
 rw[List.getD_eq_getElem?_getD,List.getD_eq_getElem?_getD]
 by_cases h:c=k
 · subst h;rw[List.getElem?_set_self hk,if_pos rfl];rfl
 · rw[List.getElem?_set_ne (Ne.symm h),if_neg h]
theorem Lc{ps:List Rat}{w k:Nat}{x:Rat}(lp:ps.length=w)(hk:k<w)(v:Nat→Int):dq (ps.set k x) w v=dq ps w v+(x-ps.getD k 0)*(v k:Rat):=by
 unfold dq
 rw[IY hk (f:=fun c=>ps.getD c 0*(v c:Rat)) fun c _ hn=>by rw[ib (by omega),if_neg hn]]
 rw[ib (by omega),if_pos rfl]
 grind
noncomputable def Dn(F:Rows)(w l:Nat)(ps:List Rat)(k:Nat):List Rat:=if cM F k<l then ps.set (cM F k) ((0-dq ps w (g F k))/(g F k (cM F k):Rat))else ps
noncomputable def lQ(F:Rows)(m w l:Nat)(ps:List Rat):Nat→List Rat
 |0=>ps
 |i+1=>Dn F w l (lQ F m w l ps i) (m-1-i)
noncomputable def iR(w l:Nat)(b:Int):List Rat:=(List.replicate w 0).set l (Rat.divInt 1 b)
theorem KS(w c:Nat):(List.replicate w (0:Rat)).getD c 0=0:=by
 rw[List.getD_eq_getElem?_getD,List.getElem?_replicate]
 split<;>rfl
structure mY(F:Rows)(m w l:Nat)(p:Rat)(i:Nat)(ps:List Rat):Prop where
 len:ps.length=w
 nil:∀c,c≠l→(∀k,m-i≤k→k<m→cM F k≠c)→ps.getD c 0=0
 hi:∀c,l<c→ps.getD c 0=0
 at_:ps.getD l 0=p
 off:∀k,m-i≤k→k<m→cM F k<l→dq ps w (g F k)=0
theorem mY.start{F:Rows}{m w l:Nat}(b:Int)(hl:l<w):mY F m w l (Rat.divInt 1 b) 0 (iR w l b):=by
 have hw:l<(List.replicate w (0:Rat)).length:=by simpa using hl
 refine⟨by unfold iR;simp,fun c hc _=>?_,fun c hc=>?_,?_,fun k h1 h2=>by omega⟩
 · unfold iR;rw[ib hw,if_neg hc,KS]
 · unfold iR;rw[ib hw,if_neg (by omega),KS]
 · unfold iR;rw[ib hw,if_pos rfl]
theorem mY.step{F:Rows}{m w l i:Nat}{p:Rat}{ps:List Rat}(s:cv F m w (cM F))(hi:i<m)(P:mY F m w l p i ps):mY F m w l p (i+1) (Dn F w l ps (m-1-i)):=by
 generalize hk:m-1-i=k0
 have hk0:k0<m:=by omega
 obtain⟨l1,l2,l3⟩:=s.lead k0 hk0
 unfold Dn
 by_cases h:cM F k0<l
 · rw[if_pos h]
   have pz:ps.getD (cM F k0) 0=0:=P.nil _ (by omega) fun k h1 h2 e=>by
    have:=s.mono k0 k (by omega) h2
    omega
   have hne:(g F k0 (cM F k0):Rat)≠0:=fun z=>by
    have:g F k0 (cM F k0)=0:=Rat.intCast_inj.mp z
    omega
   have hlen:cM F k0<ps.length:=by rw[P.len];exact l1
   refine⟨by rw[List.length_set];exact P.len,fun c hc hn=>?_,fun c hc=>?_,?_,fun k h1 h2 h3=>?_⟩
   · rw[ib hlen,if_neg (Ne.symm (hn k0 (by omega) hk0))]
     exact P.nil c hc fun k h1 h2=>hn k (by omega) h2
   · rw[ib hlen,if_neg (by omega)];exact P.hi c hc
   · rw[ib hlen,if_neg (by omega)];exact P.at_
   · rw[Lc P.len l1,pz]
     by_cases e:k=k0
     · subst e
       have:(0-dq ps w (g F k))/(g F k (cM F k):Rat)*(g F k (cM F k):Rat)=0-dq ps w (g F k):=Rat.div_mul_cancel hne
       grind
     · have hk':m-i≤k:=by omega
       rw[P.off k hk' h2 h3,(s.lead k h2).2.2 _ (s.mono k0 k (by omega) h2)]
       show _+_*((0:Int):Rat)=0
       grind
 · rw[if_neg h]
   refine⟨P.len,fun c hc hn=>P.nil c hc fun k h1 h2=>hn k (by omega) h2,P.hi,P.at_,fun k h1 h2 h3=>?_⟩
   by_cases e:k=k0
   · subst e;omega
   · exact P.off k (by omega) h2 h3
theorem mY.all{F:Rows}{m w l:Nat}(b:Int)(s:cv F m w (cM F))(hl:l<w):∀ {i:Nat},i≤m→mY F m w l (Rat.divInt 1 b) i (lQ F m w l (iR w l b) i)
 |0,_=>mY.start b hl
 |i+1,h=>(mY.all b s hl (i:=i) (by omega)).step s h
noncomputable def y0(F:Rows)(m l:Nat)(x b:Int):Prop:=(∃k,k<m∧cM F k=l∧b=g F k l)∨((∀k,k<m→cM F k≠l)∧b=2*(x.natAbs:Int))
theorem y0.pos{F:Rows}{m w l:Nat}{x b:Int}(s:cv F m w (cM F))(h:y0 F m l x b)(hx:x≠0):0<b:=by
 rcases h with⟨k,hk,e,rfl⟩|⟨n,rfl⟩
 · have:=(s.lead k hk).2.1
   rw[e]at this;exact this
 · omega
theorem yE{b:Int}(hb:b≠0)(x:Int):Rat.divInt 1 b*(x:Rat)=(x:Rat)/(b:Rat):=by
 rw[Rat.divInt_eq_div]
 grind
theorem JY{x b:Int}(h0:0<x.natAbs)(h1:(x.natAbs:Int)<b):¬Wh ((x:Rat)/(b:Rat)):=by
 rintro⟨z,e⟩
 have hb:(b:Rat)≠0:=fun q=>by
  have:b=0:=Rat.intCast_inj.mp q
  omega
 have e2:(x:Rat)=(z:Rat)*(b:Rat):=by rw[←e];exact(Rat.div_mul_cancel hb).symm
 rw[←Rat.intCast_mul]at e2
 have e3:x=z*b:=Rat.intCast_inj.mp e2
 have hz:z≠0:=fun q=>by rw[q,Int.zero_mul]at e3;omega
 have:(z*b).natAbs=z.natAbs*b.natAbs:=Int.natAbs_mul _ _
 have h2:1*b.natAbs≤z.natAbs*b.natAbs:=Nat.mul_le_mul_right _ (by omega)
 rw[e3]at h1
 omega
theorem mY.whole{F:Rows}{m w l:Nat}{R:Row}{b:Int}{ps:List Rat}(s:cv F m w (cM F))(hl:l<w)(hb:y0 F m l (R.getD l 0) b)(h0:R.getD l 0≠0)(P:mY F m w l (Rat.divInt 1 b) m ps){k:Nat}(hk:k<m):Wh (dq ps w (g F k)):=by
 obtain⟨l1,l2,l3⟩:=s.lead k hk
 rcases Nat.lt_trichotomy (cM F k) l with h|h|h
 · rw[P.off k (by omega) hk h];exact Wh.zero
 · have e:dq ps w (g F k)=ps.getD l 0*(g F k l:Rat):=C0 hl fun c hc hn=>by
    rcases Nat.lt_or_gt_of_ne hn with q|q
    · rw[l3 c (by omega)];show _*((0:Int):Rat)=0;grind
    · rw[P.hi c q];grind
   have hb':b=g F k l:=by
    rcases hb with⟨k',hk',e',rfl⟩|⟨n,_⟩
    · rw[s.inj hk hk' (h.trans e'.symm)]
    · exact absurd h (n k hk)
   rw[e,P.at_,hb']
   have hp:0<g F k l:=by rw[←h];exact l2
   rw[yE (by omega)]
   have:(g F k l:Rat)≠0:=fun q=>by
    have:g F k l=0:=Rat.intCast_inj.mp q
    omega
   have e1:(g F k l:Rat)/(g F k l:Rat)=1:=by rw[Rat.div_def];exact Rat.mul_inv_cancel _ this
   rw[e1]
   exact⟨1,rfl⟩
 · have e:dq ps w (g F k)=0:=vt fun c hc=>by
    rcases Nat.lt_or_ge l c with q|q
    · rw[P.hi c q];grind
    · rw[l3 c (by omega)];show _*((0:Int):Rat)=0;grind
   rw[e];exact Wh.zero
theorem mY.not{F:Rows}{m w l:Nat}{R:Row}{b:Int}{ps:List Rat}(s:cv F m w (cM F))(hl:l<w)(hb:y0 F m l (R.getD l 0) b)(h0:R.getD l 0≠0)(hz:∀c,c<l→R.getD c 0=0)(red:∀k,k<m→0≤R.getD (cM F k) 0∧R.getD (cM F k) 0<g F k (cM F k))(P:mY F m w l (Rat.divInt 1 b) m ps):¬Wh (dq ps w fun c=>R.getD c 0):=by
 have bp:=hb.pos s h0
 have e:dq ps w (fun c=>R.getD c 0)=ps.getD l 0*((R.getD l 0:Int):Rat):=C0 hl fun c hc hn=>by
  rcases Nat.lt_or_gt_of_ne hn with q|q
  · show _*((R.getD c 0:Int):Rat)=0;rw[hz c q];show _*((0:Int):Rat)=0;grind
  · rw[P.hi c q];grind
 rw[e,P.at_,yE (by omega)]
 refine JY (by omega) ?_
 rcases hb with⟨k,hk,e,rfl⟩|⟨n,rfl⟩
 · have:=red k hk
   rw[e]at this
   omega
 · omega
theorem GP(n:Nat)(f:Nat→Rat):SQ (n+1) f=f 0+SQ n fun i=>f (i+1):=by
 induction n with
 |zero=>unfold SQ SQ;grind
 |succ n ih=>
  have:SQ (n+1+1) f=SQ (n+1) f+f (n+1):=rfl
  rw[this,ih]
  have:SQ (n+1) (fun i=>f (i+1))=SQ n (fun i=>f (i+1))+f (n+1):=rfl
  rw[this]
  grind
noncomputable def j8:Rat→List Rat→Row→Rat
 |t,p::ps,n::r=>j8 (t+p*(n:Rat)) ps r
 |t,_,_=>t
theorem DG:∀(ps:List Rat) (r:Row) (t:Rat) {w:Nat},ps.length=w→r.length=w→j8 t ps r=t+dq ps w fun c=>r.getD c 0
 | [],[],t,w,h,_=>by
   subst h
   unfold j8
   show t=t+0
   grind
 | [],_::_,t,w,h1,h2=>by subst h1;cases h2
 |_::_,[],t,w,h1,h2=>by subst h2;cases h1
 |p::ps,n::r,t,w,h1,h2=>by
  subst h1
  unfold j8
  rw[DG ps r _ rfl (Nat.succ.inj h2)]
  unfold dq
  rw[List.length_cons,GP]
  have e:(fun i=>(p::ps).getD (i+1) 0*(((n::r).getD (i+1) 0:Int):Rat))=fun i=>ps.getD i 0*((r.getD i 0:Int):Rat):=by
   funext i
   simp
  rw[e]
  show _=t+(p*(n:Rat)+_)
  grind
structure Sz(q:Rat)(m:Nat):Prop where
 num:q.num.natAbs≤2^m
 den:q.den≤2^m
theorem Sz.mono{q:Rat}{m n:Nat}(h:Sz q m)(l:m≤n):Sz q n:=⟨Nat.le_trans h.num (Nat.pow_le_pow_right (by decide) l),Nat.le_trans h.den (Nat.pow_le_pow_right (by decide) l)⟩
theorem Sz.int{n:Int}{m:Nat}(h:n.natAbs≤2^m):Sz (n:Rat) m:=⟨h,Nat.pow_pos (by decide)⟩
theorem Sz.of{t b:Int}{m:Nat}(hb:b≠0)(h1:t.natAbs≤2^m)(h2:b.natAbs≤2^m):Sz (Rat.divInt t b) m:=by
 have hg:1≤b.gcd t:=by
  have:b.gcd t≠0:=fun z=>hb (Int.gcd_eq_zero_iff.mp z).1
  omega
 constructor
 · rw[Rat.num_divInt]
   have:((b.sign*t)/((b.gcd t:Nat):Int)).natAbs≤(b.sign*t).natAbs:=Int.natAbs_ediv_le_natAbs _ _
   have e:(b.sign*t).natAbs≤t.natAbs:=by
    rw[Int.natAbs_mul]
    have:b.sign.natAbs≤1:=by rw[Int.natAbs_sign];split<;>omega
    calc b.sign.natAbs*t.natAbs≤1*t.natAbs:=Nat.mul_le_mul_right _ this
     _=t.natAbs:=Nat.one_mul _
   omega
 · rw[Rat.den_divInt,if_neg hb]
   exact Nat.le_trans (Nat.div_le_self _ _) h2
theorem gD{x y:Int}{a b:Nat}(hx:x.natAbs≤2^a)(hy:y.natAbs≤2^b):(x*y).natAbs≤2^(a+b):=by
 rw[Int.natAbs_mul,Nat.pow_add]
 exact Nat.mul_le_mul hx hy
theorem den_nz(q:Rat):((q.den:Nat):Int)≠0:=by have:=q.den_nz;omega
theorem m9(q:Rat):q=Rat.divInt q.num ((q.den:Nat):Int):=(Rat.num_divInt_den q).symm
theorem add_eq(p q:Rat):p+q=Rat.divInt (p.num*((q.den:Nat):Int)+q.num*((p.den:Nat):Int)) (((p.den:Nat):Int)*((q.den:Nat):Int)):=by
 conv=>lhs;rw[m9 p,m9 q]
 rw[Rat.divInt_add_divInt _ _ (den_nz p) (den_nz q)]
theorem sub_eq(p q:Rat):p-q=Rat.divInt (p.num*((q.den:Nat):Int)-q.num*((p.den:Nat):Int)) (((p.den:Nat):Int)*((q.den:Nat):Int)):=by
 conv=>lhs;rw[m9 p,m9 q]
 rw[Rat.divInt_sub_divInt _ _ (den_nz p) (den_nz q)]
theorem mul_eq(p q:Rat):p*q=Rat.divInt (p.num*q.num) (((p.den:Nat):Int)*((q.den:Nat):Int)):=by
 conv=>lhs;rw[m9 p,m9 q]
 rw[Rat.divInt_mul_divInt]
theorem div_eq(p q:Rat):p/q=Rat.divInt (p.num*((q.den:Nat):Int)) (((p.den:Nat):Int)*q.num):=by
 rw[Rat.div_def,Rat.inv_def]
 conv=>lhs;rw[m9 p]
 rw[Rat.divInt_mul_divInt]
theorem Sz.rm{q:Rat}{m:Nat}(h:Sz q m):(((q.den:Nat):Int)).natAbs≤2^m:=h.den
theorem Sz.add{p q:Rat}{a b:Nat}(hp:Sz p a)(hq:Sz q b):Sz (p+q) (a+b+1):=by
 rw[add_eq]
 have h1:=gD hp.num hq.rm
 have h2:=gD hq.num hp.rm
 have h3:=gD hp.rm hq.rm
 rw[Nat.add_comm b a]at h2
 exact Sz.of (Int.mul_ne_zero (den_nz p) (den_nz q)) (by rw[Nat.pow_succ];omega) (Nat.le_trans h3 (Nat.pow_le_pow_right (by decide) (by omega)))
theorem Sz.neg{q:Rat}{b:Nat}(hq:Sz q b):Sz (0-q) b:=by
 have e:(0:Rat)-q= -q:=by grind
 rw[e]
 exact⟨by rw[show(-q).num= -q.num from rfl,Int.natAbs_neg];exact hq.num,hq.den⟩
theorem Sz.mul{p q:Rat}{a b:Nat}(hp:Sz p a)(hq:Sz q b):Sz (p*q) (a+b):=by
 rw[mul_eq]
 exact Sz.of (Int.mul_ne_zero (den_nz p) (den_nz q)) (gD hp.num hq.num) (gD hp.rm hq.rm)
theorem Sz.div{p q:Rat}{a b:Nat}(hp:Sz p a)(hq:Sz q b)(h0:q.num≠0):Sz (p/q) (a+b):=by
 rw[div_eq]
 exact Sz.of (Int.mul_ne_zero (den_nz p) h0) (gD hp.num hq.rm) (gD hp.rm hq.num)
noncomputable def Pb:List Rat→Nat→Prop
 | [],_=>True
 |q::qs,t=>∃a b,Sz q a∧Pb qs b∧a+b≤t
theorem Pb.mono:∀ {ps:List Rat} {s t:Nat},Pb ps s→s≤t→Pb ps t
 | [],_,_,_,_=>trivial
 |_::_,_,_,⟨a,b,h1,h2,h3⟩,l=>⟨a,b,h1,h2,Nat.le_trans h3 l⟩
theorem Pb.set{x:Rat}{a:Nat}(hx:Sz x a):∀ {ps:List Rat} {t k:Nat},Pb ps t→Pb (ps.set k x) (t+a)
 | [],_,_,_=>trivial
 |q::qs,t,0,⟨a',b,h1,h2,h3⟩=>⟨a,b,hx,h2,by omega⟩
 |q::qs,t,k+1,⟨a',b,h1,h2,h3⟩=>⟨a',b+a,h1,h2.set hx,by omega⟩
theorem Pb.rep:∀n:Nat,Pb (List.replicate n 0) 0
 |0=>trivial
 |n+1=>⟨0,0,⟨by decide,by decide⟩,Pb.rep n,Nat.le_refl _⟩
theorem Pb.j8:∀ {ps:List Rat} {r:Row} {s e t:Nat} {x:Rat},Sz x s→Pb ps t→(∀n∈r,n.natAbs≤2^e)→Sz (j8 x ps r) (s+t+ps.length*(e+1))
 | [],r,s,e,t,x,hx,_,_=>by unfold Mx.j8;exact hx.mono (by omega)
 |_::_,[],s,e,t,x,hx,_,_=>by unfold Mx.j8;exact hx.mono (by omega)
 |p::ps,n::r,s,e,t,x,hx,⟨a,b,h1,h2,h3⟩,hr=>by
  unfold Mx.j8
  have h4:=hx.add (h1.mul (Sz.int (hr n List.mem_cons_self)))
  refine(Pb.j8 h4 h2 fun k hk=>hr k (List.mem_cons_of_mem _ hk)).mono ?_
  rw[List.length_cons,Nat.succ_mul]
  omega
end Mx
namespace Prog
open PySem L2 L3
open PySem.Spec hiding items?
open PyProof.Rows hiding St
theorem iP{i j:Int}(h1: -(2^64)<i)(h2:i<2^64):IntMulOk i j:= .of_left (intBits_le_64 h1 h2)
theorem HC{i j:Int}(h1: -(2^64)<j)(h2:j<2^64):IntMulOk i j:= .of_right (intBits_le_64 h1 h2)
noncomputable def Any(st:ag)(d:D):Prop:=∃t,e7 st d=some t
structure Thing(st:ag)(d:D):Prop where
 any:Any st d
 au:∀xs,items? st d=some xs→(∀x∈xs,Any st x)∧xs.length≤sizeLine
noncomputable def isInt:D→Bool
 | .int _=>true
 |_=>false
theorem E8{st:ag}{d:D}{t:String}(h:e7 st d=some t):(t=="int")=isInt d:=by
 cases d<;>unfold e7 at h<;>first|(cases h;done)|(cases h;rfl)|(simp only at h;split at h<;>first|(cases h;rfl)|cases h)
theorem DP{st:ag}{d:D}{t:String}(h:e7 st d=some t):(t=="list"||t=="tuple")=(items? st d).isSome:=by
 cases d<;>unfold e7 at h<;>first|(cases h;done)|(cases h;rfl)|(simp only at h;split at h<;>first|(cases h;rename_i q;rw[aI q];rfl)|cases h)
noncomputable def sr(st:ag)(d:D)(m:Int):Bool:=match items? st d with
 |some xs=>decide ((xs.length:Int)=m)&&xs.all isInt
 |none=>false
theorem sF{tg:fk}{te:DE}{ok:ag→Prop}{σc:bV}{st:ag}{K:List D→ag→Prop}{g:D→D}(aL:ok st):∀(xs acc:List D),(∀x∈xs,∀K',K' (g x) st→∃σ2,tg x σc=some σ2∧te σ2 st K')→K (acc++xs.map g) st→cO tg cG te ok σc xs acc st K
 | [],acc,_,h=>by unfold cO;exact⟨aL,by simpa using h⟩
 |x::xs,acc,hx,h=>by
  unfold cO
  obtain⟨σ2,e,q⟩:=hx x List.mem_cons_self (fun y st2=>cO tg cG te ok σc xs (acc++[y]) st2 K) (sF aL xs (acc++[g x]) (fun y hy=>hx y (List.mem_cons_of_mem _ hy)) (by simpa using h))
  exact⟨aL,σ2,e,q⟩
theorem wH{f:D→Bool}:∀xs:List D,fy (xs.map fun x=>D.bl (f x))=some (xs.map f)
 | []=>rfl
 |x::xs=>by simp[fy,wH xs]
noncomputable abbrev aJ(r:List Int):List D:=r.map D.int
noncomputable abbrev bo(r:List Int):D:= .tup (aJ r)
noncomputable abbrev a9(r:List Int):D:= .lst (aJ r)
noncomputable abbrev c_(A:List (List Int)):D:= .tup (A.map bo)
noncomputable def cC(st:ag):List D→List (List Int)→Prop
 | [],[]=>True
 |d::ds,r::rs=>items? st d=some (aJ r)∧cC st ds rs
 |_,_=>False
structure je(st:ag)(d:D)(A:List (List Int)):Prop where
 ex:∃ds,items? st d=some ds∧cC st ds A
theorem cC.len{st:ag}:∀ {ds:List D} {A:List (List Int)},cC st ds A→ds.length=A.length
 | [],[],_=>rfl
 |_::_,_::_,h=>by simp[cC.len h.2]
theorem cC.tup{st:ag}:∀ {A:List (List Int)},cC st (A.map bo) A
 | []=>trivial
 |_::_=>⟨rfl,cC.tup⟩
theorem cC.lst{st:ag}:∀ {A:List (List Int)},cC st (A.map a9) A
 | []=>trivial
 |_::_=>⟨rfl,cC.lst⟩
theorem cC.get{st:ag}:∀ {ds:List D} {A:List (List Int)} {i:Nat} {d:D},cC st ds A→ds[i]?=some d→∃r,A[i]?=some r∧items? st d=some (aJ r)
 |_::_,r::_,0,_,h,e=>by simp at e;subst e;exact⟨r,rfl,h.1⟩
 |_::_,_::_,i+1,d,h,e=>by
  obtain⟨r,e1,e2⟩:=cC.get (i:=i) (d:=d) h.2 (by simpa using e)
  exact⟨r,by simpa using e1,e2⟩
theorem oJ{st:ag}{A:List (List Int)}:je st (c_ A) A:=⟨_,rfl,cC.tup⟩
structure Ext(st st':ag):Prop where
 len:st.length≤st'.length
 same:∀m,m<st.length→st'[m]?=st[m]?
theorem Ext.refl{st:ag}:Ext st st:=⟨Nat.le_refl _,fun _ _=>rfl⟩
theorem Ext.trans{st st1 st2:ag}(a:Ext st st1)(b:Ext st1 st2):Ext st st2:=⟨Nat.le_trans a.len b.len,fun m h=>(b.same m (Nat.lt_of_lt_of_le h a.len)).trans (a.same m h)⟩
theorem Ext.push{st:ag}{c:List Cell}:Ext st (st++c):=⟨by simp,fun m h=>List.getElem?_append_left h⟩
theorem Ext.set{st:ag}{n:Nat}{c:Cell}{st0:ag}(a:Ext st0 st)(h:st0.length≤n):Ext st0 (st.set n c):=⟨by rw[List.length_set];exact a.len,fun m hm=>by rw[List.getElem?_set_ne (by omega)];exact a.same m hm⟩
theorem Ext.items{st st':ag}{d:D}{xs:List D}(x:Ext st st')(e:items? st d=some xs):items? st' d=some xs:=by
 cases d with
 |ref n=>
  unfold items? at e⊢
  simp only at e⊢
  cases q:st[n]? with
  |none=>rw[q]at e;cases e
  |some c=>
   have hn:=(List.getElem?_eq_some_iff.mp q).1
   rw[x.same n hn]
   exact e
 |_=>exact e
theorem jy{r:List Int}{k:Nat}(h:k<r.length):eB (aJ r) (k:Int)=some (.int (r.getD k 0)):=by
 refine ki ?_
 rw[List.getElem?_map,List.getElem?_eq_getElem h,Mx.ba h];rfl
theorem getD_mem{r:List Int}{k:Nat}(h:k<r.length):r.getD k 0∈r:=by rw[Mx.ba h];exact List.getElem_mem _
theorem ints_app{r:List Int}{x:Int}:aJ r++[D.int x]=aJ (r++[x]):=by simp[aJ]
theorem Et{A:List (List Int)}{r:List Int}:A.map bo++[bo r]=(A++[r]).map bo:=by simp
theorem tQ{r s:List Int}{d:D}(h:d∈fY (aJ r) (aJ s)):∃a b,a∈r∧b∈s∧d= .tup [.int a,.int b]:=by
 obtain⟨n,hn,e⟩:=List.mem_iff_getElem.mp h
 have e':(fY (aJ r) (aJ s))[n]?=some d:=by rw[List.getElem?_eq_getElem hn,e]
 obtain⟨x,y,ex,ey,rfl⟩:=tP e'
 rw[List.getElem?_map]at ex ey
 cases q1:r[n]? with
 |none=>rw[q1]at ex;cases ex
 |some a=>
  cases q2:s[n]? with
  |none=>rw[q2]at ey;cases ey
  |some b=>
   rw[q1]at ex
   rw[q2]at ey
   cases ex
   cases ey
   exact⟨a,b,List.mem_of_getElem? q1,List.mem_of_getElem? q2,rfl⟩
theorem kr(n:Nat):(List.replicate n [D.int 0]).flatten=aJ (List.replicate n 0):=by
 induction n with
 |zero=>rfl
 |succ n ih=>rw[List.replicate_succ,List.flatten_cons,ih];rfl
theorem DN{x y:D}{xs ys:List D}:fY (x::xs) (y::ys)= .tup [x,y]::fY xs ys:=rfl
theorem Hj{n:Nat}{r:List Int}:(aJ r).all (pl n)=true:=by
 refine List.all_eq_true.mpr fun d hd=>?_
 obtain⟨i,_,rfl⟩:=List.mem_map.mp hd
 cases n<;>rfl
def az:Addr:=214
noncomputable abbrev fv(b:Bool):Cell:=Cell.tab 194 ⟨93,32,93,66⟩ "Bench.live_rows.<locals>.<lambda>" b
noncomputable abbrev La:List (Addr×Pos×Str):=[(194,⟨93,32,93,66⟩,"Bench.live_rows.<locals>.<lambda>")]
noncomputable def oi:bW:=fun ds st K=>∃d,ds=[d]∧Any st d∧K (.bl (isInt d)) st
noncomputable def kT:List Str:=["thing"]
noncomputable def Ad:DS:=(bz (la (cq pe (af (ae 0) (af (dC (.ty "int")) ao))) (BH (bS (cq pe (af (ae 0) (af (dC (.ty "bool")) ao)))))))
theorem xH:∀ds st K,oi ds st K→ds.length=1∧Ad {nx:=fun _ st'=>K .aE st',rt:=K} (aR kT ds) st:=by
 rintro ds st K ⟨d,rfl,⟨t,ht⟩,k⟩
 refine⟨rfl,?_⟩
 rw[←E8 ht]at k
 have hm:=ph ht
 refine zj ht (by decide) ?_
 simp only[mK,List.mem_cons,List.not_mem_nil,or_false]at hm
 rcases hm with rfl|rfl|rfl|rfl|rfl|rfl
 · exact k
 · refine eO (zj ht (by decide) ?_)
   exact k
 · refine eO (zj ht (by decide) ?_)
   exact k
 · exact k
 · exact k
 · exact k
noncomputable def oB:bW:=fun ds st K=>∃d,ds=[d]∧Any st d∧K (.bl (items? st d).isSome) st
noncomputable def kU:List Str:=["thing"]
noncomputable def z8:DS:=(bz (cq pe (af (ae 0) (af (jr (af (dC (.ty "list")) (af (dC (.ty "tuple")) ao))) ao))))
theorem yw:∀ds st K,oB ds st K→ds.length=1∧z8 {nx:=fun _ st'=>K .aE st',rt:=K} (aR kU ds) st:=by
 rintro ds st K ⟨d,rfl,⟨t,ht⟩,k⟩
 refine⟨rfl,?_⟩
 rw[←DP ht]at k
 have hm:=ph ht
 refine⟨Nat.le_of_ble_eq_true rfl,GI ht rfl (by decide) ?_⟩
 simp only[mK,List.mem_cons,List.not_mem_nil,or_false]at hm
 rcases hm with rfl|rfl|rfl|rfl|rfl|rfl<;>exact k
noncomputable def gd:bW:=fun ds st K=>∃d m,ds=[d,.int m]∧Any st d∧K (.bl (match items? st d with|some xs=>decide ((xs.length:Int)=m)|none=>false)) st
noncomputable def iK:List Str:=["thing","many"]
noncomputable def vR:DS:=(bz (la (aC oB (af (ae 0) ao)) (av gg (cq eC (af (ae 0) ao)) (ae 1))))
theorem uY:∀ds st K,gd ds st K→ds.length=2∧vR {nx:=fun _ st'=>K .aE st',rt:=K} (aR iK ds) st:=by
 rintro ds st K ⟨d,m,rfl,ha,k⟩
 refine⟨rfl,?_⟩
 cases e:items? st d with
 |none=>
  rw[e]at k
  exact⟨d,rfl,ha,by rw[e];exact k⟩
 |some xs=>
  rw[e]at k
  refine⟨d,rfl,ha,?_⟩
  rw[e]
  refine eO (df e (yx ?_))
  exact k
noncomputable def jc:bW:=fun ds st K=>∃d m,ds=[d,.int m]∧Thing st d∧K (.bl (sr st d m)) st
noncomputable def i6:List Str:=["thing","many"]
noncomputable def xf:DS:=(bz (la (aC gd (af (ae 0) (af (ae 1) ao))) (cq uc (af (d7 (eZ (ae 0)) [none] (cw 0) cG (aC oi (af (ae 0) ao))) ao))))
theorem vK:∀ds st K,jc ds st K→ds.length=2∧xf {nx:=fun _ st'=>K .aE st',rt:=K} (aR i6 ds) st:=by
 rintro ds st K ⟨d,m,rfl,ha,k⟩
 refine⟨rfl,?_⟩
 refine⟨d,m,rfl,ha.any,?_⟩
 unfold sr at k
 cases e:items? st d with
 |none=>rw[e]at k;exact k
 |some xs=>
  rw[e]at k
  obtain⟨h1,h2⟩:=ha.au xs e
  by_cases hl:(xs.length:Int)=m
  · simp only[hl,decide_true,Bool.true_and]at k⊢
    rw[if_pos trivial]
    refine qF e fun ok aL=>?_
    refine⟨h2,sF (g:=fun x=> .bl (isInt x)) aL xs [] (fun x hx K' q=>⟨_,rfl,⟨x,rfl,h1 x hx,q⟩⟩) ?_⟩
    refine zi (wH xs) ?_
    simpa using k
  · simp only[hl,decide_false,Bool.false_and]at k⊢
    exact k
noncomputable def pY:bW:=fun ds st K=>∃a b,ds=[.int a,.int b]∧K (.int ((Nat.gcd a.natAbs b.natAbs:Nat):Int)) st
noncomputable def pd:List Str:=["one","other","great","small","rest"]
noncomputable def Ee:DS:=(aH (a_ 2 (cq pF (af (ae 0) ao)))
 (aH (a_ 3 (cq pF (af (ae 1) ao)))
 (aH (uW (bS (av nE (ae 3) (dC (.int 0)))) (aH (a_ 4 (av g6 (ae 2) (ae 3)))
 (aH (a_ 2 (ae 3))
 (a_ 3 (ae 4)))))
 (bz (ae 2)))))
theorem EB{a:Int}{m:Nat}(h:a.natAbs<2^m):Builtin.Int.intBits a≤m:=by
 unfold Builtin.Int.intBits
 by_cases h0:a.natAbs=0
 · have:a=0:=by omega
   subst this
   simp
 · have:=(Nat.log2_lt h0).mpr h
   split<;>omega
theorem dG{a b:Int}{m n:Nat}(ha:a.natAbs≤2^m)(hb:b.natAbs≤2^n)(h:m+n≤130000000):IntMulOk a b:=by
 have q:∀ {x:Int} {k:Nat},x.natAbs≤2^k→Builtin.Int.intBits x≤k+1:=fun{x k} h=>EB (Nat.lt_of_le_of_lt h (Nat.pow_lt_pow_right (by decide) (Nat.lt_succ_self k)))
 have h1:=q ha
 have h2:=q hb
 have e:(2:Nat)^27=134217728:=by decide
 have z:Builtin.Int.intTooBig (Builtin.Int.intBits a+Builtin.Int.intBits b)=false:=by
  unfold Builtin.Int.intTooBig bitsLine
  exact decide_eq_false (by omega)
 unfold IntMulOk
 rw[z]
 simp
theorem Ek(a b:Nat):(a:Int).fmod (b:Int)=((a%b:Nat):Int):=by
 rw[Int.fmod_eq_emod_of_nonneg _ (Int.natCast_nonneg b)]
 exact(Int.natCast_emod a b).symm
theorem CP:∀ds st K,pY ds st K→ds.length=2∧Ee {nx:=fun _ st'=>K .aE st',rt:=K} (aR pd ds) st:=by
 rintro ds st K ⟨a,b,rfl,k⟩
 refine⟨rfl,?_⟩
 refine qZ (qZ ?_)
 refine⟨fun m σ st'=>∃(g s:Nat) (r:Option D),σ=[some (.int a),some (.int b),some (.int g),some (.int s),r]∧st'=st∧Nat.gcd g s=Nat.gcd a.natAbs b.natAbs∧s=m,⟨b.natAbs,a.natAbs,b.natAbs,none,?_,rfl,rfl,rfl⟩,?_⟩
 · rfl
 · rintro m σ st' ⟨g,s,r,rfl,rfl,hg,rfl⟩
   refine ne2 (fun h=>eO ?_) fun h=>?_
   · refine lg h ⟨g%s,Nat.mod_lt _ (by omega),s,g%s,some (.int ((g%s:Nat):Int)),?_,rfl,?_,rfl⟩
     · rw[Ek];rfl
     · rw[Nat.gcd_comm,←Nat.gcd_rec,Nat.gcd_comm];exact hg
   · have:s=0:=by omega
     subst this
     rw[Nat.gcd_zero_right]at hg
     subst hg
     exact k
noncomputable abbrev fP(q:Rat):D:= .tup [.int q.num,.int ((q.den:Nat):Int)]
noncomputable def nv:bW:=fun ds st K=>∃(t b:Int),ds=[.int t,.int b]∧b≠0∧K (fP (Rat.divInt t b)) st
noncomputable def uG:List Str:=["top","bottom","shrink"]
noncomputable def JN:DS:=(aH (a_ 2 (aC pY (af (ae 0) (af (ae 1) ao))))
 (aH (eY (bS (av p_ (ae 1) (dC (.int 0)))) (a_ 2 (nM iU (ae 2))) dM)
 (bz (jr (af (av lG (ae 0) (ae 2)) (af (av lG (ae 1) (ae 2)) ao))))))
theorem qE{g t:Int}(hg:g≠0)(h:g∣t):t.fdiv (-g)=(-1*t).fdiv g:=by
 obtain⟨c,rfl⟩:=h
 have e1:(g*c).fdiv (-g)= -c:=by
  have:g*c=(-g)*(-c):=by rw[Int.neg_mul_neg]
  rw[this,Int.mul_fdiv_cancel_left _ (by omega)]
 have e2:(-1*(g*c)).fdiv g= -c:=by
  have: -1*(g*c)=g*(-c):=by rw[Int.neg_mul,Int.one_mul,Int.mul_neg]
  rw[this,Int.mul_fdiv_cancel_left _ hg]
 rw[e1,e2]
theorem DY(t b:Int):((Nat.gcd t.natAbs b.natAbs:Nat):Int)∣t:=Int.ofNat_dvd_left.mpr (Nat.gcd_dvd_left _ _)
theorem Dh(t b:Int):((Nat.gcd t.natAbs b.natAbs:Nat):Int)∣b:=Int.ofNat_dvd_left.mpr (Nat.gcd_dvd_right _ _)
theorem HQ{t b:Int}(hb:b≠0):D.tup [.int (((if b<0 then(-1:Int)else 1)*t).fdiv ((Nat.gcd t.natAbs b.natAbs:Nat):Int)),.int (((if b<0 then(-1:Int)else 1)*b).fdiv ((Nat.gcd t.natAbs b.natAbs:Nat):Int))]=fP (Rat.divInt t b):=by
 unfold fP
 have hg:(b.gcd t:Nat)=Nat.gcd t.natAbs b.natAbs:=by unfold Int.gcd;rw[Nat.gcd_comm]
 have hs:(if b<0 then(-1:Int)else 1)=b.sign:=by
  rcases Int.lt_trichotomy b 0 with h|h|h
  · rw[if_pos h,Int.sign_eq_neg_one_of_neg h]
  · exact absurd h hb
  · rw[if_neg (by omega),Int.sign_eq_one_of_pos h]
 have e1:(Rat.divInt t b).num=((if b<0 then(-1:Int)else 1)*t).fdiv ((Nat.gcd t.natAbs b.natAbs:Nat):Int):=by
  rw[Rat.num_divInt,hs,hg,Int.fdiv_eq_ediv_of_nonneg _ (Int.natCast_nonneg _)]
 have e2:(((Rat.divInt t b).den:Nat):Int)=((if b<0 then(-1:Int)else 1)*b).fdiv ((Nat.gcd t.natAbs b.natAbs:Nat):Int):=by
  rw[Rat.den_divInt,if_neg hb,hs,hg,Int.fdiv_eq_ediv_of_nonneg _ (Int.natCast_nonneg _),Int.natCast_ediv]
  congr 1
  rw[Int.sign_mul_self]
 rw[e1,e2]
theorem Ib:∀ds st K,nv ds st K→ds.length=2∧JN {nx:=fun _ st'=>K .aE st',rt:=K} (aR uG ds) st:=by
 rintro ds st K ⟨t,b,rfl,hb,k⟩
 refine⟨rfl,?_⟩
 refine⟨t,b,rfl,?_⟩
 have hg0:Nat.gcd t.natAbs b.natAbs≠0:=fun z=>by
  have:=Nat.eq_zero_of_gcd_eq_zero_right z
  omega
 have hne:((Nat.gcd t.natAbs b.natAbs:Nat):Int)≠0:=by omega
 rw[←HQ hb]at k
 refine K9 (fun h=>eO ?_) fun h=>?_
 · rw[if_pos h,←qE hne (DY t b),←qE hne (Dh t b)]at k
   exact iY (kC (by omega) (kC (by omega) ⟨Nat.le_of_ble_eq_true rfl,k⟩))
 · rw[if_neg (by omega),Int.one_mul,Int.one_mul]at k
   exact kC hne (kC hne ⟨Nat.le_of_ble_eq_true rfl,k⟩)
structure Fq(st:ag)(d:D)(q:Rat)(m:Nat):Prop where
 au:items? st d=some [.int q.num,.int ((q.den:Nat):Int)]
 sz:Mx.Sz q m
theorem Fq.b{st:ag}{d:D}{q:Rat}{m:Nat}(h:Fq st d q m):(((q.den:Nat):Int)).natAbs≤2^m:=h.sz.den
theorem Fq.of{st:ag}{q:Rat}{m:Nat}(h:Mx.Sz q m):Fq st (fP q) q m:=⟨rfl,h⟩
noncomputable def yR:bW:=fun ds st K=>∃x y p q a b,ds=[x,y]∧Fq st x p a∧Fq st y q b∧a+b≤130000000∧K (fP (p+q)) st
noncomputable def uA:List Str:=["one","other"]
noncomputable def JH:DS:=(bz (aC nv (af (av cN (av cF (av aY (ae 0) (dC (.int 0))) (av aY (ae 1) (dC (.int 1)))) (av cF (av aY (ae 1) (dC (.int 0))) (av aY (ae 0) (dC (.int 1))))) (af (av cF (av aY (ae 0) (dC (.int 1))) (av aY (ae 1) (dC (.int 1)))) ao))))
theorem HH:∀ds st K,yR ds st K→ds.length=2∧JH {nx:=fun _ st'=>K .aE st',rt:=K} (aR uA ds) st:=by
 rintro ds st K ⟨x,y,p,q,a,b,rfl,X,Y,h,k⟩
 refine⟨rfl,?_⟩
 have h':b+a≤130000000:=by omega
 rw[Mx.add_eq]at k
 exact aB X.au rfl (aB Y.au rfl (dE (dG X.sz.num Y.b h) (aB Y.au rfl (aB X.au rfl (dE (dG Y.sz.num X.b h') (dH (aB X.au rfl (aB Y.au rfl (dE (dG X.b Y.b h) ⟨_,_,rfl,Int.mul_ne_zero (Mx.den_nz p) (Mx.den_nz q),k⟩)))))))))
noncomputable def vq:bW:=fun ds st K=>∃x y p q a b,ds=[x,y]∧Fq st x p a∧Fq st y q b∧a+b≤130000000∧K (fP (p-q)) st
noncomputable def r8:List Str:=["one","other"]
noncomputable def GA:DS:=(bz (aC nv (af (av lS (av cF (av aY (ae 0) (dC (.int 0))) (av aY (ae 1) (dC (.int 1)))) (av cF (av aY (ae 1) (dC (.int 0))) (av aY (ae 0) (dC (.int 1))))) (af (av cF (av aY (ae 0) (dC (.int 1))) (av aY (ae 1) (dC (.int 1)))) ao))))
theorem Fl:∀ds st K,vq ds st K→ds.length=2∧GA {nx:=fun _ st'=>K .aE st',rt:=K} (aR r8 ds) st:=by
 rintro ds st K ⟨x,y,p,q,a,b,rfl,X,Y,h,k⟩
 refine⟨rfl,?_⟩
 have h':b+a≤130000000:=by omega
 rw[Mx.sub_eq]at k
 exact aB X.au rfl (aB Y.au rfl (dE (dG X.sz.num Y.b h) (aB Y.au rfl (aB X.au rfl (dE (dG Y.sz.num X.b h') (lB (aB X.au rfl (aB Y.au rfl (dE (dG X.b Y.b h) ⟨_,_,rfl,Int.mul_ne_zero (Mx.den_nz p) (Mx.den_nz q),k⟩)))))))))
noncomputable def vY:bW:=fun ds st K=>∃x y p q a b,ds=[x,y]∧Fq st x p a∧Fq st y q b∧a+b≤130000000∧K (fP (p*q)) st
noncomputable def rW:List Str:=["one","other"]
noncomputable def GH:DS:=(bz (aC nv (af (av cF (av aY (ae 0) (dC (.int 0))) (av aY (ae 1) (dC (.int 0)))) (af (av cF (av aY (ae 0) (dC (.int 1))) (av aY (ae 1) (dC (.int 1)))) ao))))
theorem EI:∀ds st K,vY ds st K→ds.length=2∧GH {nx:=fun _ st'=>K .aE st',rt:=K} (aR rW ds) st:=by
 rintro ds st K ⟨x,y,p,q,a,b,rfl,X,Y,h,k⟩
 refine⟨rfl,?_⟩
 rw[Mx.mul_eq]at k
 exact aB X.au rfl (aB Y.au rfl (dE (dG X.sz.num Y.sz.num h) (aB X.au rfl (aB Y.au rfl (dE (dG X.b Y.b h) ⟨_,_,rfl,Int.mul_ne_zero (Mx.den_nz p) (Mx.den_nz q),k⟩)))))
noncomputable def yZ:bW:=fun ds st K=>∃x y p q a b,ds=[x,y]∧Fq st x p a∧Fq st y q b∧a+b≤130000000∧q.num≠0∧K (fP (p/q)) st
noncomputable def vb:List Str:=["one","other"]
noncomputable def Lg:DS:=(bz (aC nv (af (av cF (av aY (ae 0) (dC (.int 0))) (av aY (ae 1) (dC (.int 1)))) (af (av cF (av aY (ae 0) (dC (.int 1))) (av aY (ae 1) (dC (.int 0)))) ao))))
theorem Hq:∀ds st K,yZ ds st K→ds.length=2∧Lg {nx:=fun _ st'=>K .aE st',rt:=K} (aR vb ds) st:=by
 rintro ds st K ⟨x,y,p,q,a,b,rfl,X,Y,h,hq,k⟩
 refine⟨rfl,?_⟩
 rw[Mx.div_eq]at k
 exact aB X.au rfl (aB Y.au rfl (dE (dG X.sz.num Y.b h) (aB X.au rfl (aB Y.au rfl (dE (dG X.b Y.sz.num h) ⟨_,_,rfl,Int.mul_ne_zero (Mx.den_nz p) hq,k⟩)))))
noncomputable def ka:bW:=fun ds st K=>∃n:Int,ds=[.int n]∧K (fP (n:Rat)) st
noncomputable def rO:List Str:=["n"]
noncomputable def Hu:DS:=(bz (jr (af (ae 0) (af (dC (.int 1)) ao))))
theorem Ei:∀ds st K,ka ds st K→ds.length=1∧Hu {nx:=fun _ st'=>K .aE st',rt:=K} (aR rO ds) st:=by
 rintro ds st K ⟨n,rfl,k⟩
 exact⟨rfl,Nat.le_of_ble_eq_true rfl,k⟩
noncomputable def qR:bW:=fun ds st K=>∃q:Rat,ds=[fP q]∧K (.bl true) st
noncomputable def nU:List Str:=["thing"]
noncomputable def CN:DS:=(bz (la (aC jc (af (ae 0) (af (dC (.int 2)) ao))) (la (av oX (av aY (ae 0) (dC (.int 1))) (dC (.int 0))) (av gg (aC pY (af (av aY (ae 0) (dC (.int 0))) (af (av aY (ae 0) (dC (.int 1))) ao))) (dC (.int 1))))))
theorem u0{st:ag}{r:List Int}(h:r.length≤1000):Thing st (bo r):=⟨⟨_,rfl⟩,fun xs hx=>by
 have e:xs=aJ r:=by cases hx;rfl
 subst e
 refine⟨fun x hx=>?_,cp (by rw[List.length_map];exact h)⟩
 obtain⟨i,_,rfl⟩:=List.mem_map.mp hx
 exact⟨_,rfl⟩⟩
theorem BY:∀ds st K,qR ds st K→ds.length=1∧CN {nx:=fun _ st'=>K .aE st',rt:=K} (aR nU ds) st:=by
 rintro ds st K ⟨q,rfl,k⟩
 refine⟨rfl,?_⟩
 refine⟨_,2,rfl,u0 (r:=[q.num,((q.den:Nat):Int)]) (Nat.le_of_ble_eq_true rfl),?_⟩
 have hd:=q.den_pos
 refine eO (aB rfl rfl (MT (by omega) (eO (aB rfl rfl (aB rfl rfl ⟨_,_,rfl,?_⟩)))))
 have hg:Nat.gcd q.num.natAbs ((q.den:Nat):Int).natAbs=1:=q.reduced
 rw[hg]
 exact eqT rfl k
noncomputable def nQ:bW:=fun ds st K=>∃(d:D) (A:List (List Int)),ds=[d]∧je st d A∧A.length≤1000∧K (c_ A) st
noncomputable def nK:List Str:=["rows"]
noncomputable def C7:DS:=(bz (cq dD (af (d7 (eZ (ae 0)) [none] (cw 0) cG (cq dD (af (ae 0) ao))) ao)))
theorem mE{tg:fk}{te:DE}{ok:ag→Prop}{σc:bV}{st:ag}{K:List D→ag→Prop}{ds:List D}{A:List (List Int)}(f:List Int→D)(aL:ok st)(hr:cC st ds A)(hx:∀d r,r∈A→items? st d=some (aJ r)→∀K',K' (f r) st→∃σ2,tg d σc=some σ2∧te σ2 st K')(k:K (A.map f) st):cO tg cG te ok σc ds [] st K:=by
 refine ip (fun rest acc st'=>∃(A1 A2:List (List Int)),st=st'∧A1++A2=A∧cC st rest A2∧acc=A1.map f) ?_ ?_ _ _ _ ⟨[],A,rfl,rfl,hr,rfl⟩
 · rintro acc st' ⟨A1,A2,rfl,he,h,rfl⟩
   match A2,h with
   | [],_=>
     rw[List.append_nil]at he
     subst he
     exact⟨aL,k⟩
 · rintro d rest acc st' ⟨A1,A2,rfl,he,h,rfl⟩ next
   match A2,h with
   |r::A2,h=>
    obtain⟨σ2,e2,q⟩:=hx d r (by rw[←he];simp) h.1 (fun y st2=>cO tg cG te ok σc rest (A1.map f++[y]) st2 K) (next _ _ ⟨A1++[r],A2,rfl,by rw[←he];simp,h.2,by simp⟩)
    exact⟨aL,σ2,e2,q⟩
theorem By:∀ds st K,nQ ds st K→ds.length=1∧C7 {nx:=fun _ st'=>K .aE st',rt:=K} (aR nK ds) st:=by
 rintro ds st K ⟨d,A,rfl,⟨da,hd,ra⟩,hl,k⟩
 refine⟨rfl,?_⟩
 refine qF hd fun ok aL=>⟨cp (by rw[ra.len];exact hl),?_⟩
 refine mE bo aL ra (fun e r hr he K' q=>⟨_,rfl,di he q⟩) ?_
 exact di rfl k
noncomputable def ky:bW:=fun ds st K=>∃x y t r s,ds=[x,.int t,y]∧items? st x=some (aJ r)∧items? st y=some (aJ s)∧r.length≤1000∧(∀b∈s,IntMulOk t b)∧K (a9 (Mx.eP r t s)) st
noncomputable def rG:List Str:=["row","times","other"]
noncomputable def HE:DS:=(bz (d7 (tN (af (ae 0) (af (ae 2) ao))) [none,none,some 1] (jd 0 1) cG (av cN (ae 0) (av cF (ae 2) (ae 1)))))
theorem qY{t:Int}:∀(r s:List Int),(fY (aJ r) (aJ s)).map (fun d=>match d with| .tup [.int a,.int b]=> .int (a+t*b)|_=> .aE)=aJ (Mx.eP r t s)
 | [],_=>rfl
 |_::_,[]=>rfl
 |a::r,b::s=>by
  have:=qY (t:=t) r s
  unfold fY Mx.eP at this⊢
  simp only[aJ,List.map_cons,List.zip_cons_cons,List.zipWith_cons_cons]at this⊢
  rw[this]
theorem Ej:∀ds st K,ky ds st K→ds.length=3∧HE {nx:=fun _ st'=>K .aE st',rt:=K} (aR rG ds) st:=by
 rintro ds st K ⟨x,y,t,r,s,rfl,hx,hy,hl,hm,k⟩
 refine⟨rfl,?_⟩
 refine qz hx hy fun ok aL=>⟨cp (by rw[pJ];simp;omega),?_⟩
 refine comp_map (g:=fun d=>match d with| .tup [.int a,.int b]=> .int (a+t*b)|_=> .aE) (aL st hx hy) _ (fun d hd K' q=>?_) ?_
 · obtain⟨a,b,ha,hb,rfl⟩:=tQ hd
   exact⟨_,rfl,dE (hm b hb) (dH q)⟩
 · rw[qY];exact k
noncomputable def pU:bW:=fun ds st K=>∃(x y:D) (n:Nat) (ws:List Int) (A:List (List Int)),ds=[x,y,.int n]∧items? st x=some (aJ ws)∧je st y A∧(∀r∈A,r.length=n)∧n≤1000∧(∀w∈ws,∀r∈A,∀b∈r,IntMulOk w b)∧K (bo (Mx.eV ws A (List.replicate n 0))) st
noncomputable def pq:List Str:=["weights","rows","wide","total","weight","row"]
noncomputable def EU:DS:=(aH (a_ 3 (av cF (oy (af (dC (.int 0)) ao)) (ae 2)))
 (aH (jj (tN (af (ae 0) (af (ae 1) ao))) (jd 4 5) (a_ 3 (aC ky (af (ae 3) (af (ae 4) (af (ae 5) ao))))))
 (bz (cq dD (af (ae 3) ao)))))
theorem CD:∀ds st K,pU ds st K→ds.length=3∧EU {nx:=fun _ st'=>K .aE st',rt:=K} (aR pq ds) st:=by
 rintro ds st K ⟨x,y,n,ws,A,rfl,hx,⟨dr,hy,hr⟩,hw,hn,hm,k⟩
 refine⟨rfl,?_⟩
 refine KC (Nat.le_of_ble_eq_true rfl) (vp ⟨by omega,by omega,cp (by simp;omega)⟩ ?_)
 rw[Int.toNat_natCast,kr]
 refine qz hx hy fun ok aL=>?_
 refine gM (fun rest σ st'=>∃(v4 v5:Option D) (ws':List Int) (ds':List D) (A':List (List Int)) (acc:List Int),st=st'∧rest=fY (aJ ws') ds'∧cC st ds' A'∧σ=[some x,some y,some (.int n),some (a9 acc),v4,v5]∧acc.length=n∧(∀r∈A',r∈A)∧(∀w∈ws',w∈ws)∧Mx.eV ws' A' acc=Mx.eV ws A (List.replicate n 0)) ?_ ?_ _ _ _
  ⟨none,none,ws,dr,A,List.replicate n 0,rfl,rfl,hr,rfl,by simp,fun _ h=>h,fun _ h=>h,rfl⟩
 · rintro σ st1 ⟨v4,v5,ws',ds',A',acc,rfl,he,hr',rfl,hl,_,_,hs⟩
   refine⟨aL _ hx hy,di rfl ?_⟩
   have:Mx.eV ws' A' acc=acc:=by
    match ws',ds',A',hr',he with
    | [],_,_,_,_=>unfold Mx.eV;rfl
    |_::_,[],[],_,_=>unfold Mx.eV;rfl
    |_::_,_::_,_::_,_,he=>cases he
   rw[this]at hs
   rw[hs];exact k
 · rintro d rest σ st1 ⟨v4,v5,ws',ds',A',acc,rfl,he,hr',rfl,hl,ha,hw',hs⟩ next
   match ws',ds',A',hr',he with
   |w::ws',e::ds',r::A',hr',he=>
    simp only[aJ,List.map_cons,DN,List.cons.injEq]at he
    obtain⟨rfl,rfl⟩:=he
    refine⟨aL _ hx hy,_,rfl,?_⟩
    have hrl:=hw r (ha r List.mem_cons_self)
    refine⟨_,_,_,acc,r,rfl,rfl,hr'.1,by omega,fun b hb=>hm w (hw' w List.mem_cons_self) r (ha r List.mem_cons_self) b hb,?_⟩
    refine next _ _ ⟨_,_,ws',ds',A',Mx.eP acc w r,rfl,rfl,hr'.2,rfl,by rw[Mx.kl (by omega)];exact hl,fun q hq=>ha q (List.mem_cons_of_mem _ hq),fun q hq=>hw' q (List.mem_cons_of_mem _ hq),?_⟩
    rw[←hs];rfl
   | [],_,_,_,he=>cases he
   |_::_,[],[],_,he=>cases he
noncomputable def tj:bW:=fun ds st K=>∃(d:D) (A:List (List Int)) (j:Nat),ds=[d,.int j]∧je st d A∧(∀r∈A,j<r.length)∧A.length≤1000∧K (bo (Mx.vn A j)) st
noncomputable def pW:List Str:=["rows","place"]
noncomputable def E7:DS:=(bz (cq dD (af (d7 (eZ (ae 0)) [none,some 1] (cw 0) cG (av aY (ae 0) (ae 1))) ao)))
theorem C_{tg:fk}{te:DE}{ok:ag→Prop}{σc:bV}{st:ag}{K:List D→ag→Prop}{ds:List D}{A:List (List Int)}(f:List Int→D)(aL:ok st)(hr:cC st ds A)(hx:∀d r,r∈A→items? st d=some (aJ r)→∀K',K' (f r) st→∃σ2,tg d σc=some σ2∧te σ2 st K')(k:K (A.map f) st):cO tg cG te ok σc ds [] st K:=by
 refine ip (fun rest acc st'=>∃(A1 A2:List (List Int)),st=st'∧A1++A2=A∧cC st rest A2∧acc=A1.map f) ?_ ?_ _ _ _ ⟨[],A,rfl,rfl,hr,rfl⟩
 · rintro acc st' ⟨A1,A2,rfl,he,h,rfl⟩
   match A2,h with
   | [],_=>
     rw[List.append_nil]at he
     subst he
     exact⟨aL,k⟩
 · rintro d rest acc st' ⟨A1,A2,rfl,he,h,rfl⟩ next
   match A2,h with
   |r::A2,h=>
    obtain⟨σ2,e2,q⟩:=hx d r (by rw[←he];simp) h.1 (fun y st2=>cO tg cG te ok σc rest (A1.map f++[y]) st2 K) (next _ _ ⟨A1++[r],A2,rfl,by rw[←he];simp,h.2,by simp⟩)
    exact⟨aL,σ2,e2,q⟩
theorem Dp(A:List (List Int))(j:Nat):A.map (fun r=>D.int (r.getD j 0))=aJ (Mx.vn A j):=by unfold Mx.vn aJ;rw[List.map_map];rfl
theorem Dc:∀ds st K,tj ds st K→ds.length=2∧E7 {nx:=fun _ st'=>K .aE st',rt:=K} (aR pW ds) st:=by
 rintro ds st K ⟨d,A,j,rfl,⟨da,hd,ra⟩,hj,hl,k⟩
 refine⟨rfl,?_⟩
 refine qF hd fun ok aL=>⟨cp (by rw[ra.len];exact hl),?_⟩
 refine C_ (fun r=> .int (r.getD j 0)) aL ra (fun e r hr he K' q=>⟨_,rfl,aB he (jy (hj r hr)) q⟩) ?_
 rw[Dp]
 exact di rfl k
noncomputable def lV:bW:=fun ds st K=>∃(d:D) (A:List (List Int)) (n:Nat),ds=[d,.int n]∧je st d A∧(∀r∈A,r.length=n)∧A.length≤1000∧n≤1000∧K (c_ (Mx.Gx A n)) st
noncomputable def i_:List Str:=["rows","wide"]
noncomputable def wY:DS:=(bz (cq dD (af (d7 (fV (af (ae 1) ao)) [none,some 0] (cw 0) cG (aC tj (af (ae 1) (af (ae 0) ao)))) ao)))
theorem Ex(A:List (List Int))(n:Nat):(List.range n).map (fun j=>bo (Mx.vn A j))=(Mx.Gx A n).map bo:=by unfold Mx.Gx;rw[List.map_map];rfl
theorem vQ:∀ds st K,lV ds st K→ds.length=2∧wY {nx:=fun _ st'=>K .aE st',rt:=K} (aR i_ ds) st:=by
 rintro ds st K ⟨d,A,n,rfl,hd,hw,hl,hn,k⟩
 refine⟨rfl,?_⟩
 refine ju ⟨by omega,by omega⟩ ⟨cp (by rw[fC];omega),?_⟩
 rw[Int.toNat_natCast]
 refine pv (fun j=>bo (Mx.vn A j)) n (fun i hi K' q=>⟨_,rfl,d,A,i,rfl,hd,fun r hr=>by rw[hw r hr];exact hi,hl,q⟩) ?_
 rw[Ex]
 exact di rfl k
noncomputable def pL:bW:=fun ds st K=>∃(n i:Nat),ds=[.int n,.int i]∧n≤1000∧K (bo (Mx.jH n i)) st
noncomputable def mn:List Str:=["n","place"]
noncomputable def Bz:DS:=(bz (cq dD (af (d7 (fV (af (ae 0) ao)) [none,some 1] (cw 0) cG (Jz (bS (av gg (ae 0) (ae 1))) (dC (.int 1)) (dC (.int 0)))) ao)))
theorem zO:∀ds st K,pL ds st K→ds.length=2∧Bz {nx:=fun _ st'=>K .aE st',rt:=K} (aR mn ds) st:=by
 rintro ds st K ⟨n,i,rfl,hn,k⟩
 refine⟨rfl,?_⟩
 refine ju ⟨by omega,by omega⟩ ⟨cp (by rw[fC];omega),?_⟩
 rw[Int.toNat_natCast]
 refine pv (fun j=> .int (Mx.dl j i)) n (fun j hj K' q=>⟨_,rfl,?_⟩) ?_
 · refine eq2 (fun h=>eO ?_) fun h=>?_
   · have:j=i:=by omega
     subst this
     rw[Mx.d9]at q;exact q
   · rw[Mx.eG (by omega)]at q;exact q
 · have:(List.range n).map (fun j=>D.int (Mx.dl j i))=aJ (Mx.jH n i):=by unfold Mx.jH aJ;rw[List.map_map];rfl
   rw[this]
   exact di rfl k
noncomputable def kM:bW:=fun ds st K=>∃(n:Nat),ds=[.int n]∧n≤1000∧K (c_ (Mx.units n)) st
noncomputable def kR:List Str:=["n"]
noncomputable def zQ:DS:=(bz (cq dD (af (d7 (fV (af (ae 0) ao)) [none,some 0] (cw 0) cG (aC pL (af (ae 1) (af (ae 0) ao)))) ao)))
theorem ye:∀ds st K,kM ds st K→ds.length=1∧zQ {nx:=fun _ st'=>K .aE st',rt:=K} (aR kR ds) st:=by
 rintro ds st K ⟨n,rfl,hn,k⟩
 refine⟨rfl,?_⟩
 refine ju ⟨by omega,by omega⟩ ⟨cp (by rw[fC];omega),?_⟩
 rw[Int.toNat_natCast]
 refine pv (fun i=>bo (Mx.jH n i)) n (fun i hi K' q=>⟨_,rfl,n,i,rfl,hn,q⟩) ?_
 have:(List.range n).map (fun i=>bo (Mx.jH n i))=(Mx.units n).map bo:=by unfold Mx.units;rw[List.map_map];rfl
 rw[this]
 exact di rfl k
noncomputable def iN:List Int→Nat→Option Nat
 | [],_=>none
 |x::xs,i=>if x=0 then iN xs (i+1)else some i
noncomputable def ij(r:List Int):Option Nat:=iN r 0
noncomputable def iD(r:List Int):D:=match ij r with
 |some k=> .int (k:Int)
 |none=> .aE
noncomputable def ix:bW:=fun ds st K=>∃(d:D) (r:List Int),ds=[d]∧items? st d=some (aJ r)∧K (iD r) st
noncomputable def nP:List Str:=["row","place","number"]
noncomputable def D1:DS:=(aH (jj (BK (af (ae 0) ao)) (jd 1 2) (eY (bS (av nE (ae 2) (dC (.int 0)))) (bz (ae 1)) dM))
 (bz (dC .aE)))
theorem BI:∀ds st K,ix ds st K→ds.length=1∧D1 {nx:=fun _ st'=>K .aE st',rt:=K} (aR nP ds) st:=by
 rintro ds st K ⟨d,r,rfl,hd,k⟩
 refine⟨rfl,?_⟩
 refine HV hd fun ok aL=>?_
 refine gM (fun rest σ st'=>st'=st∧∃(v1 v2:Option D) (s:List Int) (i:Nat),σ=[some d,v1,v2]∧rest=i7 i (aJ s)∧iN r 0=iN s i) ?_ ?_ _ _ _ ⟨rfl,none,none,r,0,rfl,rfl,rfl⟩
 · rintro σ st' ⟨rfl,v1,v2,s,i,rfl,hr,hl⟩
   match s,hr with
   | [],_=>
     refine⟨aL _ hd,?_⟩
     have:iD r= .aE:=by unfold iD ij;rw[hl];rfl
     rw[this]at k;exact k
 · rintro x rest σ st' ⟨rfl,v1,v2,s,i,rfl,hr,hl⟩ next
   match s,hr,hl with
   |y::s,hr,hl=>
    simp only[aJ,List.map_cons,i7,List.cons.injEq]at hr
    obtain⟨rfl,rfl⟩:=hr
    refine⟨aL _ hd,_,rfl,?_⟩
    refine ne2 (fun h=>eO ?_) fun h=>?_
    · have:iD r= .int (i:Int):=by unfold iD ij;rw[hl];unfold iN;rw[if_neg h]
      rw[this]at k;exact k
    · refine next _ _ ⟨rfl,_,_,s,i+1,rfl,rfl,?_⟩
      rw[hl];unfold iN;rw[if_pos h];cases s<;>rfl
   | [],hr,_=>cases hr
theorem xJ:∀(r:List Int) (i l:Nat),(∀c,c<l→r.getD c 0=0)→r.getD l 0≠0→iN r i=some (i+l)
 | [],_,_,_,h=>(h rfl).elim
 |x::r,i,0,_,h=>by
  unfold iN
  rw[if_neg (show¬x=0 from h)];rfl
 |x::r,i,l+1,hz,h=>by
  unfold iN
  rw[if_pos (show x=0 from hz 0 (Nat.zero_lt_succ _)),xJ r (i+1) l (fun c hc=>hz (c+1) (Nat.succ_lt_succ hc)) h,Nat.add_right_comm]
  rfl
theorem o9:∀(r:List Int) (i:Nat),iN r i=none→∀c,r.getD c 0=0
 | [],_,_,_=>rfl
 |x::r,i,h,c=>by
  unfold iN at h
  split at h
  · cases c with
    |zero=>assumption
    |succ c=>exact o9 r (i+1) h c
  · cases h
theorem Dd{r:List Int}{l:Nat}(h:∀c,c<l→r.getD c 0=0)(h':r.getD l 0≠0):ij r=some l:=by
 have:=xJ r 0 l h h'
 rw[Nat.zero_add]at this
 exact this
noncomputable def h_:bW:=fun ds st K=>∃(t d:Int),ds=[.int t,.int d]∧d≠0∧K (.int (Mx.qn t d)) st
noncomputable def fB:List Str:=["top","bottom"]
noncomputable def qG:DS:=(bz (av lG (av cN (av cF (dC (.int 2)) (ae 0)) (ae 1)) (av cF (dC (.int 2)) (ae 1))))
theorem qg:∀ds st K,h_ ds st K→ds.length=2∧qG {nx:=fun _ st'=>K .aE st',rt:=K} (aR fB ds) st:=by
 rintro ds st K ⟨t,d,rfl,hd,k⟩
 exact⟨rfl,dE (iP (by decide) (by decide)) (dH (dE (iP (by decide) (by decide)) (kC (by omega) k)))⟩
noncomputable def i4:bW:=fun ds st K=>∃(n k o:Nat) (A:List (List Int)),ds=[.ref n,.int k,.int o]∧st[n]?=some (.lst (A.map a9))∧k<A.length∧o<A.length∧K (.ref st.length) (st++[.lst ((Mx.bw A k o).map a9)])
noncomputable def kY:List Str:=["rows","k","other","order"]
noncomputable def zM:DS:=(aH (a_ 3 (cq rp (af (ae 0) ao)))
 (aH (eA (ae 3) (ae 1) (av aY (ae 0) (ae 2)))
 (aH (eA (ae 3) (ae 2) (av aY (ae 0) (ae 1)))
 (bz (ae 3)))))
theorem du{A:List (List Int)}{j:Nat}(h:j<A.length):eB (A.map a9) (j:Int)=some (a9 (A.getD j [])):=by
 refine ki ?_
 rw[List.getElem?_map,List.getElem?_eq_getElem h,Mx.ba h];rfl
theorem ll{m k:Nat}(h:k<m):j9 m (k:Int)=some k:=by
 have:=Jw (i:=(k:Int)) (m:=m) (by omega) (by omega)
 rw[Int.toNat_natCast]at this
 exact this
theorem gS{A:List (List Int)}{k:Nat}{r:List Int}:(A.map a9).set k (a9 r)=(A.set k r).map a9:=by rw[List.map_set]
theorem yU:∀ds st K,i4 ds st K→ds.length=3∧zM {nx:=fun _ st'=>K .aE st',rt:=K} (aR kY ds) st:=by
 rintro ds st K ⟨n,k,o,A,rfl,e,hk,ho,kk⟩
 refine⟨rfl,?_⟩
 have hn:n<st.length:=(List.getElem?_eq_some_iff.mp e).1
 refine Ft (aI e) ?_
 have e1:(st++[Cell.lst (A.map a9)])[n]?=some (.lst (A.map a9)):=by rw[List.getElem?_append_left hn];exact e
 have e2:(st++[Cell.lst (A.map a9)])[st.length]?=some (.lst (A.map a9)):=by simp
 refine aB (aI e1) (du ho) (ik e2 (by rw[List.length_map];exact ll hk) ?_)
 rw[gS]
 have es:(st++[Cell.lst (A.map a9)]).set st.length (.lst ((A.set k (A.getD o [])).map a9))=st++[Cell.lst ((A.set k (A.getD o [])).map a9)]:=by
  rw[List.set_append_right _ _ (Nat.le_refl _),Nat.sub_self];rfl
 rw[es]
 have e3:(st++[Cell.lst ((A.set k (A.getD o [])).map a9)])[n]?=some (.lst (A.map a9)):=by rw[List.getElem?_append_left hn];exact e
 have e4:(st++[Cell.lst ((A.set k (A.getD o [])).map a9)])[st.length]?=some (.lst ((A.set k (A.getD o [])).map a9)):=by simp
 refine aB (aI e3) (du hk) (ik e4 (by rw[List.length_map,List.length_set];exact ll ho) ?_)
 rw[gS]
 have es2:(st++[Cell.lst ((A.set k (A.getD o [])).map a9)]).set st.length (.lst (((A.set k (A.getD o [])).set o (A.getD k [])).map a9))=st++[Cell.lst ((Mx.bw A k o).map a9)]:=by
  rw[List.set_append_right _ _ (Nat.le_refl _),Nat.sub_self];rfl
 rw[es2]
 exact kk
noncomputable def lu:bW:=fun ds st K=>∃(d:D) (r:List Int),ds=[d]∧items? st d=some (aJ r)∧r.length≤1000∧K (a9 (r.map fun x=> -x)) st
noncomputable def nV:List Str:=["row"]
noncomputable def C3:DS:=(bz (d7 (eZ (ae 0)) [none] (cw 0) cG (nM iU (ae 0))))
theorem Cc:∀ds st K,lu ds st K→ds.length=1∧C3 {nx:=fun _ st'=>K .aE st',rt:=K} (aR nV ds) st:=by
 rintro ds st K ⟨d,r,rfl,hd,hl,k⟩
 refine⟨rfl,?_⟩
 refine qF hd fun ok aL=>⟨cp (by unfold aJ;rw[List.length_map];exact hl),?_⟩
 refine comp_map (g:=fun x=>match x with| .int a=> .int (-a)|_=> .aE) aL _ (fun x hx K' q=>?_) ?_
 · unfold aJ at hx
   obtain⟨a,_,rfl⟩:=List.mem_map.mp hx
   exact⟨_,rfl,iY q⟩
 · have e:(aJ r).map (fun x=>match x with| .int a=> .int (-a)|_=> .aE)=aJ (r.map fun x=> -x):=by unfold aJ;rw[List.map_map,List.map_map];rfl
   rw[e];exact k
structure Bn(st:ag)(b xb xu xc:Nat)(A U C:List (List Int)):Prop where
 eb:st[b]?=some (Cell.ins az [("body",.ref xb),("turn",.ref xu),("back_columns",.ref xc)])
 e1:st[xb]?=some (Cell.lst (A.map a9))
 e2:st[xu]?=some (Cell.lst (U.map a9))
 e3:st[xc]?=some (Cell.lst (C.map a9))
 n1:xb≠xu
 n2:xb≠xc
 n3:xu≠xc
theorem jR{st:ag}{b x:Nat}{C:Addr}{fs:List (Str×D)}{xs:List D}(h1:st[b]?=some (Cell.ins C fs))(h2:st[x]?=some (Cell.lst xs)):b≠x:=fun z=>by rw[z,h2]at h1;cases h1
noncomputable def ji:bW:=fun ds st K=>∃(b N:Nat) (d:D) (A:List (List Int)),ds=[.ref b,d]∧st[b]?=some (.ins az [])∧je st d A∧A.length=N∧N≤8∧∀st',Bn st' b st.length (st.length+1) (st.length+2) A (Mx.units N) (Mx.units N)→st'.length=st.length+3→(∀m,m<st.length→m≠b→st'[m]?=st[m]?)→K .aE st'
noncomputable def gz:List Str:=["self","rows"]
noncomputable def tx:DS:=(aH (nG az "body" (ae 0) (rl (eZ (ae 1)) [none] (cw 0) cG (cq mq (af (ae 0) ao))))
 (aH (nG az "turn" (ae 0) (rl (eZ (aC kM (af (cq eC (af (ae 1) ao)) ao))) [none] (cw 0) cG (cq mq (af (ae 0) ao))))
 (nG az "back_columns" (ae 0) (rl (eZ (aC kM (af (cq eC (af (ae 1) ao)) ao))) [none] (cw 0) cG (cq mq (af (ae 0) ao))))))
theorem pE(f:Str)(v:D):∀fs:List (Str×D),(putD f v fs).length≤fs.length+1
 | []=>by simp[putD]
 |(g,x)::r=>by
  unfold putD
  split
  · simp
  · have:=pE f v r
    simp only[List.length_cons]
    omega
theorem xR{st:ag}{A:List (List Int)}:cC st (A.map bo) A:=cC.tup
theorem wR(n:Nat):(Mx.units n).length=n:=by unfold Mx.units;simp
theorem su:∀ds st K,ji ds st K→ds.length=2∧tx {nx:=fun _ st'=>K .aE st',rt:=K} (aR gz ds) st:=by
 rintro ds st K ⟨b,N,d,A,rfl,eb,hA,hl,hN,k⟩
 refine⟨rfl,?_⟩
 have hb:b<st.length:=(List.getElem?_eq_some_iff.mp eb).1
 obtain⟨da,hd,ra⟩:=hA.ex
 have hdl:=ra.len
 have lst:∀(e:D) (r:List Int),True:=fun _ _=>trivial
 refine qF hd fun ok aL=>⟨cp (by omega),?_⟩
 refine mE a9 aL ra (fun e r hr he K' q=>⟨_,rfl,oM he q⟩) ?_
 have eb1:(st++[Cell.lst (A.map a9)])[b]?=some (.ins az []):=by rw[List.getElem?_append_left hb];exact eb
 refine mI eb1 (by decide) ?_
 generalize hs1:(st++[Cell.lst (A.map a9)]).set b (.ins az (putD "body" (.ref st.length) []))=st1
 have l1:st1.length=st.length+1:=by rw[←hs1];simp
 have f1:∀m,m<st.length→m≠b→st1[m]?=st[m]?:=fun m hm hmb=>by rw[←hs1,List.getElem?_set_ne (Ne.symm hmb),List.getElem?_append_left hm]
 have b1:st1[b]?=some (.ins az (putD "body" (.ref st.length) [])):=by rw[←hs1,List.getElem?_set_self (by simp;omega)]
 have x1:st1[st.length]?=some (.lst (A.map a9)):=by rw[←hs1,List.getElem?_set_ne (by omega)];simp
 clear hs1
 have itd:∃da',items? st1 d=some da'∧da'.length=N:=by
  cases d with
  |ref n=>
   by_cases hnb:n=b
   · subst hnb
     unfold items? at hd
     simp only[eb]at hd
     cases hd
   · have hn:n<st.length:=by
      unfold items? at hd
      simp only at hd
      cases q:st[n]? with
      |none=>rw[q]at hd;cases hd
      |some c=>exact(List.getElem?_eq_some_iff.mp q).1
     refine⟨da,?_,by omega⟩
     unfold items? at hd⊢
     simp only at hd⊢
     rw[f1 n hn hnb]
     exact hd
  |_=>exact⟨da,hd,by omega⟩
 obtain⟨da1,hd1,hdl1⟩:=itd
 refine df hd1 ?_
 rw[hdl1]
 refine⟨N,rfl,by omega,?_⟩
 refine jx ⟨cp (by rw[List.length_map,wR];omega),?_⟩
 refine mE a9 trivial xR (fun e r hr he K' q=>⟨_,rfl,oM he q⟩) ?_
 have b2:(st1++[Cell.lst ((Mx.units N).map a9)])[b]?=some (.ins az (putD "body" (.ref st.length) [])):=by rw[List.getElem?_append_left (by omega)];exact b1
 refine mI b2 (by have:=pE "body" (.ref st.length) [];simp only[List.length_nil]at this;omega) ?_
 generalize hs2:(st1++[Cell.lst ((Mx.units N).map a9)]).set b (.ins az (putD "turn" (.ref st1.length) (putD "body" (.ref st.length) [])))=st2
 have l2:st2.length=st.length+2:=by rw[←hs2];simp;omega
 have f2:∀m,m<st1.length→m≠b→st2[m]?=st1[m]?:=fun m hm hmb=>by rw[←hs2,List.getElem?_set_ne (Ne.symm hmb),List.getElem?_append_left hm]
 have b2':st2[b]?=some (.ins az (putD "turn" (.ref st1.length) (putD "body" (.ref st.length) []))):=by rw[←hs2,List.getElem?_set_self (by simp;omega)]
 have x2:st2[st1.length]?=some (.lst ((Mx.units N).map a9)):=by rw[←hs2,List.getElem?_set_ne (by omega)];simp
 clear hs2
 have itd2:items? st2 d=some da1:=by
  cases d with
  |ref n=>
   by_cases hnb:n=b
   · subst hnb
     unfold items? at hd1
     simp only[b1]at hd1
     cases hd1
   · have hn:n<st1.length:=by
      unfold items? at hd1
      simp only at hd1
      cases q:st1[n]? with
      |none=>rw[q]at hd1;cases hd1
      |some c=>exact(List.getElem?_eq_some_iff.mp q).1
     unfold items? at hd1⊢
     simp only at hd1⊢
     rw[f2 n hn hnb]
     exact hd1
  |_=>exact hd1
 refine df itd2 ?_
 rw[hdl1]
 refine⟨N,rfl,by omega,?_⟩
 refine jx ⟨cp (by rw[List.length_map,wR];omega),?_⟩
 refine mE a9 trivial xR (fun e r hr he K' q=>⟨_,rfl,oM he q⟩) ?_
 have b3:(st2++[Cell.lst ((Mx.units N).map a9)])[b]?=some (.ins az (putD "turn" (.ref st1.length) (putD "body" (.ref st.length) []))):=by rw[List.getElem?_append_left (by omega)];exact b2'
 refine mI b3 (by have h1:=pE "body" (.ref st.length) [];have h2:=pE "turn" (.ref st1.length) (putD "body" (.ref st.length) []);simp only[List.length_nil]at h1;omega) ?_
 refine k _ ⟨?_,?_,?_,?_,by omega,by omega,by omega⟩ (by simp;omega) fun m hm hmb=>?_
 · rw[List.getElem?_set_self (by simp;omega),l1,l2];rfl
 · rw[List.getElem?_set_ne (by omega),List.getElem?_append_left (by omega),f2 _ (by omega) (by omega)];exact x1
 · rw[List.getElem?_set_ne (by omega),List.getElem?_append_left (by omega)]
   rw[l1]at x2
   exact x2
 · rw[List.getElem?_set_ne (by omega)]
   rw[show st.length+2=st2.length by omega]
   simp
 · rw[List.getElem?_set_ne (Ne.symm hmb),List.getElem?_append_left (by omega),f2 m (by omega) hmb,f1 m hm hmb]
noncomputable def j7:bW:=fun ds st K=>∃(b xb xu xc N w k j:Nat) (A U C:List (List Int)) (q:Int),ds=[.ref b,.int k,.int q,.int j]∧Bn st b xb xu xc A U C∧Mx.cT N w A∧Mx.cT N N U∧Mx.cT N N C∧k<N∧j<N∧N≤8∧w≤9∧(∀x∈A.getD j [],IntMulOk (-q) x)∧(∀x∈U.getD j [],IntMulOk (-q) x)∧(∀x∈C.getD k [],IntMulOk q x)∧
 ∀st',Bn st' b xb xu xc (Mx.bG A k q j) (Mx.bG U k q j) (Mx.bG C j (-q) k)→st'.length=st.length→(∀m,m≠xb→m≠xu→m≠xc→st'[m]?=st[m]?)→K .aE st'
noncomputable def j5:List Str:=["self","k","times","other"]
noncomputable def xX:DS:=(aH (eA (dB az "body" (ae 0)) (ae 1) (aC ky (af (av aY (dB az "body" (ae 0)) (ae 1)) (af (nM iU (ae 2)) (af (av aY (dB az "body" (ae 0)) (ae 3)) ao)))))
 (aH (eA (dB az "turn" (ae 0)) (ae 1) (aC ky (af (av aY (dB az "turn" (ae 0)) (ae 1)) (af (nM iU (ae 2)) (af (av aY (dB az "turn" (ae 0)) (ae 3)) ao)))))
 (eA (dB az "back_columns" (ae 0)) (ae 3) (aC ky (af (av aY (dB az "back_columns" (ae 0)) (ae 3)) (af (ae 2) (af (av aY (dB az "back_columns" (ae 0)) (ae 1)) ao)))))))
theorem wZ:∀ds st K,j7 ds st K→ds.length=4∧xX {nx:=fun _ st'=>K .aE st',rt:=K} (aR j5 ds) st:=by
 rintro ds st K ⟨b,xb,xu,xc,N,w,k,j,A,U,C,q,rfl,B,hA,hU,hC,hk,hj,hN,hw,mA,mU,mC,kk⟩
 refine⟨rfl,?_⟩
 have lA:=hA.len
 have lU:=hU.len
 have lC:=hC.len
 have rA:=Mx.cH hA hk
 have rU:=Mx.cH hU hk
 have rC:=Mx.cH hC hj
 have bx1:=jR B.eb B.e1
 have bx2:=jR B.eb B.e2
 have bx3:=jR B.eb B.e3
 have n1:=B.n1
 have n2:=B.n2
 have n3:=B.n3
 refine cA B.eb rfl (aB (aI B.e1) (du (by omega)) (iY (cA B.eb rfl (aB (aI B.e1) (du (by omega)) ?_))))
 refine⟨_,_,-q,A.getD k [],A.getD j [],rfl,rfl,rfl,by omega,mA,?_⟩
 refine cA B.eb rfl (ik B.e1 (by rw[List.length_map,lA];exact ll hk) ?_)
 rw[gS]
 have g1:∀m,m≠xb→(st.set xb (.lst ((A.set k (Mx.eP (A.getD k []) (-q) (A.getD j []))).map a9)))[m]?=st[m]?:=fun m hm=>List.getElem?_set_ne (Ne.symm hm)
 have h1:(st.set xb (.lst ((A.set k (Mx.eP (A.getD k []) (-q) (A.getD j []))).map a9)))[xb]?=some (.lst ((Mx.bG A k q j).map a9)):=List.getElem?_set_self (List.getElem?_eq_some_iff.mp B.e1).1
 have z1:(st.set xb (.lst ((A.set k (Mx.eP (A.getD k []) (-q) (A.getD j []))).map a9))).length=st.length:=List.length_set
 generalize st.set xb (.lst ((A.set k (Mx.eP (A.getD k []) (-q) (A.getD j []))).map a9))=st1 at g1 h1 z1⊢
 have eb1:=(g1 b bx1).trans B.eb
 have e21:=(g1 xu (Ne.symm n1)).trans B.e2
 have e31:=(g1 xc (Ne.symm n2)).trans B.e3
 refine cA eb1 rfl (aB (aI e21) (du (by omega)) (iY (cA eb1 rfl (aB (aI e21) (du (by omega)) ?_))))
 refine⟨_,_,-q,U.getD k [],U.getD j [],rfl,rfl,rfl,by omega,mU,?_⟩
 refine cA eb1 rfl (ik e21 (by rw[List.length_map,lU];exact ll hk) ?_)
 rw[gS]
 have g2:∀m,m≠xu→(st1.set xu (.lst ((U.set k (Mx.eP (U.getD k []) (-q) (U.getD j []))).map a9)))[m]?=st1[m]?:=fun m hm=>List.getElem?_set_ne (Ne.symm hm)
 have h2:(st1.set xu (.lst ((U.set k (Mx.eP (U.getD k []) (-q) (U.getD j []))).map a9)))[xu]?=some (.lst ((Mx.bG U k q j).map a9)):=List.getElem?_set_self (List.getElem?_eq_some_iff.mp e21).1
 have z2:(st1.set xu (.lst ((U.set k (Mx.eP (U.getD k []) (-q) (U.getD j []))).map a9))).length=st1.length:=List.length_set
 generalize st1.set xu (.lst ((U.set k (Mx.eP (U.getD k []) (-q) (U.getD j []))).map a9))=st2 at g2 h2 z2⊢
 have eb2:=(g2 b bx2).trans eb1
 have e32:=(g2 xc (Ne.symm n3)).trans e31
 refine cA eb2 rfl (aB (aI e32) (du (by omega)) (cA eb2 rfl (aB (aI e32) (du (by omega)) ?_)))
 refine⟨_,_,q,C.getD j [],C.getD k [],rfl,rfl,rfl,by omega,mC,?_⟩
 refine cA eb2 rfl (ik e32 (by rw[List.length_map,lC];exact ll hj) ?_)
 rw[gS]
 have hc:C.set j (Mx.eP (C.getD j []) q (C.getD k []))=Mx.bG C j (-q) k:=by unfold Mx.bG;rw[Int.neg_neg]
 rw[hc]
 refine kk _ ⟨?_,?_,?_,?_,n1,n2,n3⟩ (by rw[List.length_set];omega) fun m m1 m2 m3=>?_
 · rw[List.getElem?_set_ne (Ne.symm bx3)];exact eb2
 · rw[List.getElem?_set_ne (Ne.symm n2),g2 _ n1];exact h1
 · rw[List.getElem?_set_ne (Ne.symm n3)];exact h2
 · exact List.getElem?_set_self (List.getElem?_eq_some_iff.mp e32).1
 · rw[List.getElem?_set_ne (Ne.symm m3),g2 m m2,g1 m m1]
noncomputable def jf:bW:=fun ds st K=>∃(b xb xu xc N w k o:Nat) (A U C:List (List Int)),ds=[.ref b,.int k,.int o]∧Bn st b xb xu xc A U C∧Mx.cT N w A∧Mx.cT N N U∧Mx.cT N N C∧k<N∧o<N∧
 ∀st',Bn st' b st.length (st.length+1) (st.length+2) (Mx.bw A k o) (Mx.bw U k o) (Mx.bw C k o)→st'.length=st.length+3→(∀m,m<st.length→m≠b→st'[m]?=st[m]?)→K .aE st'
noncomputable def gu:List Str:=["self","k","other"]
noncomputable def tU:DS:=(aH (nG az "body" (ae 0) (aC i4 (af (dB az "body" (ae 0)) (af (ae 1) (af (ae 2) ao)))))
 (aH (nG az "turn" (ae 0) (aC i4 (af (dB az "turn" (ae 0)) (af (ae 1) (af (ae 2) ao)))))
 (nG az "back_columns" (ae 0) (aC i4 (af (dB az "back_columns" (ae 0)) (af (ae 1) (af (ae 2) ao)))))))
theorem sD:∀ds st K,jf ds st K→ds.length=3∧tU {nx:=fun _ st'=>K .aE st',rt:=K} (aR gu ds) st:=by
 rintro ds st K ⟨b,xb,xu,xc,N,w,k,o,A,U,C,rfl,B,hA,hU,hC,hk,ho,kk⟩
 refine⟨rfl,?_⟩
 have lA:=hA.len
 have lU:=hU.len
 have lC:=hC.len
 have bx1:=jR B.eb B.e1
 have bx2:=jR B.eb B.e2
 have bx3:=jR B.eb B.e3
 have hb:b<st.length:=(List.getElem?_eq_some_iff.mp B.eb).1
 have hu:xu<st.length:=(List.getElem?_eq_some_iff.mp B.e2).1
 have hc:xc<st.length:=(List.getElem?_eq_some_iff.mp B.e3).1
 refine cA B.eb rfl ?_
 refine⟨xb,k,o,A,rfl,B.e1,by omega,by omega,?_⟩
 have eb1:(st++[Cell.lst ((Mx.bw A k o).map a9)])[b]?=some (.ins az [("body",.ref xb),("turn",.ref xu),("back_columns",.ref xc)]):=by rw[List.getElem?_append_left hb];exact B.eb
 refine mI eb1 (by simp) ?_
 have pb:putD "body" (.ref st.length) [("body",.ref xb),("turn",.ref xu),("back_columns",.ref xc)]=([("body",.ref st.length),("turn",.ref xu),("back_columns",.ref xc)]:List (Str×D)):=rfl
 rw[pb]
 generalize hs1:(st++[Cell.lst ((Mx.bw A k o).map a9)]).set b (.ins az [("body",.ref st.length),("turn",.ref xu),("back_columns",.ref xc)])=st1
 have l1:st1.length=st.length+1:=by rw[←hs1];simp
 have f1:∀m,m<st.length→m≠b→st1[m]?=st[m]?:=fun m hm hmb=>by rw[←hs1,List.getElem?_set_ne (Ne.symm hmb),List.getElem?_append_left hm]
 have b1:st1[b]?=some (.ins az [("body",.ref st.length),("turn",.ref xu),("back_columns",.ref xc)]):=by rw[←hs1,List.getElem?_set_self (by simp;omega)]
 have x1:st1[st.length]?=some (.lst ((Mx.bw A k o).map a9)):=by rw[←hs1,List.getElem?_set_ne (by omega)];simp
 clear hs1 eb1
 refine cA b1 rfl ?_
 refine⟨xu,k,o,U,rfl,(f1 xu hu (Ne.symm bx2)).trans B.e2,by omega,by omega,?_⟩
 have eb1:(st1++[Cell.lst ((Mx.bw U k o).map a9)])[b]?=some (.ins az [("body",.ref st.length),("turn",.ref xu),("back_columns",.ref xc)]):=by rw[List.getElem?_append_left (by omega)];exact b1
 refine mI eb1 (by simp) ?_
 have pb:putD "turn" (.ref st1.length) [("body",.ref st.length),("turn",.ref xu),("back_columns",.ref xc)]=([("body",.ref st.length),("turn",.ref st1.length),("back_columns",.ref xc)]:List (Str×D)):=rfl
 rw[pb]
 generalize hs2:(st1++[Cell.lst ((Mx.bw U k o).map a9)]).set b (.ins az [("body",.ref st.length),("turn",.ref st1.length),("back_columns",.ref xc)])=st2
 have l2:st2.length=st.length+2:=by rw[←hs2];simp;omega
 have f2:∀m,m<st1.length→m≠b→st2[m]?=st1[m]?:=fun m hm hmb=>by rw[←hs2,List.getElem?_set_ne (Ne.symm hmb),List.getElem?_append_left hm]
 have b2:st2[b]?=some (.ins az [("body",.ref st.length),("turn",.ref st1.length),("back_columns",.ref xc)]):=by rw[←hs2,List.getElem?_set_self (by simp;omega)]
 have x2:st2[st1.length]?=some (.lst ((Mx.bw U k o).map a9)):=by rw[←hs2,List.getElem?_set_ne (by omega)];simp
 clear hs2 eb1
 refine cA b2 rfl ?_
 refine⟨xc,k,o,C,rfl,((f2 xc (by omega) (Ne.symm bx3)).trans (f1 xc hc (Ne.symm bx3))).trans B.e3,by omega,by omega,?_⟩
 have eb1:(st2++[Cell.lst ((Mx.bw C k o).map a9)])[b]?=some (.ins az [("body",.ref st.length),("turn",.ref st1.length),("back_columns",.ref xc)]):=by rw[List.getElem?_append_left (by omega)];exact b2
 refine mI eb1 (by simp) ?_
 have pb:putD "back_columns" (.ref st2.length) [("body",.ref st.length),("turn",.ref st1.length),("back_columns",.ref xc)]=([("body",.ref st.length),("turn",.ref st1.length),("back_columns",.ref st2.length)]:List (Str×D)):=rfl
 rw[pb]
 refine kk _ ⟨?_,?_,?_,?_,by omega,by omega,by omega⟩ (by simp;omega) fun m hm hmb=>?_
 · rw[List.getElem?_set_self (by simp;omega),l1,l2]
 · rw[List.getElem?_set_ne (by omega),List.getElem?_append_left (by omega),f2 _ (by omega) (by omega)];exact x1
 · rw[List.getElem?_set_ne (by omega),List.getElem?_append_left (by omega)]
   rw[l1]at x2
   exact x2
 · rw[List.getElem?_set_ne (by omega)]
   rw[show st.length+2=st2.length by omega]
   simp
 · rw[List.getElem?_set_ne (Ne.symm hmb),List.getElem?_append_left (by omega),f2 m (by omega) hmb,f1 m hm hmb]
noncomputable def g7:bW:=fun ds st K=>∃(b xb xu xc N w k:Nat) (A U C:List (List Int)),ds=[.ref b,.int k]∧Bn st b xb xu xc A U C∧Mx.cT N w A∧Mx.cT N N U∧Mx.cT N N C∧k<N∧N≤8∧w≤9∧
 ∀st',Bn st' b xb xu xc (Mx.fW A k) (Mx.fW U k) (Mx.fW C k)→st'.length=st.length→(∀m,m≠xb→m≠xu→m≠xc→st'[m]?=st[m]?)→K .aE st'
noncomputable def fo:List Str:=["self","k"]
noncomputable def qf:DS:=(aH (eA (dB az "body" (ae 0)) (ae 1) (aC lu (af (av aY (dB az "body" (ae 0)) (ae 1)) ao)))
 (aH (eA (dB az "turn" (ae 0)) (ae 1) (aC lu (af (av aY (dB az "turn" (ae 0)) (ae 1)) ao)))
 (eA (dB az "back_columns" (ae 0)) (ae 1) (aC lu (af (av aY (dB az "back_columns" (ae 0)) (ae 1)) ao)))))
theorem pj:∀ds st K,g7 ds st K→ds.length=2∧qf {nx:=fun _ st'=>K .aE st',rt:=K} (aR fo ds) st:=by
 rintro ds st K ⟨b,xb,xu,xc,N,w,k,A,U,C,rfl,B,hA,hU,hC,hk,hN,hw,kk⟩
 refine⟨rfl,?_⟩
 have lA:=hA.len
 have lU:=hU.len
 have lC:=hC.len
 have rA:=Mx.cH hA hk
 have rU:=Mx.cH hU hk
 have rC:=Mx.cH hC hk
 have bx1:=jR B.eb B.e1
 have bx2:=jR B.eb B.e2
 have bx3:=jR B.eb B.e3
 have n1:=B.n1
 have n2:=B.n2
 have n3:=B.n3
 refine cA B.eb rfl (aB (aI B.e1) (du (by omega)) ?_)
 refine⟨_,A.getD k [],rfl,rfl,by omega,?_⟩
 refine cA B.eb rfl (ik B.e1 (by rw[List.length_map,lA];exact ll hk) ?_)
 rw[gS]
 have g1:∀m,m≠xb→(st.set xb (.lst ((A.set k ((A.getD k []).map fun x=> -x)).map a9)))[m]?=st[m]?:=fun m hm=>List.getElem?_set_ne (Ne.symm hm)
 have h1:(st.set xb (.lst ((A.set k ((A.getD k []).map fun x=> -x)).map a9)))[xb]?=some (.lst ((Mx.fW A k).map a9)):=List.getElem?_set_self (List.getElem?_eq_some_iff.mp B.e1).1
 have z1:(st.set xb (.lst ((A.set k ((A.getD k []).map fun x=> -x)).map a9))).length=st.length:=List.length_set
 generalize st.set xb (.lst ((A.set k ((A.getD k []).map fun x=> -x)).map a9))=st1 at g1 h1 z1⊢
 have eb1:=(g1 b bx1).trans B.eb
 have e21:=(g1 xu (Ne.symm n1)).trans B.e2
 have e31:=(g1 xc (Ne.symm n2)).trans B.e3
 refine cA eb1 rfl (aB (aI e21) (du (by omega)) ?_)
 refine⟨_,U.getD k [],rfl,rfl,by omega,?_⟩
 refine cA eb1 rfl (ik e21 (by rw[List.length_map,lU];exact ll hk) ?_)
 rw[gS]
 have g2:∀m,m≠xu→(st1.set xu (.lst ((U.set k ((U.getD k []).map fun x=> -x)).map a9)))[m]?=st1[m]?:=fun m hm=>List.getElem?_set_ne (Ne.symm hm)
 have h2:(st1.set xu (.lst ((U.set k ((U.getD k []).map fun x=> -x)).map a9)))[xu]?=some (.lst ((Mx.fW U k).map a9)):=List.getElem?_set_self (List.getElem?_eq_some_iff.mp e21).1
 have z2:(st1.set xu (.lst ((U.set k ((U.getD k []).map fun x=> -x)).map a9))).length=st1.length:=List.length_set
 generalize st1.set xu (.lst ((U.set k ((U.getD k []).map fun x=> -x)).map a9))=st2 at g2 h2 z2⊢
 have eb2:=(g2 b bx2).trans eb1
 have e32:=(g2 xc (Ne.symm n3)).trans e31
 refine cA eb2 rfl (aB (aI e32) (du (by omega)) ?_)
 refine⟨_,C.getD k [],rfl,rfl,by omega,?_⟩
 refine cA eb2 rfl (ik e32 (by rw[List.length_map,lC];exact ll hk) ?_)
 rw[gS]
 refine kk _ ⟨?_,?_,?_,?_,n1,n2,n3⟩ (by rw[List.length_set];omega) fun m m1 m2 m3=>?_
 · rw[List.getElem?_set_ne (Ne.symm bx3)];exact eb2
 · rw[List.getElem?_set_ne (Ne.symm n2),g2 _ n1];exact h1
 · rw[List.getElem?_set_ne (Ne.symm n3)];exact h2
 · exact List.getElem?_set_self (List.getElem?_eq_some_iff.mp e32).1
 · rw[List.getElem?_set_ne (Ne.symm m3),g2 m m2,g1 m m1]
noncomputable def fU:bW:=fun ds st K=>∃(b xb xu xc N w top p:Nat) (A U C:List (List Int)) (f:Bool),ds=[.ref b,.int top,.int p]∧Bn st b xb xu xc A U C∧Mx.cT N w A∧top≤N∧N≤8∧p<w∧w≤9∧st[0]?=some (fv f)∧
 ∀L,Mx.g0 A N top p L→K (.lst (L.map fun(k:Nat)=> .int (k:Int))) (st.set 0 (fv true))
noncomputable def fR:List Str:=["self","top","place","live"]
noncomputable def sx:DS:=(aH (a_ 3 (d7 (si (af (ae 1) (af (cq eC (af (dB az "body" (ae 0)) ao)) ao))) [none,some 0,some 2] (cw 0) (bS (av nE (av aY (av aY (dB az "body" (ae 1)) (ae 0)) (ae 2)) (dC (.int 0)))) (ae 0)))
 (bz (zB 0 194 ⟨93,32,93,66⟩ "Bench.live_rows.<locals>.<lambda>" [none,some 0,some 2] (cq pF (af (av aY (av aY (dB az "body" (ae 1)) (ae 0)) (ae 2)) ao)) (ae 3))))
theorem uP{a b:Prop}(h:b):if false=true then a else b:=h
theorem GZ{st:ag}{b:Nat}{C:Addr}{fs:List (Str×D)}{f:Bool}(h1:st[b]?=some (Cell.ins C fs))(h2:st[0]?=some (fv f)):b≠0:=fun z=>by rw[z,h2]at h1;cases h1
theorem rZ{st:ag}{b:Nat}{xs:List D}{f:Bool}(h1:st[b]?=some (Cell.lst xs))(h2:st[0]?=some (fv f)):b≠0:=fun z=>by rw[z,h2]at h1;cases h1
theorem Bn.keep{st st':ag}{b xb xu xc:Nat}{A U C:List (List Int)}(B:Bn st b xb xu xc A U C)(h:∀m,m=b∨m=xb∨m=xu∨m=xc→st'[m]?=st[m]?):Bn st' b xb xu xc A U C:=
 ⟨(h b (.inl rfl)).trans B.eb,(h xb (.inr (.inl rfl))).trans B.e1,(h xu (.inr (.inr (.inl rfl)))).trans B.e2,(h xc (.inr (.inr (.inr rfl)))).trans B.e3,B.n1,B.n2,B.n3⟩
theorem Bn.tab{st:ag}{b xb xu xc:Nat}{A U C:List (List Int)}{f:Bool}(B:Bn st b xb xu xc A U C)(h:st[0]?=some (fv f))(c:Cell):Bn (st.set 0 c) b xb xu xc A U C:=
 B.keep fun m hm=>List.getElem?_set_ne fun z=>by
  subst z
  rcases hm with rfl|rfl|rfl|rfl
  · exact GZ B.eb h rfl
  · exact rZ B.e1 h rfl
  · exact rZ B.e2 h rfl
  · exact rZ B.e3 h rfl
theorem ny{r:List Int}{k:Nat}(h:k<r.length):eB (aJ r) (k:Int)=some (.int (r.getD k 0)):=by
 refine ki ?_
 unfold aJ
 rw[List.getElem?_map,List.getElem?_eq_getElem h,Mx.ba h];rfl
noncomputable def fE(A:List (List Int))(N top p:Nat):List Nat:=(List.range (N-top)).filterMap fun i=>if Mx.g A (top+i) p≠0 then some (top+i)else none
theorem wC{A:List (List Int)}{N top p k:Nat}:k∈fE A N top p↔top≤k∧k<N∧Mx.g A k p≠0:=by
 unfold fE
 rw[List.mem_filterMap]
 constructor
 · rintro⟨i,hi,e⟩
   rw[List.mem_range]at hi
   split at e
   · rename_i h;cases e;exact⟨by omega,by omega,h⟩
   · cases e
 · rintro⟨h1,h2,h3⟩
   refine⟨k-top,List.mem_range.mpr (by omega),?_⟩
   rw[show top+(k-top)=k by omega,if_pos h3]
theorem pw_filterMap{f:Nat→Option Nat}(h:∀i j a b,i<j→f i=some a→f j=some b→a<b):∀ {l:List Nat},l.Pairwise (· < ·)→(l.filterMap f).Pairwise (· < ·)
 | [],_=>by simp
 |x::l,hl=>by
  obtain⟨h1,h2⟩:=List.pairwise_cons.mp hl
  rw[List.filterMap_cons]
  split
  · exact pw_filterMap h h2
  · rename_i a e
    refine List.pairwise_cons.mpr ⟨fun b hb=>?_,pw_filterMap h h2⟩
    obtain⟨j,hj,ej⟩:=List.mem_filterMap.mp hb
    exact h x j a b (h1 j hj) e ej
theorem pw_liveR{A:List (List Int)}{N top p:Nat}:(fE A N top p).Pairwise (· < ·):=by
 unfold fE
 refine pw_filterMap (fun i j a b hij ha hb=>?_) List.pairwise_lt_range
 split at ha
 · split at hb
   · cases ha;cases hb;omega
   · cases hb
 · cases ha
theorem xa{f:Nat→Option Nat}(l:List Nat):(l.filterMap f).length≤l.length:=List.length_filterMap_le ..
theorem Ho{A:List (List Int)}{N top p:Nat}{os:List (Int×Int)}(hp:os.Perm (((fE A N top p).map fun(k:Nat)=>(((Mx.g A k p).natAbs:Nat):Int)).zip ((fE A N top p).map fun(k:Nat)=>(k:Int))))(hs:os.Pairwise slt):
 Mx.g0 A N top p (os.map fun q=>q.2.toNat)∧os.map (fun q=>D.int q.2)=(os.map fun q=>q.2.toNat).map fun(k:Nat)=>D.int (k:Int):=by
 have hz:((fE A N top p).map fun(k:Nat)=>(((Mx.g A k p).natAbs:Nat):Int)).zip ((fE A N top p).map fun(k:Nat)=>(k:Int))=(fE A N top p).map fun k=>((((Mx.g A k p).natAbs:Nat):Int),(k:Int)):=by
  exact List.zip_map' ..
 rw[hz]at hp
 have hm:∀q∈os,∃k,k∈fE A N top p∧q=((((Mx.g A k p).natAbs:Nat):Int),(k:Int)):=fun q hq=>by
  obtain⟨k,h1,h2⟩:=List.mem_map.mp (hp.mem_iff.mp hq)
  exact⟨k,h1,h2.symm⟩
 refine⟨⟨fun k=>?_,?_⟩,?_⟩
 · rw[←wC]
   constructor
   · intro h
     obtain⟨q,hq,e⟩:=List.mem_map.mp h
     obtain⟨j,h1,rfl⟩:=hm q hq
     simp only[Int.toNat_natCast]at e
     rw[←e];exact h1
   · intro h
     exact List.mem_map.mpr ⟨((((Mx.g A k p).natAbs:Nat):Int),(k:Int)),hp.mem_iff.mpr (List.mem_map.mpr ⟨k,h,rfl⟩),by simp⟩
 · rw[List.pairwise_map]
   refine hs.imp_of_mem fun{x y} hx hy h=>?_
   obtain⟨j,_,rfl⟩:=hm x hx
   obtain⟨k,_,rfl⟩:=hm y hy
   unfold slt at h
   simp only[Int.toNat_natCast]
   omega
 · rw[List.map_map]
   refine List.map_congr_left fun q hq=>?_
   obtain⟨j,_,rfl⟩:=hm q hq
   simp
theorem qH:∀ds st K,fU ds st K→ds.length=3∧sx {nx:=fun _ st'=>K .aE st',rt:=K} (aR fR ds) st:=by
 rintro ds st K ⟨b,xb,xu,xc,N,w,top,p,A,U,C,f,rfl,B,hA,ht,hN,hp,hw,h0,k⟩
 refine⟨rfl,?_⟩
 have lA:=hA.len
 have rowA:∀i,i<N→(A.getD i []).length=w:=fun i hi=>Mx.cH hA hi
 refine cA B.eb rfl (df (aI B.e1) ?_)
 rw[List.length_map,lA]
 refine Ik ⟨by omega,by omega,by omega,by omega⟩ ⟨cp (by unfold dS;simp;omega),?_⟩
 have er:((N:Int)-(top:Int)).toNat=N-top:=by omega
 rw[er]
 refine ip (fun rest acc st'=>∃i:Nat,i≤N-top∧st'=st∧rest=(List.range (N-top-i)).map (fun j=>D.int ((top+i+j:Nat):Int))∧acc=((List.range i).filterMap fun i=>if Mx.g A (top+i) p≠0 then some (top+i)else none).map fun(k:Nat)=>D.int (k:Int)) ?_ ?_ _ _ _ ⟨0,Nat.zero_le _,rfl,by unfold dS;simp,by simp⟩
 · rintro acc st' ⟨i,hi,rfl,hr,rfl⟩
   have hi':i=N-top:=by
    rcases Nat.lt_or_ge i (N-top)with z|z
    · rw[show N-top-i=(N-top-i-1)+1 by omega,List.range_succ_eq_map]at hr;cases hr
    · omega
   subst hi'
   refine⟨trivial,?_⟩
   have e1:((fE A N top p).map fun(k:Nat)=>D.int (k:Int))=((fE A N top p).map fun(k:Nat)=>(k:Int)).map D.int:=by rw[List.map_map];rfl
   refine⟨(fE A N top p).map fun(k:Nat)=>(k:Int),(fE A N top p).map fun(k:Nat)=>(((Mx.g A k p).natAbs:Nat):Int),f,congrArg D.lst e1,?_,?_,by rw[List.length_map,List.length_map],h0,fun i n q hn hq=>?_,fun os hp' hs=>?_⟩
   · rw[List.length_map]
     have:=xa (f:=fun i=>if Mx.g A (top+i) p≠0 then some (top+i)else none) (List.range (N-top))
     rw[List.length_range]at this
     show(fE A N top p).length<64
     unfold fE
     omega
   · rw[List.pairwise_map]
     exact pw_liveR.imp fun h=>by omega
   · rw[List.getElem?_map]at hn hq
     cases z:(fE A N top p)[i]? with
     |none=>rw[z]at hn;cases hn
     |some j=>
      rw[z]at hn hq
      cases hn;cases hq
      obtain⟨j1,j2,j3⟩:=wC.mp (List.mem_of_getElem? z)
      have B1:=B.tab h0 (fv true)
      refine cA B1.eb rfl (aB (aI B1.e1) (du (by omega)) (aB rfl (ny (by rw[rowA j j2];exact hp)) (qZ ⟨rfl,rfl⟩)))
   · obtain⟨h1,h2⟩:=Ho hp' hs
     rw[h2]
     exact k _ h1
 · rintro d rest acc st' ⟨i,hi,rfl,hr,rfl⟩ next
   have hlt:i<N-top:=by
    rcases Nat.lt_or_ge i (N-top)with z|z
    · exact z
    · rw[show N-top-i=0 by omega]at hr;cases hr
   rw[show N-top-i=(N-top-i-1)+1 by omega,List.range_succ_eq_map,List.map_cons,List.map_map]at hr
   obtain⟨rfl,rfl⟩:=List.cons.inj hr
   refine⟨trivial,_,rfl,?_⟩
   refine cA B.eb rfl (aB (aI B.e1) (du (j:=top+i+0) (by omega)) (aB rfl (ny (by rw[rowA _ (by omega)];exact hp)) ?_))
   have e2:List.range (i+1)=List.range i++[i]:=List.range_succ
   have e3:((List.range (N-top-i-1)).map ((fun j=>D.int ((top+i+j:Nat):Int))∘Nat.succ))=(List.range (N-top-(i+1))).map fun j=>D.int ((top+(i+1)+j:Nat):Int):=by
    rw[show N-top-i-1=N-top-(i+1) by omega]
    refine List.map_congr_left fun j _=>?_
    show D.int ((top+i+(j+1):Nat):Int)=_
    rw[show top+i+(j+1)=top+(i+1)+j by omega]
   refine ne2 (fun h=>?_) fun h=>?_
   · refine(next _ _ ⟨i+1,by omega,rfl,e3,?_⟩)
     rw[e2,List.filterMap_append,List.map_append]
     have:Mx.g A (top+i) p≠0:=h
     simp[this]
   · refine(next _ _ ⟨i+1,by omega,rfl,e3,?_⟩)
     rw[e2,List.filterMap_append,List.map_append]
     have:Mx.g A (top+i) p=0:=h
     simp[this]
structure Bo(n0:Nat)(st st':ag)(b xb xu xc:Nat):Prop where
 lo:1≤n0∧n0≤b∧n0≤xb∧n0≤xu∧n0≤xc
 fr:∀m,m<n0→m≠0→st'[m]?=st[m]?
 tb:∃f,st'[0]?=some (fv f)
noncomputable def kg:bW:=fun ds st K=>∃(n0 b xb xu xc N w top p e u:Nat) (A0 A U C:List (List Int)) (ld:Nat→Nat),ds=[.ref b,.int top,.int p]∧Bn st b xb xu xc A U C∧Bo n0 st st b xb xu xc∧Mx.gE A0 N w ⟨A,U,C⟩ top p ld e u∧N≤8∧w≤9∧p<w∧(N-top+1)*(e+1)≤60000000∧
 (∀st',Bn st' b xb xu xc A U C→Bo n0 st st' b xb xu xc→Mx.g0 A N top p []→K (.bl false) st')∧
 ∀st' xb' xu' xc' (c:Mx.B3) (r:Nat),Bn st' b xb' xu' xc' (Mx.setB c p top r).A (Mx.setB c p top r).U (Mx.setB c p top r).C→Bo n0 st st' b xb' xu' xc'→Mx.fF N top p ⟨A,U,C⟩ c→Mx.g0 c.A N top p [r]→top<N→
  Mx.vE A0 N w top p (2^((N-top+1)*(e+1))) ⟨A,U,C⟩ (Mx.setB c p top r)→K (.bl true) st'
noncomputable def iG:List Str:=["self","top","place","live","great","small"]
noncomputable def vJ:DS:=(aH (a_ 3 (i3 az "live_rows" fU (ae 0) (af (ae 1) (af (ae 2) ao))))
 (aH (uW (bS (av oX (cq eC (af (ae 3) ao)) (dC (.int 1)))) (aH (a_ 4 (av aY (ae 3) (nM iU (dC (.int 1)))))
 (aH (a_ 5 (av aY (ae 3) (nM iU (dC (.int 2)))))
 (aH (k6 (i3 az "take" j7 (ae 0) (af (ae 4) (af (aC h_ (af (av aY (av aY (dB az "body" (ae 0)) (ae 4)) (ae 2)) (af (av aY (av aY (dB az "body" (ae 0)) (ae 5)) (ae 2)) ao))) (af (ae 5) ao)))))
 (a_ 3 (i3 az "live_rows" fU (ae 0) (af (ae 1) (af (ae 2) ao))))))))
 (aH (eY (bS (av gg (cq eC (af (ae 3) ao)) (dC (.int 0)))) (bz (dC (.bl false))) dM)
 (aH (k6 (i3 az "exchange" jf (ae 0) (af (ae 1) (af (av aY (ae 3) (dC (.int 0))) ao))))
 (aH (eY (bS (av p_ (av aY (av aY (dB az "body" (ae 0)) (ae 1)) (ae 2)) (dC (.int 0)))) (k6 (i3 az "change_sign" g7 (ae 0) (af (ae 1) ao))) dM)
 (bz (dC (.bl true))))))))
theorem Bo.JL{n0:Nat}{st st':ag}{b xb xu xc:Nat}(h:Bo n0 st st' b xb xu xc):Bo n0 st (st'.set 0 (fv true)) b xb xu xc:=
 ⟨h.lo,fun m hm h0=>by rw[List.getElem?_set_ne (Ne.symm h0)];exact h.fr m hm h0,true,by
  obtain⟨f,e⟩:=h.tb
  exact List.getElem?_set_self (List.getElem?_eq_some_iff.mp e).1⟩
theorem Bo.low{n0:Nat}{st st1 st2:ag}{b xb xu xc:Nat}(h:Bo n0 st st1 b xb xu xc)(f:∀m,m≠xb→m≠xu→m≠xc→st2[m]?=st1[m]?):Bo n0 st st2 b xb xu xc:=by
 obtain⟨l1,l2,l3,l4,l5⟩:=h.lo
 refine⟨h.lo,fun m hm h0=>?_,?_⟩
 · rw[f m (by omega) (by omega) (by omega)];exact h.fr m hm h0
 · obtain⟨z,e⟩:=h.tb
   exact⟨z,by rw[f 0 (by omega) (by omega) (by omega)];exact e⟩
theorem vO{X:List (List Int)}{N w top m i:Nat}(hX:Mx.cT N w X)(h:Mx.iZ X N top m)(hi:top≤i)(hN:i<N):∀x∈X.getD i [],x.natAbs≤m:=fun x hx=>by
 obtain⟨c,hc,rfl⟩:=List.mem_iff_getElem.mp hx
 have:=h i c hi hN
 unfold Mx.g at this
 rwa [Mx.ba hc]at this
theorem yu{n j:Nat}(h:1≤j)(h2:j≤n):j9 n (-(j:Int))=some (n-j):=by
 unfold j9
 rw[if_neg (by omega),if_pos (by omega)]
 congr 1
 omega
theorem Lu{L:List Nat}{j k:Nat}:eB ((L++[j,k]).map fun(k:Nat)=>D.int (k:Int)) (-1)=some (.int (k:Int)):=by
 unfold eB
 have:=yu (n:=((L++[j,k]).map fun(k:Nat)=>D.int (k:Int)).length) (j:=1) (by decide) (by simp)
 rw[show(-((1:Nat):Int))= -1 from rfl]at this
 rw[this]
 simp
theorem Mm{L:List Nat}{j k:Nat}:eB ((L++[j,k]).map fun(k:Nat)=>D.int (k:Int)) (-2)=some (.int (j:Int)):=by
 unfold eB
 have:=yu (n:=((L++[j,k]).map fun(k:Nat)=>D.int (k:Int)).length) (j:=2) (by decide) (by simp)
 rw[show(-((2:Nat):Int))= -2 from rfl]at this
 rw[this]
 simp
theorem EH:∀ {L:List Nat},1<L.length→∃M j k,L=M++[j,k]:=fun{L} h=>by
 refine⟨L.take (L.length-2),L[L.length-2]'(by omega),L[L.length-1]'(by omega),?_⟩
 have e1:L=L.take (L.length-2)++L.drop (L.length-2):=(List.take_append_drop _ _).symm
 have e2:L.drop (L.length-2)=[L[L.length-2]'(by omega),L[L.length-1]'(by omega)]:=by
  rw[List.drop_eq_getElem_cons (by omega),List.drop_eq_getElem_cons (by omega),List.drop_eq_nil_of_le (by omega)]
  congr 2
  congr 1
  omega
 rw[←e2];exact e1
theorem uy:∀ds st K,kg ds st K→ds.length=3∧vJ {nx:=fun _ st'=>K .aE st',rt:=K} (aR iG ds) st:=by
 rintro ds st K ⟨n0,b,xb,xu,xc,N,w,top,p,e,u,A0,A,U,C,ld,rfl,B,O,S,hN,hw,hp,hz,kf,kt⟩
 refine⟨rfl,?_⟩
 have hle:=S.le
 obtain⟨f,h0⟩:=O.tb
 refine jJ B.eb rfl ?_
 refine⟨b,xb,xu,xc,N,w,top,p,A,U,C,f,rfl,B,S.tn.isA,hle,hN,hp,hw,h0,fun L hL=>?_⟩
 have B1:=B.tab h0 (fv true)
 have O1:=O.JL
 try dsimp only[ao]
 refine gW (fun σ st'=>∃(L:List Nat) (v4 v5:Option D) (c:Mx.B3) (gr:Nat),σ=[some (.ref b),some (.int top),some (.int p),some (.lst (L.map fun(k:Nat)=> .int (k:Int))),v4,v5]∧L.length≤1∧Bn st' b xb xu xc c.A c.U c.C∧Bo n0 st st' b xb xu xc∧Mx.fF N top p ⟨A,U,C⟩ c∧Mx.sS A0 N w top p (2^e) ⟨A,U,C⟩ c gr∧Mx.g0 c.A N top p L) (fun nx hnx=>?_) ?_
 · refine⟨fun m σ st'=>∃(L:List Nat) (v4 v5:Option D) (c:Mx.B3) (gr:Nat),σ=[some (.ref b),some (.int top),some (.int p),some (.lst (L.map fun(k:Nat)=> .int (k:Int))),v4,v5]∧Bn st' b xb xu xc c.A c.U c.C∧Bo n0 st st' b xb xu xc∧Mx.fF N top p ⟨A,U,C⟩ c∧Mx.sS A0 N w top p (2^e) ⟨A,U,C⟩ c gr∧Mx.g0 c.A N top p L∧m=Mx.mu c.A N p,⟨_,L,none,none,⟨A,U,C⟩,1,rfl,B1,O1,.refl _,S.N7,hL,rfl⟩,?_⟩
   rintro m σ st1 ⟨L,v4,v5,c,gr,rfl,B,O,hR,hG,hL,rfl⟩
   refine df rfl ?_
   rw[List.length_map]
   refine Oi (fun h=>eO ?_) fun h=>uP (hnx _ _ ⟨L,v4,v5,c,gr,rfl,by omega,B,O,hR,hG,hL⟩)
   obtain⟨M,j,k,rfl⟩:=EH (L:=L) (by omega)
   refine iY (aB rfl Lu (iY (aB rfl Mm ?_)))
   obtain⟨G2,hlt,hoth,k1,k2,j1,j2,hjk,hj0⟩:=hG.step hp hL
   have T:=hG.tn
   have lA:=T.isA.len
   have hlow:=G2.low S.lo.1
   refine jJ B.eb rfl (cA B.eb rfl (aB (aI B.e1) (du (by omega)) (aB rfl (ny (by rw[Mx.cH T.isA k2];exact hp)) (cA B.eb rfl (aB (aI B.e1) (du (by omega)) (aB rfl (ny (by rw[Mx.cH T.isA j2];exact hp)) ?_))))))
   refine⟨_,_,rfl,hj0,?_⟩
   have hq:(Mx.qn (Mx.g c.A k p) (Mx.g c.A j p)).natAbs≤2^((N-top+1)*(e+1)):=by
    refine Nat.le_trans ?_ hlow
    have a1:=hG.pos
    have a2:1≤2^e:=Nat.one_le_two_pow
    have a3:1*(Mx.qn (Mx.g c.A k p) (Mx.g c.A j p)).natAbs≤gr*(1+(Mx.qn (Mx.g c.A k p) (Mx.g c.A j p)).natAbs):=Nat.mul_le_mul a1 (by omega)
    have a4:=Nat.mul_le_mul a2 a3
    omega
   have hx:2^e*gr≤2^((N-top+1)*(e+1)):=hG.low S.lo.1
   have hm:∀ {x:Int},x.natAbs≤2^e*gr→IntMulOk (Mx.qn (Mx.g c.A k p) (Mx.g c.A j p)) x∧IntMulOk (-(Mx.qn (Mx.g c.A k p) (Mx.g c.A j p))) x:=fun{x} h=>
    ⟨dG hq (Nat.le_trans h hx) (by omega),dG (by rw[Int.natAbs_neg];exact hq) (Nat.le_trans h hx) (by omega)⟩
   refine⟨b,xb,xu,xc,N,w,k,j,c.A,c.U,c.C,_,rfl,B,T.isA,T.d8,T.fO,k2,j2,hN,hw,fun x hx=>(hm (vO T.isA hG.lA j1 j2 x hx)).2,fun x hx=>(hm (vO T.d8 hG.lU j1 j2 x hx)).2,fun x hx=>(hm (vO T.fO hG.lC k1 k2 x hx)).1,fun st2 B2 l2 f2=>?_⟩
   have O2:=O.low f2
   obtain⟨f',h0'⟩:=O2.tb
   refine jJ B2.eb rfl ?_
   refine⟨b,xb,xu,xc,N,w,top,p,_,_,_,f',rfl,B2,G2.tn.isA,hle,hN,hp,hw,h0',fun L2 hL2=>?_⟩
   refine⟨_,?_,L2,_,_,Mx.jQ c p k j,_,rfl,B2.tab h0' (fv true),O2.JL,hR.tail ⟨M,k,j,hL,rfl⟩,G2,hL2,rfl⟩
   unfold Mx.mu
   refine Mx.Gk (k:=k) hlt k2 fun i hi=>?_
   by_cases h:i=k
   · rw[h];exact Nat.le_of_lt hlt
   · rw[hoth i h];exact Nat.le_refl _
 · rintro σ st1 ⟨L,v4,v5,c,gr,rfl,hl,B,O,hR,hG,hL⟩
   refine df rfl ?_
   rw[List.length_map]
   match L,hl,hL with
   | [],_,hL=>
     refine eq2 (fun h=>eO ?_) fun h=>absurd rfl h
     have e0:c=⟨A,U,C⟩:=by
      rcases hG.Mo with z|⟨j,h1,h2,h3⟩
      · exact z
      · exact absurd ((hL.mem j).mpr ⟨h1,h2,h3⟩) (by simp)
     subst e0
     exact kf st1 B O hL
   | [r],_,hL=>
     refine eq2 (fun h=>absurd h (by simp)) fun h=>uP ?_
     obtain⟨s1,hr1,hr2⟩:=hG.set hL
     have ht:top<N:=by omega
     have T:=hG.tn
     have s2:Mx.vE A0 N w top p (2^((N-top+1)*(e+1))) ⟨A,U,C⟩ (Mx.setB c p top r):=by
      have hlow:=hG.low S.lo.1
      exact⟨s1.tn,s1.up,⟨fun i q h1 h2=>Nat.le_trans (s1.lo.1 i q h1 h2) hlow,fun i q h1 h2=>Nat.le_trans (s1.lo.2.1 i q h1 h2) hlow,fun i q h1 h2=>Nat.le_trans (s1.lo.2.2 i q h1 h2) hlow⟩,s1.zs,s1.tp,s1.z1⟩
     refine jJ B.eb rfl (aB rfl (show eB ([r].map fun(k:Nat)=>D.int (k:Int)) 0=some (.int (r:Int))from rfl) ?_)
     refine⟨b,xb,xu,xc,N,w,top,r,c.A,c.U,c.C,rfl,B,T.isA,T.d8,T.fO,ht,hr2,fun st2 B2 l2 f2=>?_⟩
     obtain⟨l1,l2',l3,l4,l5⟩:=O.lo
     have hst:n0≤st1.length:=by
      have:=(List.getElem?_eq_some_iff.mp B.eb).1
      omega
     have O2:Bo n0 st st2 b st1.length (st1.length+1) (st1.length+2):=by
      refine⟨⟨l1,l2',by omega,by omega,by omega⟩,fun m hm h0=>?_,?_⟩
      · rw[f2 m (by omega) (by omega)];exact O.fr m hm h0
      · obtain⟨z,e⟩:=O.tb
        exact⟨z,by rw[f2 0 (by omega) (by omega)];exact e⟩
     have T1:=T.Gi ht hr2
     refine cA B2.eb rfl (aB (aI B2.e1) (du (by have:=T1.isA.len;omega)) (aB rfl (ny (by rw[Mx.cH T1.isA ht];exact hp)) ?_))
     refine K9 (fun h=>eO ?_) fun h=>uP ?_
     · have es:Mx.setB c p top r=⟨Mx.fW (Mx.bw c.A top r) top,Mx.fW (Mx.bw c.U top r) top,Mx.fW (Mx.bw c.C top r) top⟩:=if_pos h
       refine jJ B2.eb rfl ?_
       refine⟨b,_,_,_,N,w,top,_,_,_,rfl,B2,T1.isA,T1.d8,T1.fO,ht,hN,hw,fun st3 B3 l3 f3=>?_⟩
       exact kt st3 _ _ _ c r (by rw[es];exact B3) (O2.low f3) hR hL ht s2
     · have es:Mx.setB c p top r=⟨Mx.bw c.A top r,Mx.bw c.U top r,Mx.bw c.C top r⟩:=if_neg (fun z=>by unfold Mx.g at z;omega)
       exact kt st2 _ _ _ c r (by rw[es];exact B2) O2 hR hL ht s2
noncomputable def g4:bW:=fun ds st K=>∃(b xb xu xc N w top p e u:Nat) (A0 A U C:List (List Int)),ds=[.ref b,.int top,.int p]∧Bn st b xb xu xc A U C∧Mx.Tn A0 A U C N w∧N≤8∧w≤9∧p<w∧top<N∧0<Mx.g A top p∧(∀q,q<p→Mx.g A top q=0)∧
 (∀q,(Mx.g A top q).natAbs≤2^e∧(Mx.g U top q).natAbs≤2^e∧(Mx.g C top q).natAbs≤2^e)∧(∀i q,i<top→(Mx.g A i q).natAbs≤2^u∧(Mx.g U i q).natAbs≤2^u∧(Mx.g C i q).natAbs≤2^u)∧e≤60000000∧u≤60000000∧
 ∀st',Bn st' b xb xu xc (Mx.lX p top top ⟨A,U,C⟩).A (Mx.lX p top top ⟨A,U,C⟩).U (Mx.lX p top top ⟨A,U,C⟩).C→(∀m,m≠xb→m≠xu→m≠xc→st'[m]?=st[m]?)→Mx.pf A0 N w top p e u ⟨A,U,C⟩ top (Mx.lX p top top ⟨A,U,C⟩)→K .aE st'
noncomputable def fm:List Str:=["self","top","place","k"]
noncomputable def qj:DS:=(jj (fV (af (ae 1) ao)) (cw 3) (k6 (i3 az "take" j7 (ae 0) (af (ae 3) (af (av lG (av aY (av aY (dB az "body" (ae 0)) (ae 3)) (ae 2)) (av aY (av aY (dB az "body" (ae 0)) (ae 1)) (ae 2))) (af (ae 1) ao))))))
theorem Bb{X:List (List Int)}{i:Nat}{x:Int}(hx:x∈X.getD i []):∃q,x=Mx.g X i q:=by
 obtain⟨c,hc,rfl⟩:=List.mem_iff_getElem.mp hx
 exact⟨c,by unfold Mx.g;rw[Mx.ba hc]⟩
theorem pB:∀ds st K,g4 ds st K→ds.length=3∧qj {nx:=fun _ st'=>K .aE st',rt:=K} (aR fm ds) st:=by
 rintro ds st K ⟨b,xb,xu,xc,N,w,top,p,e,u,A0,A,U,C,rfl,B,T,hN,hw,hp,ht,htp,hz,hlo,hhi,he,hu,kk⟩
 refine⟨rfl,?_⟩
 refine ju ⟨by omega,by omega⟩ ?_
 rw[Int.toNat_natCast]
 refine og top (fun k σ st'=>∃v3:Option D,σ=[some (.ref b),some (.int top),some (.int p),v3]∧Bn st' b xb xu xc (Mx.lX p top k ⟨A,U,C⟩).A (Mx.lX p top k ⟨A,U,C⟩).U (Mx.lX p top k ⟨A,U,C⟩).C∧(∀m,m≠xb→m≠xu→m≠xc→st'[m]?=st[m]?)∧Mx.pf A0 N w top p e u ⟨A,U,C⟩ k (Mx.lX p top k ⟨A,U,C⟩)) ?_ ?_ ⟨none,rfl,B,fun _ _ _ _=>rfl,Mx.pf.start T fun q=>(hlo q).2.2⟩
 · rintro σ st' ⟨v3,rfl,B',f,I⟩
   exact kk st' B' f I
 · rintro k σ st' rest hk ⟨v3,rfl,B',f,I⟩ next
   refine⟨_,rfl,?_⟩
   have hs:=I.step hk ht hp htp hz (fun q=>⟨(hlo q).1,(hlo q).2.1⟩) hhi
   generalize hc:Mx.lX p top k ⟨A,U,C⟩=c at*
   have lA:=I.tn.isA.len
   have kN:k<N:=by omega
   have gA:∀i q,k≤i→Mx.g c.A i q=Mx.g A i q:=fun i q hi=>by unfold Mx.g;rw[(I.rA i hi).1]
   have gU:∀i q,k≤i→Mx.g c.U i q=Mx.g U i q:=fun i q hi=>by unfold Mx.g;rw[(I.rA i hi).2]
   have gC:∀i q,i≠top→Mx.g c.C i q=Mx.g C i q:=fun i q hi=>by unfold Mx.g;rw[I.rC i hi]
   have hq:((Mx.g c.A k p).fdiv (Mx.g c.A top p)).natAbs≤2^u:=by
    rw[gA k p (Nat.le_refl _),gA top p (by omega)]
    exact Nat.le_trans (Mx.nk _ htp) (hhi k p hk).1
   have htp':Mx.g c.A top p≠0:=by rw[gA top p (by omega)];omega
   refine jJ B'.eb rfl (cA B'.eb rfl (aB (aI B'.e1) (du (by omega)) (aB rfl (ny (by rw[Mx.cH I.tn.isA kN];exact hp)) (cA B'.eb rfl (aB (aI B'.e1) (du (by omega)) (aB rfl (ny (by rw[Mx.cH I.tn.isA ht];exact hp)) (kC htp' ?_)))))))
   refine⟨b,xb,xu,xc,N,w,k,top,c.A,c.U,c.C,_,rfl,B',I.tn.isA,I.tn.d8,I.tn.fO,kN,ht,hN,hw,fun x hx=>?_,fun x hx=>?_,fun x hx=>?_,fun st2 B2 l2 f2=>?_⟩
   · obtain⟨q,rfl⟩:=Bb hx
     rw[gA top q (by omega)]
     exact dG (by rw[Int.natAbs_neg];exact hq) (hlo q).1 (by omega)
   · obtain⟨q,rfl⟩:=Bb hx
     rw[gU top q (by omega)]
     exact dG (by rw[Int.natAbs_neg];exact hq) (hlo q).2.1 (by omega)
   · obtain⟨q,rfl⟩:=Bb hx
     rw[gC k q (by omega)]
     exact dG hq (hhi k q hk).2.2 (by omega)
   · have el:Mx.lX p top (k+1) ⟨A,U,C⟩=⟨Mx.bG c.A k ((Mx.g c.A k p).fdiv (Mx.g c.A top p)) top,Mx.bG c.U k ((Mx.g c.A k p).fdiv (Mx.g c.A top p)) top,Mx.bG c.C top (-((Mx.g c.A k p).fdiv (Mx.g c.A top p))) k⟩:=by rw[←hc];rfl
     refine next _ _ ⟨_,rfl,?_,fun m h1 h2 h3=>(f2 m h1 h2 h3).trans (f m h1 h2 h3),?_⟩
     · rw[el];exact B2
     · rw[el];exact hs
structure Bk(st st':ag):Prop where
 le:st.length≤st'.length
 fr:∀m,m<st.length→m≠0→st'[m]?=st[m]?
 tb:∃f,st'[0]?=some (fv f)
noncomputable def j6:bW:=fun ds st K=>∃(d:D) (N w e0:Nat) (A:List (List Int)) (f:Bool),ds=[d]∧je st d A∧Mx.cT N w A∧1≤N∧N≤8∧w≤9∧Mx.iZ A N 0 (2^e0)∧(∀t,t≤N→Mx.Ez N e0 t≤50000000∧Mx.Vz N e0 t≤60000000)∧st[0]?=some (fv f)∧
 ∀st' (top:Nat) (c:Mx.B3) (ld:Nat→Nat),Mx.nj A N w top c→Mx.gE A N w c top w ld (Mx.Ez N e0 top) (Mx.Vz N e0 top)→Bk st st'→K (.tup [c_ (c.A.take top),c_ c.U,c_ (Mx.Gx c.C N)]) st'
noncomputable def mw:List Str:=["rows","bench","top","place","back"]
noncomputable def BO:DS:=(aH (a_ 1 (BD az ji (af (ae 0) ao)))
 (aH (a_ 2 (dC (.int 0)))
 (aH (jj (fV (af (cq eC (af (av aY (ae 0) (dC (.int 0))) ao)) ao)) (cw 3) (eY (bS (i3 az "gather" kg (ae 1) (af (ae 2) (af (ae 3) ao)))) (aH (k6 (i3 az "lower_above" g4 (ae 1) (af (ae 2) (af (ae 3) ao))))
 (B9 2 (xN (fun i j=>i+j)) (dC (.int 1)))) dM))
 (aH (a_ 4 (aC lV (af (dB az "back_columns" (ae 1)) (af (cq eC (af (ae 0) ao)) ao))))
 (bz (jr (af (aC nQ (af (iW (dB az "body" (ae 1)) gX (kX (ae 2))) ao)) (af (aC nQ (af (dB az "turn" (ae 1)) ao)) (af (ae 4) ao)))))))))
theorem nL{st st':ag}{f:Bool}(h0:st[0]?=some (fv f))(fr:∀m,m<st.length→m≠0→st'[m]?=st[m]?){d:D}{xs:List D}(h:items? st d=some xs):items? st' d=some xs:=by
 cases d with
 |ref n=>
  have e:=Dr h
  have n0:n≠0:=rZ e h0
  rw[aI ((fr n (List.getElem?_eq_some_iff.mp e).1 n0).trans e)]
 |_=>exact h
theorem wL{st st':ag}{f:Bool}(h0:st[0]?=some (fv f))(fr:∀m,m<st.length→m≠0→st'[m]?=st[m]?):∀ {ds:List D} {A:List (List Int)},cC st ds A→cC st' ds A
 | [],[],_=>trivial
 |_::_,_::_,h=>⟨nL h0 fr h.1,wL h0 fr h.2⟩
theorem uT{st st':ag}{f:Bool}(h0:st[0]?=some (fv f))(fr:∀m,m<st.length→m≠0→st'[m]?=st[m]?){d:D}{A:List (List Int)}(h:je st d A):je st' d A:=by
 obtain⟨ds,h1,h2⟩:=h.ex
 exact⟨ds,nL h0 fr h1,wL h0 fr h2⟩
theorem qL{xs:List D}{j:Nat}:L3.cutD xs none (some (j:Int))=xs.take j:=by
 unfold L3.cutD
 rw[HT.Az,HT.ze,List.drop_zero,Nat.sub_zero]
 by_cases h:j≤xs.length
 · rw[Nat.min_eq_left h]
 · rw[Nat.min_eq_right (by omega),List.take_length,List.take_of_length_le (by omega)]
theorem zU:∀ds st K,j6 ds st K→ds.length=1∧BO {nx:=fun _ st'=>K .aE st',rt:=K} (aR mw ds) st:=by
 rintro ds st K ⟨d,N,w,e0,A,f,rfl,hd,hA,hN1,hN,hw,hlo,hsz,h0,kk⟩
 refine⟨rfl,?_⟩
 have lA:=hA.len
 have h0l:0<st.length:=(List.getElem?_eq_some_iff.mp h0).1
 have hd1:je (st++[Cell.ins az []]) d A:=uT h0 (fun m hm _=>List.getElem?_append_left hm) hd
 refine⟨st.length,N,d,A,rfl,by simp,hd1,lA,hN,fun st1 B1 l1 f1=>⟨rfl,?_⟩⟩
 have hl1:(st++[Cell.ins az []]).length=st.length+1:=by simp
 have fr1:∀m,m<st.length→st1[m]?=st[m]?:=fun m hm=>by rw[f1 m (by omega) (by omega),List.getElem?_append_left hm]
 have O1:Bo st.length st st1 st.length (st.length+1) (st.length+1+1) (st.length+1+2):=⟨⟨h0l,by omega,by omega,by omega,by omega⟩,fun m hm _=>fr1 m hm,f,(fr1 0 h0l).trans h0⟩
 rw[hl1]at B1
 have hdk:∀ {st':ag},(∀m,m<st.length→m≠0→st'[m]?=st[m]?)→je st' d A:=fun h=>uT h0 h hd
 obtain⟨da,hda,hra⟩:=(hdk O1.fr).ex
 have hdl:=hra.len
 have hrow0:∃d0,da[0]?=some d0∧items? st1 d0=some (aJ (A.getD 0 [])):=by
  have hi:0<da.length:=by omega
  obtain⟨r,e1,e2⟩:=cC.get hra (List.getElem?_eq_getElem hi)
  refine⟨da[0],List.getElem?_eq_getElem hi,?_⟩
  have:A.getD 0 []=r:=by rw[List.getD_eq_getElem?_getD,e1];rfl
  rw[this];exact e2
 obtain⟨d0,hd0,hi0⟩:=hrow0
 have er:(aJ (A.getD 0 [])).length=w:=by unfold aJ;rw[List.length_map];exact Mx.cH hA (by omega)
 try dsimp only[ao]
 refine gW (A:=a_ 2 _) (fun σ st'=>σ=[some d,some (.ref st.length),some (.int 0),none,none]∧st'=st1) (fun nx h=>h _ _ ⟨rfl,rfl⟩) ?_
 rintro _ _ ⟨rfl,rfl⟩
 refine gW (A:=jj _ _ _) (fun σ st'=>∃(top xb xu xc:Nat) (v3:Option D) (c:Mx.B3) (ld:Nat→Nat),σ=[some d,some (.ref st.length),some (.int top),v3,none]∧Bn st' st.length xb xu xc c.A c.U c.C∧Bo st.length st st' st.length xb xu xc∧Mx.nj A N w top c∧Mx.gE A N w c top w ld (Mx.Ez N e0 top) (Mx.Vz N e0 top)) (fun nx hnx=>?_) ?_
 · refine aB hda (show eB da 0=some d0 from ki (j:=0) hd0) (df hi0 ?_)
   rw[er]
   refine ju ⟨by omega,by omega⟩ ?_
   rw[Int.toNat_natCast]
   refine og w (fun p σ st'=>∃(top xb xu xc:Nat) (v3:Option D) (c:Mx.B3) (ld:Nat→Nat),σ=[some d,some (.ref st.length),some (.int top),v3,none]∧Bn st' st.length xb xu xc c.A c.U c.C∧Bo st.length st st' st.length xb xu xc∧Mx.nj A N p top c∧Mx.gE A N w c top p ld (Mx.Ez N e0 top) (Mx.Vz N e0 top)) ?_ ?_ ⟨0,_,_,_,none,⟨A,Mx.units N,Mx.units N⟩,fun _=>0,rfl,B1,O1,.start,Mx.gE.start hA hlo⟩
   · rintro σ st' ⟨top,xb,xu,xc,v3,c,ld,rfl,B,O,hC,S⟩
     exact hnx _ _ ⟨top,xb,xu,xc,v3,c,ld,rfl,B,O,hC,S⟩
   · rintro p σ st' rest hp ⟨top,xb,xu,xc,v3,c,ld,rfl,B,O,hC,S⟩ next
     refine⟨_,rfl,?_⟩
     have hle:=S.le
     have hz1:(N-top+1)*(Mx.Ez N e0 top+1)≤60000000:=by
      by_cases ht:top<N
      · exact Nat.le_trans (hsz (top+1) ht).1 (by decide)
      · have e:N-top=0:=by omega
        rw[e]
        have:=(hsz top hle).1
        omega
     refine jJ B.eb rfl ?_
     refine⟨st.length,st.length,xb,xu,xc,N,w,top,p,_,_,A,c.A,c.U,c.C,ld,rfl,B,⟨O.lo,fun _ _ _=>rfl,O.tb⟩,S,hN,hw,hp,hz1,fun st2 B2 O2 hL=>?_,fun st2 xb2 xu2 xc2 c2 r B2 O2 hR hL ht s1=>?_⟩
     · exact uP (next _ _ ⟨top,xb,xu,xc,_,c,ld,rfl,B2,⟨O2.lo,fun m h1 h2=>(O2.fr m h1 h2).trans (O.fr m h1 h2),O2.tb⟩,.next hC (.none hL),S.skip hL⟩)
     · refine eO ?_
       have O2':Bo st.length st st2 st.length xb2 xu2 xc2:=⟨O2.lo,fun m h1 h2=>(O2.fr m h1 h2).trans (O.fr m h1 h2),O2.tb⟩
       have hup:∀i q,i<top→Mx.g (Mx.setB c2 p top r).A i q=Mx.g c.A i q∧Mx.g (Mx.setB c2 p top r).U i q=Mx.g c.U i q∧Mx.g (Mx.setB c2 p top r).C i q=Mx.g c.C i q:=fun i q hi=>by
        obtain⟨a1,a2,a3⟩:=s1.up i hi
        unfold Mx.g
        rw[a1,a2,a3]
        exact⟨rfl,rfl,rfl⟩
       refine jJ B2.eb rfl ?_
       refine⟨st.length,xb2,xu2,xc2,N,w,top,p,Mx.Ez N e0 (top+1),Mx.Vz N e0 top,A,_,_,_,rfl,B2,s1.tn,hN,hw,hp,ht,s1.tp,fun q hq=>s1.zs top q (Nat.le_refl _) ht hq,fun q=>⟨s1.lo.1 top q (Nat.le_refl _) ht,s1.lo.2.1 top q (Nat.le_refl _) ht,s1.lo.2.2 top q (Nat.le_refl _) ht⟩,fun i q hi=>?_,Nat.le_trans (hsz (top+1) ht).1 (by decide),Nat.le_trans (hsz top hle).2 (by decide),fun st3 B3 f3 I=>?_⟩
       · obtain⟨a1,a2,a3⟩:=hup i q hi
         rw[a1,a2,a3]
         exact S.hi i q hi
       · have hS:=Mx.vE.next (e':=Mx.Ez N e0 (top+1)) (u':=Mx.Vz N e0 (top+1)) S s1 ht I hN (by show _≤Mx.Vz N e0 top+Mx.Vz N e0 top+Mx.Ez N e0 (top+1)+5;omega) (by show _≤Mx.Vz N e0 top+Mx.Vz N e0 top+Mx.Ez N e0 (top+1)+5;omega)
         exact next _ _ ⟨top+1,xb2,xu2,xc2,_,_,_,rfl,B3,O2'.low f3,.next hC (.one hR hL),hS⟩
 · rintro σ st2 ⟨top,xb,xu,xc,v3,c,ld,rfl,B,O,hC,S⟩
   have T:=S.tn
   have lN:=T.isA.len
   refine cA B.eb rfl ?_
   obtain⟨da2,hda2,hra2⟩:=(hdk O.fr).ex
   refine df hda2 ?_
   rw[hra2.len,lA]
   refine⟨_,c.C,N,rfl,⟨_,aI B.e3,cC.lst⟩,T.fO.lP,by rw[T.fO.len];omega,by omega,?_⟩
   refine cA B.eb rfl (C4 B.e1 ?_)
   rw[qL,←List.map_take]
   refine⟨_,c.A.take top,rfl,⟨_,rfl,cC.lst⟩,by rw[List.length_take];omega,?_⟩
   refine cA B.eb rfl ?_
   refine⟨_,c.U,rfl,⟨_,aI B.e2,cC.lst⟩,by rw[T.d8.len];omega,?_⟩
   refine⟨by show 3≤sizeLine;decide,?_⟩
   refine kk st2 top c ld hC S ⟨?_,O.fr,O.tb⟩
   have:=(List.getElem?_eq_some_iff.mp B.eb).1
   omega
structure Wf(F:List (List Int))(m w:Nat):Prop where
 is:Mx.cT m w F
 st:Mx.cv F m w (Mx.cM F)
 m8:m≤8
 w8:w≤8
 sm:∀k c,k<m→c<w→(Mx.g F k c).natAbs≤2^887
theorem Wf.lead{F:List (List Int)}{m w i:Nat}(h:Wf F m w)(hi:i<m):Mx.cM F i<w∧0<Mx.g F i (Mx.cM F i)∧(F.getD i []).length=w∧iD (F.getD i [])= .int ((Mx.cM F i:Nat):Int):=by
 obtain⟨l1,l2,l3⟩:=h.st.lead i hi
 refine⟨l1,l2,h.is.row hi,?_⟩
 unfold iD
 rw[Dd l3 (Int.ne_of_gt l2)]
theorem Wf.row{F:List (List Int)}{m w i:Nat}(h:Wf F m w)(hi:i<m):∀x∈F.getD i [],x.natAbs≤2^887:=fun x hx=>by
 obtain⟨c,hc,rfl⟩:=List.mem_iff_getElem.mp hx
 have hw:=h.is.row hi
 have:=h.sm i c hi (by omega)
 unfold Mx.g at this
 rwa [Mx.ba hc]at this
theorem Hz{x:Int}(h:x.natAbs≤2^887)(h0:x≠0):x.natAbs.log2<9000:=
 (Nat.log2_lt (by omega)).mpr (Nat.lt_of_le_of_lt h (Nat.pow_lt_pow_right (by decide) (by decide)))
theorem drop_cons{F:List (List Int)}{i:Nat}{d:D}{rest:List D}(hr:d::rest=(F.map bo).drop i):i<F.length∧d=bo (F.getD i [])∧rest=(F.map bo).drop (i+1):=by
 have hi:i<F.length:=by
  rcases Nat.lt_or_ge i F.length with h|h
  · exact h
  · rw[List.drop_eq_nil_of_le (by rw[List.length_map];exact h)]at hr;cases hr
 rw[List.drop_eq_getElem_cons (by rw[List.length_map];exact hi),List.getElem_map]at hr
 obtain⟨h1,h2⟩:=List.cons.inj hr
 exact⟨hi,by rw[Mx.ba hi];exact h1,h2⟩
theorem drop_nil{F:List (List Int)}{i:Nat}(hr: []=(F.map bo).drop i):F.length≤i:=by
 have:=congrArg List.length hr
 rw[List.length_drop,List.length_map,List.length_nil]at this
 omega
theorem JX{i:Nat}{σ:bV}{st:ag}{K:DK}{d:D}(h:σ[i]?=some (some d))(k:K d st):ae i σ st K:=by
 unfold ae
 simp only[h]
 exact k
noncomputable def nO:bW:=fun ds st K=>∃(dr:D) (F:List (List Int)) (r:List Int) (m w e:Nat),ds=[c_ F,dr]∧Wf F m w∧items? st dr=some (aJ r)∧r.length=w∧(∀c,c<w→(r.getD c 0).natAbs≤2^e)∧e≤10000∧∀st',Ext st st'→K (.tup [bo (Mx.pZ F r m),bo (Mx.c5 F r m)]) st'
noncomputable def nJ:List Str:=["form","row","weights","left","each","lead","weight"]
noncomputable def Dz:DS:=(aH (a_ 2 (xI ao))
 (aH (a_ 3 (cq mq (af (ae 1) ao)))
 (aH (jj (eZ (ae 0)) (cw 4) (aH (a_ 5 (aC ix (af (ae 4) ao)))
 (aH (a_ 6 (av oa (av aY (ae 3) (ae 5)) (av aY (ae 4) (ae 5))))
 (aH (k6 (mH (ae 2) (ae 6)))
 (a_ 3 (aC ky (af (ae 3) (af (nM iU (ae 6)) (af (ae 4) ao)))))))))
 (bz (jr (af (cq dD (af (ae 2) ao)) (af (cq dD (af (ae 3) ao)) ao)))))))
theorem BA:∀ds st K,nO ds st K→ds.length=2∧Dz {nx:=fun _ st'=>K .aE st',rt:=K} (aR nJ ds) st:=by
 rintro ds st K ⟨dr,F,r,m,w,e,rfl,hW,hr,lr,br,he,k⟩
 refine⟨rfl,?_⟩
 have lF:=hW.is.len
 have m8:=hW.m8
 have w8:=hW.w8
 refine⟨Nat.le_of_ble_eq_true rfl,?_⟩
 have X0:Ext st (st++[.lst []]):=Ext.push
 have e0:(st++[Cell.lst []])[st.length]?=some (.lst (aJ [])):=by simp
 refine oM (X0.items hr) (jx ?_)
 refine gM (fun rest σ st'=>∃(i:Nat) (v4 v5 v6:Option D),i≤m∧rest=(F.map bo).drop i∧σ=[some (c_ F),some dr,some (.ref st.length),some (a9 (Mx.c5 F r i)),v4,v5,v6]∧Ext st st'∧st'[st.length]?=some (.lst (aJ (Mx.pZ F r i)))) ?_ ?_ _ _ _ ⟨0,none,none,none,Nat.zero_le _,rfl,rfl,X0,e0⟩
 · rintro σ st' ⟨i,v4,v5,v6,hi,hrest,rfl,X,ew⟩
   have e1:i=m:=Nat.le_antisymm hi (by rw[←lF];exact drop_nil hrest)
   subst e1
   exact⟨trivial,di (aI ew) (di rfl ⟨Nat.le_of_ble_eq_true rfl,k st' X⟩)⟩
 · rintro x rest σ st' ⟨i,v4,v5,v6,hi,hrest,rfl,X,ew⟩ next
   obtain⟨hiF,rfl,rfl⟩:=drop_cons hrest
   have him:i<m:=by rw[←lF];exact hiF
   obtain⟨l1,l2,wF,eld⟩:=hW.lead him
   have lL:=Mx.mJ hW.is lr (i:=i) (Nat.le_of_lt him)
   refine⟨trivial,_,rfl,_,F.getD i [],rfl,rfl,?_⟩
   rw[eld]
   have at1:eB (aJ (F.getD i [])) ((Mx.cM F i:Nat):Int)=some (.int (Mx.g F i (Mx.cM F i))):=jy (by omega)
   have at2:eB (aJ (Mx.c5 F r i)) ((Mx.cM F i:Nat):Int)=some (.int ((Mx.c5 F r i).getD (Mx.cM F i) 0)):=jy (by omega)
   refine aB rfl at2 (aB rfl at1 (vx (by omega) (Hz (hW.sm i _ him l1) (by omega)) ?_))
   have bx:=Mx.r9 hW.is lr hW.st hW.sm br (Nat.le_of_lt him) _ l1
   have bq:(Mx.qv F (Mx.c5 F r i) i).natAbs≤2^(e+i*(887+1)):=Nat.le_trans (Mx.nk _ l2) bx
   show aH _ _ _ [_,_,_,_,_,_,some (.int (Mx.qv F (Mx.c5 F r i) i))] _
   have lW:(Mx.pZ F r i).length=i:=by unfold Mx.pZ;simp
   refine Cm (by rfl) ew (JX rfl (AR ew (by rw[sizeLine_eq,List.length_map,lW];omega) ?_))
   have hlt:=(List.getElem?_eq_some_iff.mp ew).1
   refine iY ?_
   refine⟨_,_,_,Mx.c5 F r i,F.getD i [],rfl,rfl,rfl,by omega,fun b hb=>dG (by rw[Int.natAbs_neg];exact bq) (hW.row him b hb) (by omega),?_⟩
   refine next _ _ ⟨i+1,_,_,_,him,rfl,rfl,X.set (Nat.le_refl _),?_⟩
   rw[List.getElem?_set_self hlt,ints_app]
   congr 3
   unfold Mx.pZ
   rw[List.range_succ,List.map_append]
   rfl
noncomputable def se:bW:=fun ds st K=>∃(dr:D) (F:List (List Int)) (r:List Int) (m w e:Nat),ds=[c_ F,dr]∧Wf F m w∧items? st dr=some (aJ r)∧r.length=w∧(∀c,c<w→(r.getD c 0).natAbs≤2^e)∧e≤10000∧∀st',Ext st st'→K (bo (Mx.c5 F r m)) st'
noncomputable def sh:List Str:=["form","row"]
noncomputable def GD:DS:=(bz (av aY (aC nO (af (ae 0) (af (ae 1) ao))) (dC (.int 1))))
theorem FA:∀ds st K,se ds st K→ds.length=2∧GD {nx:=fun _ st'=>K .aE st',rt:=K} (aR sh ds) st:=by
 rintro ds st K ⟨dr,F,r,m,w,e,rfl,hW,hr,lr,br,he,k⟩
 exact⟨rfl,dr,F,r,m,w,e,rfl,hW,hr,lr,br,he,fun st' X=>aB rfl rfl (k st' X)⟩
noncomputable def um(st:ag):List D→List Rat→Prop
 | [],[]=>True
 |d::ds,q::qs=>items? st d=some [.int q.num,.int ((q.den:Nat):Int)]∧um st ds qs
 |_,_=>False
theorem um.of{st:ag}:∀ {ps:List Rat},um st (ps.map fP) ps
 | []=>trivial
 |_::_=>⟨rfl,um.of⟩
noncomputable def i5:bW:=fun ds st K=>∃(dp dr:D) (xs:List D) (ps:List Rat) (r:List Int) (t e:Nat),ds=[dp,dr]∧items? st dp=some xs∧um st xs ps∧items? st dr=some (aJ r)∧Mx.Pb ps t∧(∀x∈r,x.natAbs≤2^e)∧t+ps.length*(e+1)≤60000000∧K (fP (Mx.j8 0 ps r)) st
noncomputable def kQ:List Str:=["parts","row","total","one","number"]
noncomputable def zW:DS:=(aH (a_ 2 (aC ka (af (dC (.int 0)) ao)))
 (aH (jj (tN (af (ae 0) (af (ae 1) ao))) (jd 3 4) (a_ 2 (aC yR (af (ae 2) (af (aC vY (af (ae 3) (af (aC ka (af (ae 4) ao)) ao))) ao)))))
 (bz (ae 2))))
theorem zp:∀ds st K,i5 ds st K→ds.length=2∧zW {nx:=fun _ st'=>K .aE st',rt:=K} (aR kQ ds) st:=by
 rintro ds st K ⟨dp,dr,xs,ps,r,t,e,rfl,hp,hx,hr,hP,hsm,hB,k⟩
 refine⟨rfl,?_⟩
 refine⟨_,rfl,?_⟩
 refine qz hp hr fun ok aL=>?_
 refine gM (fun rest σ st'=>st'=st∧∃(xs':List D) (ps':List Rat) (r':List Int) (tot:Rat) (T C:Nat) (v3 v4:Option D),rest=fY xs' (aJ r')∧um st xs' ps'∧σ=[some dp,some dr,some (fP tot),v3,v4]∧Mx.Sz tot T∧Mx.Pb ps' C∧(∀x∈r',x∈r)∧Mx.j8 tot ps' r'=Mx.j8 0 ps r∧T+C+ps'.length*(e+1)≤60000000) ?_ ?_ _ _ _ ⟨rfl,xs,ps,r,0,0,t,none,none,rfl,hx,rfl,⟨by decide,by decide⟩,hP,fun _ h=>h,rfl,by omega⟩
 · rintro σ st' ⟨rfl,xs',ps',r',tot,T,C,v3,v4,he,hx',rfl,hT,hC,_,hd,hle⟩
   refine⟨aL _ hp hr,?_⟩
   have:Mx.j8 tot ps' r'=tot:=by
    match xs',ps',r',hx',he with
    | [],[],_,_,_=>unfold Mx.j8;rfl
    |_::_,_::_,[],_,_=>unfold Mx.j8;rfl
    |_::_,_::_,_::_,_,he=>cases he
   rw[←hd,this]at k
   exact k
 · rintro x rest σ st' ⟨rfl,xs',ps',r',tot,T,C,v3,v4,he,hx',rfl,hT,hC,hm,hd,hle⟩ next
   match xs',ps',r',he,hx',hC,hm,hd,hle with
   | [],[],_,he,_,_,_,_,_=>cases he
   |_::_,_::_,[],he,_,_,_,_,_=>cases he
   |d::xs',p::ps',n::r',he,hx',⟨a,C',ha,hC',hbC⟩,hm,hd,hle=>
    have hz:fY (d::xs') (aJ (n::r'))= .tup [d,.int n]::fY xs' (aJ r'):=rfl
    rw[hz,List.cons.injEq]at he
    obtain⟨rfl,rfl⟩:=he
    have hn:=hsm n (hm n List.mem_cons_self)
    rw[List.length_cons,Nat.succ_mul]at hle
    have s1:=Mx.Sz.int hn
    refine⟨aL _ hp hr,_,rfl,?_⟩
    refine⟨_,rfl,d,_,p,(n:Rat),a,e,rfl,⟨hx'.1,ha⟩,Fq.of s1,by omega,?_⟩
    refine⟨_,_,tot,p*(n:Rat),T,a+e,rfl,Fq.of hT,Fq.of (ha.mul s1),by omega,?_⟩
    exact next _ _ ⟨rfl,xs',ps',r',_,_,C',_,_,rfl,hx'.2,rfl,hT.add (ha.mul s1),hC',fun x hx=>hm x (List.mem_cons_of_mem _ hx),hd,by omega⟩
noncomputable def oq:bW:=fun ds st K=>∃(F:List (List Int)) (R:List Int) (m w l:Nat),ds=[c_ F,bo R,.int l]∧Wf F m w∧R.length=w∧l<w∧∀b:Int,Mx.y0 F m l (R.getD l 0) b→K (.int b) st
noncomputable def kK:List Str:=["form","rest","place","row"]
noncomputable def z9:DS:=(aH (jj (eZ (ae 0)) (cw 3) (eY (bS (av gg (aC ix (af (ae 3) ao)) (ae 2))) (bz (av aY (ae 3) (ae 2))) dM))
 (bz (av cF (dC (.int 2)) (cq pF (af (av aY (ae 1) (ae 2)) ao)))))
theorem xU:∀ds st K,oq ds st K→ds.length=3∧z9 {nx:=fun _ st'=>K .aE st',rt:=K} (aR kK ds) st:=by
 rintro ds st K ⟨F,R,m,w,l,rfl,hW,lR,hl,k⟩
 refine⟨rfl,?_⟩
 have lF:=hW.is.len
 refine jx ?_
 refine gM (fun rest σ st'=>st'=st∧∃(i:Nat) (v3:Option D),i≤m∧rest=(F.map bo).drop i∧σ=[some (c_ F),some (bo R),some (.int l),v3]∧∀k,k<i→Mx.cM F k≠l) ?_ ?_ _ _ _ ⟨rfl,0,none,Nat.zero_le _,rfl,rfl,fun k h=>absurd h (Nat.not_lt_zero _)⟩
 · rintro σ st' ⟨rfl,i,v3,hi,hrest,rfl,hn⟩
   have:=drop_nil hrest
   exact⟨trivial,aB rfl (jy (by omega)) (qZ (dE (iP (by decide) (by decide)) (k _ (.inr ⟨fun k hk=>hn k (by omega),rfl⟩))))⟩
 · rintro x rest σ st' ⟨rfl,i,v3,hi,hrest,rfl,hn⟩ next
   obtain⟨hiF,rfl,rfl⟩:=drop_cons hrest
   have him:i<m:=by rw[←lF];exact hiF
   obtain⟨l1,l2,wF,eld⟩:=hW.lead him
   refine⟨trivial,_,rfl,_,F.getD i [],rfl,rfl,?_⟩
   rw[eld]
   refine eq2 (fun h=>eO ?_) fun h=>next _ _ ⟨rfl,i+1,_,him,rfl,rfl,fun k hk=>?_⟩
   · have hh:Mx.cM F i=l:=by omega
     exact aB rfl (jy (by omega)) (k _ (.inl ⟨i,him,hh,rfl⟩))
   · by_cases q:k=i
     · subst q;omega
     · exact hn k (by omega)
theorem we:∀(r:List Int) (i l:Nat),iN r i=some l→∃k,l=i+k∧k<r.length∧r.getD k 0≠0∧∀c,c<k→r.getD c 0=0
 | [],_,_,h=>by cases h
 |x::r,i,l,h=>by
  unfold iN at h
  split at h
  · rename_i hx
    obtain⟨k,e,hk,hr,hz⟩:=we r (i+1) l h
    refine⟨k+1,by omega,Nat.succ_lt_succ hk,hr,fun c hc=>?_⟩
    cases c with
    |zero=>exact hx
    |succ c=>exact hz c (Nat.lt_of_succ_lt_succ hc)
  · cases h
    exact⟨0,rfl,Nat.succ_pos _,by assumption,fun c hc=>absurd hc (Nat.not_lt_zero _)⟩
theorem ow{r:List Int}{l:Nat}(h:ij r=some l):l<r.length∧r.getD l 0≠0∧∀c,c<l→r.getD c 0=0:=by
 obtain⟨k,e,h1,h2,h3⟩:=we r 0 l h
 rw[Nat.zero_add]at e
 subst e
 exact⟨h1,h2,h3⟩
noncomputable def j4:bW:=fun ds st K=>∃(F:List (List Int)) (R:List Int) (m w e l:Nat),ds=[c_ F,bo R]∧Wf F m w∧R.length=w∧ij R=some l∧(∀c,c<w→(R.getD c 0).natAbs≤2^e)∧e≤10000∧∀st' b,Ext st st'→Mx.y0 F m l (R.getD l 0) b→Mx.Pb (Mx.lQ F m w l (Mx.iR w l b) m) 10000000→K (.tup ((Mx.lQ F m w l (Mx.iR w l b) m).map fP)) st'
noncomputable def g8:List Str:=["form","rest","place","parts","k","lead","owed"]
noncomputable def uq:DS:=(aH (a_ 2 (aC ix (af (ae 1) ao)))
 (aH (a_ 3 (av u_ (oy (af (aC ka (af (dC (.int 0)) ao)) ao)) (cq eC (af (ae 1) ao))))
 (aH (eA (ae 3) (ae 2) (aC nv (af (dC (.int 1)) (af (aC oq (af (ae 0) (af (ae 1) (af (ae 2) ao)))) ao))))
 (aH (jj (vU (af (av lS (cq eC (af (ae 0) ao)) (dC (.int 1))) (af (nM iU (dC (.int 1))) (af (nM iU (dC (.int 1))) ao)))) (cw 4) (aH (a_ 5 (aC ix (af (av aY (ae 0) (ae 4)) ao)))
 (eY (bS (av p_ (ae 5) (ae 2))) (aH (a_ 6 (aC vq (af (aC ka (af (dC (.int 0)) ao)) (af (aC i5 (af (ae 3) (af (av aY (ae 0) (ae 4)) ao))) ao))))
 (eA (ae 3) (ae 5) (aC yZ (af (ae 6) (af (aC ka (af (av aY (av aY (ae 0) (ae 4)) (ae 5)) ao)) ao))))) dM)))
 (bz (cq dD (af (ae 3) ao)))))))
theorem lj(a:Int)(n:Nat):(gv a n).length=n:=by unfold gv;simp
theorem Cf{m i:Nat}{d:D}{rest:List D}(hr:d::rest=(gv ((m:Int)-1) m).drop i):i<m∧d= .int ((m-1-i:Nat):Int)∧rest=(gv ((m:Int)-1) m).drop (i+1):=by
 have hi:i<m:=by
  rcases Nat.lt_or_ge i m with h|h
  · exact h
  · rw[List.drop_eq_nil_of_le (by rw[lj];exact h)]at hr;cases hr
 have hl:i<(gv ((m:Int)-1) m).length:=by rw[lj];exact hi
 rw[List.drop_eq_getElem_cons hl]at hr
 obtain⟨h1,h2⟩:=List.cons.inj hr
 refine⟨hi,?_,h2⟩
 have h3:(gv ((m:Int)-1) m)[i]=D.int ((m:Int)-1+(i:Nat)*(-1)):=by simp[gv]
 rw[h1,h3]
 congr 1
 omega
theorem Ar{A:List (List Int)}{k:Nat}(h:k<A.length):eB (A.map bo) (k:Int)=some (bo (A.getD k [])):=by
 refine ki ?_
 rw[List.getElem?_map,List.getElem?_eq_getElem h,Mx.ba h];rfl
theorem yG{α:Type}(d:α):∀n:Nat,(List.replicate n [d]).flatten=List.replicate n d
 |0=>rfl
 |n+1=>by rw[List.replicate_succ,List.flatten_cons,yG d n,List.replicate_succ];rfl
theorem Ff{ps:List Rat}{r:List Int}{w:Nat}(h1:ps.length=w)(h2:r.length=w):Mx.j8 0 ps r=Mx.dq ps w fun c=>r.getD c 0:=by
 rw[Mx.DG ps r 0 h1 h2]
 grind
theorem tJ:∀ds st K,j4 ds st K→ds.length=2∧uq {nx:=fun _ st'=>K .aE st',rt:=K} (aR g8 ds) st:=by
 rintro ds st K ⟨F,R,m,w,e,l,rfl,hW,lR,el,bR,he,k⟩
 refine⟨rfl,?_⟩
 have lF:=hW.is.len
 have m8:=hW.m8
 have w8:=hW.w8
 obtain⟨hl,hne,_⟩:=ow el
 rw[lR]at hl
 have el':iD R= .int (l:Int):=by unfold iD;rw[el]
 refine⟨_,R,rfl,rfl,?_⟩
 rw[el']
 refine⟨_,rfl,Nat.le_of_ble_eq_true rfl,df rfl (Hl ⟨by omega,by rw[List.length_map];omega,cp (by simp;omega)⟩ ?_)⟩
 rw[List.length_map,lR,Int.toNat_natCast,yG]
 have er:List.replicate w (fP ((0:Int):Rat))=(List.replicate w (0:Rat)).map fP:=by rw[List.map_replicate];rfl
 rw[er]
 have X0:Ext st (st++[.lst ((List.replicate w (0:Rat)).map fP)]):=Ext.push
 have e0:(st++[Cell.lst ((List.replicate w (0:Rat)).map fP)])[st.length]?=some (.lst ((List.replicate w (0:Rat)).map fP)):=by simp
 generalize st++[Cell.lst ((List.replicate w (0:Rat)).map fP)]=st1 at X0 e0⊢
 refine⟨F,R,m,w,l,rfl,hW,lR,hl,fun b hb=>?_⟩
 have b0:=hb.pos hW.st hne
 have bb:b.natAbs≤2^(e+888):=by
  rcases hb with⟨k,hk,_,rfl⟩|⟨_,rfl⟩
  · exact Nat.le_trans (hW.sm k l hk hl) (Nat.pow_le_pow_right (by decide) (by omega))
  · have:=bR l hl
    rw[show e+888=e+887+1 by omega,Nat.pow_succ]
    have p:2^e≤2^(e+887):=Nat.pow_le_pow_right (by decide) (by omega)
    omega
 refine⟨_,_,rfl,by omega,?_⟩
 have hix:∀ {n i:Nat},i<n→j9 n (i:Int)=some i:=fun{n i} h=>by
  unfold j9
  simp only[Int.natCast_nonneg,Int.toNat_natCast]
  simp[h]
 refine ik e0 (hix (by simpa using hl)) ?_
 have hlt:=(List.getElem?_eq_some_iff.mp e0).1
 refine df rfl (lB (iY (iY ?_)))
 rw[List.length_map,lF]
 refine Hb ⟨by omega,by omega,by decide,by decide⟩ ?_
 rw[show((m:Int)-1- -1).toNat=m by omega]
 have p0:Mx.Pb (Mx.iR w l b) (e+888):=by
  have:=(Mx.Pb.rep w).set (k:=l) (Mx.Sz.of (t:=1) (by omega) (show(1:Int).natAbs≤2^(e+888)from Nat.pow_pos (by decide)) bb)
  rwa [Nat.zero_add]at this
 refine gM (fun rest σ st'=>∃(i t:Nat) (v4 v5 v6:Option D),i≤m∧rest=(gv ((m:Int)-1) m).drop i∧σ=[some (c_ F),some (bo R),some (.int l),some (.ref st.length),v4,v5,v6]∧Ext st st'∧st'[st.length]?=some (.lst ((Mx.lQ F m w l (Mx.iR w l b) i).map fP))∧Mx.Pb (Mx.lQ F m w l (Mx.iR w l b) i) t∧t+8000≤2^i*(e+8888)) ?_ ?_ _ _ _ ⟨0,e+888,none,none,none,Nat.zero_le _,rfl,rfl,X0.set (Nat.le_refl _),by rw[List.getElem?_set_self hlt,←List.map_set];rfl,p0,by omega⟩
 · rintro σ st' ⟨i,t,v4,v5,v6,hi,hrest,rfl,X,ep,hP,ht⟩
   have e1:i=m:=by
    have:=congrArg List.length hrest
    rw[List.length_drop,lj,List.length_nil]at this
    omega
   subst e1
   have h2i:2^i≤256:=Nat.le_trans (Nat.pow_le_pow_right (by decide) m8) (by decide)
   have:=Nat.mul_le_mul h2i (show e+8888≤18888 by omega)
   exact⟨trivial,di (aI ep) (k st' b X hb (hP.mono (by omega)))⟩
 · rintro x rest σ st' ⟨i,t,v4,v5,v6,hi,hrest,rfl,X,ep,hP,ht⟩ next
   obtain⟨him,rfl,rfl⟩:=Cf hrest
   have P:=Mx.mY.all b hW.st hl (i:=i) hi
   have hstep:Mx.lQ F m w l (Mx.iR w l b) (i+1)=Mx.Dn F w l (Mx.lQ F m w l (Mx.iR w l b) i) (m-1-i):=rfl
   generalize Mx.lQ F m w l (Mx.iR w l b) i=ps at P hP ep hstep
   generalize hj:m-1-i=j at hstep
   have hjm:j<m:=by omega
   obtain⟨l1,l2,wF,eld⟩:=hW.lead hjm
   have lp:=P.len
   have hat:eB (F.map bo) (j:Int)=some (bo (F.getD j [])):=Ar (by omega)
   refine⟨trivial,_,rfl,aB rfl hat ⟨_,F.getD j [],rfl,rfl,?_⟩⟩
   rw[eld]
   have h2i:2^i≤128:=Nat.le_trans (Nat.pow_le_pow_right (by decide) (show i≤7 by omega)) (by decide)
   have ht2:=Nat.mul_le_mul h2i (show e+8888≤18888 by omega)
   have e2:2^(i+1)*(e+8888)=2^i*(e+8888)+2^i*(e+8888):=by rw[Nat.pow_succ,Nat.mul_two,Nat.add_mul]
   unfold Mx.Dn at hstep
   refine K9 (fun hlp=>eO ?_) fun hlp=>?_
   · rw[if_pos (by omega)]at hstep
     have hpl:ps.length*(887+1)≤8*888:=Nat.mul_le_mul (by omega) (by decide)
     refine⟨_,rfl,aB rfl hat ⟨_,_,_,ps,F.getD j [],t,887,rfl,aI ep,um.of,rfl,hP,hW.row hjm,by omega,?_⟩⟩
     have sd:=Mx.Pb.j8 (r:=F.getD j []) (x:=0) (s:=0) ⟨by decide,by decide⟩ hP (hW.row hjm)
     rw[Ff lp wF]at sd⊢
     refine⟨_,_,0,_,0,_,rfl,Fq.of ⟨by decide,by decide⟩,Fq.of sd,by omega,?_⟩
     have hnum:(((Mx.g F j (Mx.cM F j):Int)):Rat).num≠0:=by
      show Mx.g F j (Mx.cM F j)≠0
      omega
     have sg:=Mx.Sz.int (hW.sm j _ hjm l1)
     refine aB rfl hat (aB rfl (jy (by omega)) ⟨_,rfl,_,_,_,_,_,_,rfl,Fq.of sd.neg,Fq.of sg,by omega,hnum,?_⟩)
     refine ik ep (hix (by rw[List.length_map];omega)) ?_
     have hlt2:=(List.getElem?_eq_some_iff.mp ep).1
     refine next _ _ ⟨i+1,t+(0+t+ps.length*(887+1)+887),_,_,_,him,rfl,rfl,X.set (Nat.le_refl _),?_,?_,?_⟩
     · rw[List.getElem?_set_self hlt2,←List.map_set,hstep]
       rfl
     · rw[hstep]
       exact hP.set (sd.neg.div sg hnum)
     · omega
   · rw[if_neg (by omega)]at hstep
     refine next _ _ ⟨i+1,t,_,_,_,him,rfl,rfl,X,?_,?_,?_⟩
     · rw[hstep];exact ep
     · rw[hstep];exact hP
     · omega
structure Oa(F U:List (List Int))(m N w:Nat)(r:List Int)(x:D):Prop where
 st:Mx.cv F m w (Mx.cM F)
 or:(ij (Mx.c5 F r m)=none∧x= .tup [.str "told",bo (Mx.eV (Mx.pZ F r m) (U.take m) (List.replicate N 0))])∨∃l b,ij (Mx.c5 F r m)=some l∧Mx.y0 F m l ((Mx.c5 F r m).getD l 0) b∧x= .tup [.str "none",.tup ((Mx.lQ F m w l (Mx.iR w l b) m).map fP)]
structure Oh(A:List (List Int))(N w:Nat)(r:List Int)(x:D):Prop where
 ex:∃top c,Mx.nj A N w top c∧Oa (c.A.take top) c.U top N w r x
noncomputable def MQ(A:List (List Int))(N w:Nat)(r:List Int)(x:D):Prop:=
 (∃W:List Int,x= .tup [.str "told",bo W]∧W.length=N∧∀c,c<w→(Mx.S N fun n=>W.getD n 0*Mx.g A n c)=r.getD c 0)∨
 (∃ps:List Rat,x= .tup [.str "none",.tup (ps.map fP)]∧ps.length=w∧Mx.Pb ps 10000000∧(∀n,n<N→Mx.Wh (Mx.dq ps w (Mx.g A n)))∧¬Mx.Wh (Mx.dq ps w fun c=>r.getD c 0))
structure DW(A:List (List Int))(N w:Nat)(r:List Int):Prop where
 is:Mx.cT N w A
 n1:1≤N
 n8:N≤8
 w8:w≤8
 bA:∀r∈A,∀x∈r,x.natAbs≤2^48
 lr:r.length=w
 br:∀x∈r,x.natAbs≤2^64
noncomputable def tL:bW:=fun ds st K=>∃(d dr:D) (A:List (List Int)) (r:List Int) (N w:Nat) (f:Bool),ds=[d,dr]∧je st d A∧items? st dr=some (aJ r)∧DW A N w r∧st[0]?=some (fv f)∧∀st' x,Bk st st'→Oh A N w r x→MQ A N w r x→K x st'
noncomputable def pK:List Str:=["rows","row","told","form","fallen"]
noncomputable def Fp:DS:=(aH (a_ 2 (aC j6 (af (ae 0) ao)))
 (aH (a_ 3 (av aY (ae 2) (dC (.int 0))))
 (aH (a_ 4 (aC nO (af (ae 3) (af (ae 1) ao))))
 (aH (eY (bS (av uZ (aC ix (af (av aY (ae 4) (dC (.int 1))) ao)) (dC .aE))) (bz (jr (af (dC (.str "none")) (af (aC j4 (af (ae 3) (af (av aY (ae 4) (dC (.int 1))) ao))) ao)))) dM)
 (bz (jr (af (dC (.str "told")) (af (aC pU (af (av aY (ae 4) (dC (.int 0))) (af (iW (av aY (ae 2) (dC (.int 1))) gX (kX (cq eC (af (ae 3) ao)))) (af (cq eC (af (ae 0) ao)) ao)))) ao))))))))
theorem Bk.ext{st st1 st2:ag}(B:Bk st st1)(X:Ext st1 st2):Bk st st2:=by
 have l1:=B.le
 obtain⟨f,e⟩:=B.tb
 have l0:=(List.getElem?_eq_some_iff.mp e).1
 exact⟨by have:=X.len;omega,fun m hm h0=>by rw[X.same m (by omega),B.fr m hm h0],f,by rw[X.same 0 l0];exact e⟩
theorem Js:8*((9*2^48)^9*(9*2^48)^8)≤2^887:=by decide+kernel
theorem f9{A:List (List Int)}{t i c:Nat}(h:i<t):Mx.g (A.take t) i c=Mx.g A i c:=by
 have e:(A.take t).getD i []=A.getD i []:=by rw[List.getD_eq_getElem?_getD,List.getD_eq_getElem?_getD,List.getElem?_take,if_pos h]
 unfold Mx.g
 rw[e]
theorem CS{A:List (List Int)}{N w top e u:Nat}{c:Mx.B3}{ld:Nat→Nat}(H:Mx.gE A N w c top w ld e u)(hA:Mx.cT N w A)(n8:N≤8)(w8:w≤8)(bA:∀r∈A,∀x∈r,x.natAbs≤2^48):Wf (c.A.take top) top w:=by
 have le:=H.le
 have lA:=H.tn.isA.len
 have s:Mx.cv (c.A.take top) top w ld:=⟨fun i hi=>by
  obtain⟨h1,h2,h3⟩:=H.lead i hi
  exact⟨h1,by rw[f9 hi];exact h2,fun c hc=>by rw[f9 hi];exact h3 c hc⟩,H.mono⟩
 have sm:=(H.small n8 (b:=2^48) (Nat.pow_pos (by decide)) fun i c hi hc=>by
  have lN:=hA.len
  have hr:=hA.row hi
  unfold Mx.g
  refine bA _ (by rw[Mx.ba (by omega)];exact List.getElem_mem _) _ (getD_mem (by omega))).2
 exact⟨⟨by rw[List.length_take];omega,fun r hr=>H.tn.isA.lP r (List.mem_of_mem_take hr)⟩,s.Oo,by omega,w8,fun k q hk hq=>by rw[f9 hk];exact Nat.le_trans (sm k q hk hq) Js⟩
theorem y6{A:List (List Int)}{N w:Nat}(hA:Mx.cT N w A)(bA:∀r∈A,∀x∈r,x.natAbs≤2^48):Mx.iZ A N 0 (2^48):=fun i c _ hi=>by
 have lA:=hA.len
 unfold Mx.g
 by_cases hc:c<(A.getD i []).length
 · exact bA _ (by rw[Mx.ba (by omega)];exact List.getElem_mem _) _ (getD_mem hc)
 · rw[Mx.mQ (by omega)];exact Nat.zero_le _
theorem CB:∀ds st K,tL ds st K→ds.length=2∧Fp {nx:=fun _ st'=>K .aE st',rt:=K} (aR pK ds) st:=by
 rintro ds st K ⟨d,dr,A,r,N,w,f,rfl,hd,hr,⟨hA,n1,n8,w8,bA,lr,br⟩,h0,k⟩
 refine⟨rfl,d,N,w,48,A,f,rfl,hd,hA,n1,n8,by omega,y6 hA bA,fun t ht=>Mx.Cb N (by omega) t (by omega),h0,fun st1 top c ld hC H B=>?_⟩
 have hW:=CS H hA n8 w8 bA
 have lF:=hW.is.len
 have hgF:∀i q,i<top→Mx.g (c.A.take top) i q=Mx.g c.A i q:=fun i q hi=>f9 hi
 generalize hF:c.A.take top=F at hW lF hgF
 have br':∀c,c<w→(r.getD c 0).natAbs≤2^64:=fun c hc=>br _ (getD_mem (by omega))
 refine aB rfl rfl ?_
 refine⟨dr,F,r,top,w,64,rfl,hW,nL h0 B.fr hr,lr,br',by decide,fun st2 X=>?_⟩
 have B2:=B.ext X
 have lR:=Mx.mJ hW.is lr (Nat.le_refl top)
 have fal:=Mx.vZ hW.is lr hW.st (Nat.le_refl top)
 have sm:=Mx.Av hW.is lr (Nat.le_refl top)
 have ab:=Mx.r9 hW.is lr hW.st hW.sm br' (Nat.le_refl top)
 have t8:=hW.m8
 refine aB rfl rfl ⟨_,Mx.c5 F r top,rfl,rfl,?_⟩
 cases el:ij (Mx.c5 F r top)with
 |some l=>
  have eD:iD (Mx.c5 F r top)= .int (l:Int):=by unfold iD;rw[el]
  rw[eD]
  obtain⟨hl,hne,hz⟩:=ow el
  rw[lR]at hl
  refine CZ rfl (eO (aB rfl rfl ⟨F,Mx.c5 F r top,top,w,64+top*(887+1),l,rfl,hW,lR,el,ab,by omega,fun st3 b X3 hb hP=>⟨Nat.le_of_ble_eq_true rfl,?_⟩⟩))
  have P:=Mx.mY.all b hW.st hl (Nat.le_refl top)
  have wF:∀i,i<top→Mx.Wh (Mx.dq (Mx.lQ F top w l (Mx.iR w l b) top) w (Mx.g F i)):=fun i hi=>P.whole hW.st hl hb hne hi
  refine k st3 _ (B2.ext X3) ⟨top,c,hC,by rw[hF];exact⟨hW.st,.inr ⟨l,b,el,hb,rfl⟩⟩⟩ (.inr ⟨_,rfl,P.len,hP,fun n hn=>?_,fun z=>?_⟩)
  · have e1:Mx.dq (Mx.lQ F top w l (Mx.iR w l b) top) w (Mx.g A n)=Mx.dq (Mx.lQ F top w l (Mx.iR w l b) top) w fun q=>Mx.S top fun k=>Mx.g c.C k n*Mx.g F k q:=Mx.yh fun q hq=>by
     rw[H.back hn hq]
     exact Mx.aG fun k hk=>by rw[hgF k q hk]
    rw[e1,Mx.Dm]
    exact Mx.FN fun i hi=>(wF i hi).mul _
  · have e1:Mx.dq (Mx.lQ F top w l (Mx.iR w l b) top) w (fun q=>r.getD q 0)=Mx.dq (Mx.lQ F top w l (Mx.iR w l b) top) w (fun q=>(Mx.c5 F r top).getD q 0)+Mx.dq (Mx.lQ F top w l (Mx.iR w l b) top) w (fun q=>Mx.S top fun j=>Mx.qv F (Mx.c5 F r j) j*Mx.g F j q):=by
     rw[←Mx.IG]
     exact Mx.yh fun q _=>sm q
    have w2:Mx.Wh (Mx.dq (Mx.lQ F top w l (Mx.iR w l b) top) w (fun q=>Mx.S top fun j=>Mx.qv F (Mx.c5 F r j) j*Mx.g F j q)):=by
     rw[Mx.Dm]
     exact Mx.FN fun i hi=>(wF i hi).mul _
    refine P.not hW.st hl hb hne hz (fun i hi=>fal.red i hi) ?_
    have:=z.add w2.neg
    rw[e1]at this
    have e2:∀a b:Rat,a+b+ -b=a:=by grind
    rwa [e2]at this
 |none=>
  have eD:iD (Mx.c5 F r top)= .aE:=by unfold iD;rw[el]
  rw[eD]
  refine CZ rfl ?_
  have lU:=H.tn.d8.len
  have le:=H.le
  refine aB rfl rfl (aB rfl rfl (df rfl (nY ?_)))
  rw[List.length_map,lF,qL,←List.map_take]
  obtain⟨da,hda,ra⟩:=hd
  refine df (X.items (nL h0 B.fr hda)) ?_
  have lda:da.length=N:=by rw[ra.len];exact hA.len
  rw[lda]
  have lw:(Mx.pZ F r top).length=top:=by unfold Mx.pZ;simp
  have wat:∀j,j<top→(Mx.pZ F r top).getD j 0=Mx.qv F (Mx.c5 F r j) j:=fun j hj=>by
   unfold Mx.pZ
   rw[Mx.ba (by simpa using hj),List.getElem_map,List.getElem_range]
  refine⟨_,_,N,Mx.pZ F r top,c.U.take top,rfl,rfl,oJ,fun q hq=>H.tn.d8.lP q (List.mem_of_mem_take hq),by omega,fun x hx q hq y hy=>?_,⟨Nat.le_of_ble_eq_true rfl,k st2 _ B2 ⟨top,c,hC,by rw[hF];exact⟨hW.st,.inl ⟨el,rfl⟩⟩⟩ (.inl ⟨_,rfl,Mx.qW (by simp) fun q hq=>H.tn.d8.lP q (List.mem_of_mem_take hq),fun q hq=>?_⟩)⟩⟩
  · obtain⟨j,hj,rfl⟩:=List.mem_iff_getElem.mp hx
    rw[lw]at hj
    have bj:(Mx.pZ F r top)[j].natAbs≤2^(64+j*(887+1)):=by
     have e1:=wat j hj
     rw[Mx.ba (by omega)]at e1
     rw[e1]
     obtain⟨l1,l2,_⟩:=hW.lead hj
     exact Nat.le_trans (Mx.nk _ l2) (Mx.r9 hW.is lr hW.st hW.sm br' (Nat.le_of_lt hj) _ l1)
    obtain⟨i,hi,rfl⟩:=List.mem_iff_getElem.mp hq
    have hiU:i<c.U.length:=by rw[List.length_take]at hi;omega
    have him:i<top:=by rw[List.length_take]at hi;omega
    rw[List.getElem_take]at hy
    obtain⟨p,hp,rfl⟩:=List.mem_iff_getElem.mp hy
    have hU:=(H.hi i p him).2.1
    have eU:Mx.g c.U i p=c.U[i][p]:=by
     unfold Mx.g
     rw[Mx.ba hiU,Mx.ba hp]
    rw[eU]at hU
    have sz:=Mx.Cb N (by omega) top (by omega)
    exact dG bj hU (by omega)
  · refine Mx.Fw H lw (fun q hq=>?_) hq
    rw[sm q,o9 _ 0 el q,Int.zero_add]
    exact Mx.aG fun j hj=>by rw[wat j hj,hgF j q hj]
noncomputable def oC:bW:=fun ds st K=>∃(ps:List Rat) (w:Nat),ds=[.tup (ps.map fP),.int w]∧ps.length=w∧w≤1000∧K (.bl true) st
noncomputable def kP:List Str:=["thing","many"]
noncomputable def zS:DS:=(bz (la (aC gd (af (ae 0) (af (ae 1) ao))) (cq uc (af (d7 (eZ (ae 0)) [none] (cw 0) cG (aC qR (af (ae 0) ao))) ao))))
theorem vS:∀l:List D,fy (l.map fun _=>D.bl true)=some (l.map fun _=>true)
 | []=>rfl
 |_::l=>by simp[fy,vS l]
theorem FQ(l:List D):(l.map fun _=>true).all id=true:=by simp
theorem yM:∀ds st K,oC ds st K→ds.length=2∧zS {nx:=fun _ st'=>K .aE st',rt:=K} (aR kP ds) st:=by
 rintro ds st K ⟨ps,w,rfl,lp,hw,k⟩
 refine⟨rfl,?_⟩
 refine⟨_,_,rfl,⟨_,rfl⟩,?_⟩
 show if decide ((((ps.map fP).length:Nat):Int)=(w:Int))=true then _ else _
 rw[decide_eq_true (by rw[List.length_map,lp]),if_pos rfl]
 refine jx ⟨cp (by rw[List.length_map];omega),?_⟩
 refine comp_map (g:=fun _=> .bl true) trivial _ (fun d hd K' q=>?_) ?_
 · obtain⟨p,_,rfl⟩:=List.mem_map.mp hd
   exact⟨_,rfl,p,rfl,q⟩
 refine zi (vS (ps.map fP)) ?_
 rw[FQ]
 exact k
noncomputable def mD:bW:=fun ds st K=>∃q:Rat,ds=[fP q]∧K (.bl (decide (q.den=1))) st
noncomputable def mj:List Str:=["one"]
noncomputable def AX:DS:=(bz (av gg (av aY (ae 0) (dC (.int 1))) (dC (.int 1))))
theorem zK:∀ds st K,mD ds st K→ds.length=1∧AX {nx:=fun _ st'=>K .aE st',rt:=K} (aR mj ds) st:=by
 rintro ds st K ⟨q,rfl,k⟩
 refine⟨rfl,aB rfl rfl (eq2 (fun h=>?_) fun h=>?_)⟩
 · rw[decide_eq_true (by omega)]at k;exact k
 · rw[decide_eq_false (by omega)]at k;exact k
noncomputable def m5:bW:=fun ds st K=>∃(A:List (List Int)) (r:List Int) (N w:Nat) (ps:List Rat),ds=[c_ A,bo r,.tup (ps.map fP)]∧DW A N w r∧ps.length=w∧Mx.Pb ps 10000000∧(∀n,n<N→Mx.Wh (Mx.dq ps w (Mx.g A n)))∧(¬Mx.Wh (Mx.dq ps w fun c=>r.getD c 0))∧K (.bl true) st
noncomputable def jX:List Str:=["rows","row","parts"]
noncomputable def yW:DS:=(aH (eY (tK (u7 (bS (aC oC (af (ae 2) (af (cq eC (af (ae 1) ao)) ao))))) (bS (aC mD (af (aC i5 (af (ae 2) (af (ae 1) ao))) ao)))) (bz (dC (.bl false))) dM)
 (bz (cq uc (af (d7 (eZ (ae 0)) [none,some 2] (cw 0) cG (aC mD (af (aC i5 (af (ae 1) (af (ae 0) ao))) ao))) ao))))
theorem xh:∀ds st K,m5 ds st K→ds.length=3∧yW {nx:=fun _ st'=>K .aE st',rt:=K} (aR jX ds) st:=by
 rintro ds st K ⟨A,r,N,w,ps,rfl,⟨hA,n1,n8,w8,bA,lr,br⟩,lp,hP,hw,hn,k⟩
 refine⟨rfl,?_⟩
 have lA:=hA.len
 refine df rfl ⟨ps,w,by rw[List.length_map,lr],lp,by omega,?_⟩
 have pl8:ps.length*(64+1)≤8*65:=Nat.mul_le_mul (by omega) (by decide)
 refine⟨_,_,_,ps,r,_,64,rfl,rfl,um.of,rfl,hP,br,by omega,?_⟩
 rw[Ff lp lr]
 refine⟨_,rfl,?_⟩
 rw[decide_eq_false fun z=>hn (Mx.Wh.den.mpr z)]
 refine jx ⟨cp (by rw[List.length_map];omega),?_⟩
 refine comp_map (g:=fun _=> .bl true) trivial _ (fun d hd K' q=>?_) ?_
 · obtain⟨s,hs,rfl⟩:=List.mem_map.mp hd
   obtain⟨i,hi,rfl⟩:=List.mem_iff_getElem.mp hs
   have ls:=hA.lP _ hs
   refine⟨_,rfl,_,_,_,ps,A[i],_,64,rfl,rfl,um.of,rfl,hP,fun x hx=>Nat.le_trans (bA _ hs x hx) (by decide),by omega,?_⟩
   rw[Ff lp ls]
   refine⟨_,rfl,?_⟩
   have e:(fun c=>(A[i]).getD c 0)=Mx.g A i:=by
    funext c
    unfold Mx.g
    rw[Mx.ba hi]
   rw[e,decide_eq_true (Mx.Wh.den.mp (hw i (by omega)))]
   exact q
 refine zi (vS (A.map bo)) ?_
 rw[FQ]
 exact k
noncomputable def kb:bW:=fun ds st K=>∃(A:List (List Int)) (r:List Int) (N w:Nat) (W:List Int),ds=[c_ A,bo r,bo W]∧DW A N w r∧W.length=N∧(∀c,c<w→(Mx.S N fun n=>W.getD n 0*Mx.g A n c)=r.getD c 0)∧K (.bl true) st
noncomputable def iL:List Str:=["rows","row","weights"]
noncomputable def vi:DS:=(bz (la (aC jc (af (ae 2) (af (cq eC (af (ae 0) ao)) ao))) (av gg (aC pU (af (ae 2) (af (ae 0) (af (cq eC (af (ae 1) ao)) ao)))) (cq dD (af (ae 1) ao)))))
theorem kB{n:Nat}{r:List Int}:pl (n+1) (bo r)=true:=by
 unfold pl
 exact Hj
theorem Fe{st:ag}{W:List Int}:sr st (bo W) ((W.length:Nat):Int)=true:=by
 unfold sr
 show(decide _&&_)=true
 rw[decide_eq_true (by rw[List.length_map]),Bool.true_and]
 refine List.all_eq_true.mpr fun d hd=>?_
 obtain⟨i,_,rfl⟩:=List.mem_map.mp hd
 rfl
theorem uB:∀ds st K,kb ds st K→ds.length=3∧vi {nx:=fun _ st'=>K .aE st',rt:=K} (aR iL ds) st:=by
 rintro ds st K ⟨A,r,N,w,W,rfl,⟨hA,n1,n8,w8,bA,lr,br⟩,lW,hs,k⟩
 refine⟨rfl,?_⟩
 have lA:=hA.len
 refine df rfl ⟨_,_,rfl,u0 (by omega),?_⟩
 rw[List.length_map,lA,←lW,Fe]
 refine eO (df rfl ?_)
 rw[List.length_map,lr]
 refine⟨_,_,w,W,A,rfl,rfl,oJ,hA.lP,by omega,fun x hx q hq y hy=>?_,?_⟩
 · have:=bA q hq y hy
   exact HC (by omega) (by omega)
 refine di rfl (nS kB kB ?_)
 have e:Mx.eV W A (List.replicate w 0)=r:=by
  refine Mx.vX (Mx.qW (by simp) hA.lP) lr fun j hj=>?_
  rw[Mx.tT (n:=w) j (by simp) hA.lP (by omega),Mx.dU,Int.zero_add,lA]
  exact hs j hj
 rw[e,pN 40 _ kB]
 exact k
noncomputable def kI:bW:=fun ds st K=>∃(A:List (List Int)) (r:List Int) (N w:Nat) (x:D),ds=[c_ A,bo r,x]∧DW A N w r∧MQ A N w r x∧K (.bl true) st
noncomputable def iE:List Str:=["rows","row","told"]
noncomputable def v_:DS:=(aH (eY (u7 (bS (aC gd (af (ae 2) (af (dC (.int 2)) ao))))) (bz (dC (.bl false))) dM)
 (aH (eY (bS (av gg (av aY (ae 2) (dC (.int 0))) (dC (.str "told")))) (bz (aC kb (af (ae 0) (af (ae 1) (af (av aY (ae 2) (dC (.int 1))) ao))))) dM)
 (bz (la (av gg (av aY (ae 2) (dC (.int 0))) (dC (.str "none"))) (aC m5 (af (ae 0) (af (ae 1) (af (av aY (ae 2) (dC (.int 1))) ao))))))))
theorem uN:∀ds st K,kI ds st K→ds.length=3∧v_ {nx:=fun _ st'=>K .aE st',rt:=K} (aR iE ds) st:=by
 rintro ds st K ⟨A,r,N,w,x,rfl,P,hS,k⟩
 refine⟨rfl,?_⟩
 rcases hS with⟨W,rfl,lW,hs⟩|⟨ps,rfl,lp,hP,hw,hn⟩
 · refine⟨_,2,rfl,⟨_,rfl⟩,?_⟩
   refine aB rfl rfl (nS rfl rfl ?_)
   exact aB rfl rfl ⟨A,r,N,w,W,rfl,P,lW,hs,k⟩
 · refine⟨_,2,rfl,⟨_,rfl⟩,?_⟩
   refine aB rfl rfl (nS rfl rfl ?_)
   refine aB rfl rfl (nS rfl rfl ?_)
   exact aB rfl rfl ⟨A,r,N,w,ps,rfl,P,lp,hP,hw,hn,k⟩
structure Hd(st:ag)(n:Nat)(b:Int):Prop where
 ex:∃(cs:List Int) (p q c:Int),st[n]?=some (.lst [.lst (aJ cs),.int p,.int q,.int c])∧(∀x∈cs,0≤x)∧cs.length≤63∧0≤p∧0≤q∧0≤c∧c≤b
structure Upd(st:ag)(n:Nat)(st':ag):Prop where
 len:st'.length=st.length
 same:∀m,m≠n→st'[m]?=st[m]?
theorem Upd.refl{st:ag}{n:Nat}:Upd st n st:=⟨rfl,fun _ _=>rfl⟩
theorem Upd.trans{st st1 st2:ag}{n:Nat}(a:Upd st n st1)(b:Upd st1 n st2):Upd st n st2:=⟨b.len.trans a.len,fun m h=>(b.same m h).trans (a.same m h)⟩
theorem Upd.set{st:ag}{n:Nat}{c:Cell}:Upd st n (st.set n c):=⟨List.length_set,fun m h=>List.getElem?_set_ne (Ne.symm h)⟩
theorem Hd.mono{st:ag}{n:Nat}{b b':Int}(h:Hd st n b)(l:b≤b'):Hd st n b':=let⟨cs,p,q,c,e,h1,h2,h3,h4,h5,h6⟩:=h.ex;⟨cs,p,q,c,e,h1,h2,h3,h4,h5,by omega⟩
theorem rJ{st:ag}{n:Nat}{xs ys:List D}{i:Int}{j:Nat}{d:D}{K:ag→Prop}(h:st[n]?=some (.lst xs))(e:j9 xs.length i=some j)(ey:xs.set j d=ys)(k:∀st',st'[n]?=some (.lst ys)→Upd st n st'→K st'):yg (.ref n) (.int i) d st K:=ik h e (by
 rw[ey]
 exact k _ (List.getElem?_set_self (List.getElem?_eq_some_iff.mp h).1) Upd.set)
theorem Ii{k:Nat}{te:DE}{B:DS}{E:mz}{σ:bV}{st:ag}(h:te σ st fun d st1=>B E (σ.set k (some d)) st1):aH (a_ k te) B E σ st:=h
noncomputable def pH:bW:=fun ds st K=>∃ns:List Int,ds=[.lst (ns.map .int)]∧ns.length≤63∧∀st',Hd st' st.length 0→Ext st st'→K (.ref st.length) st'
noncomputable def md:List Str:=["_law_script"]
noncomputable def BW:DS:=(bz (xI (af (d7 (eZ (iW (ae 0) gX (kX (dC (.int 63))))) [none] (cw 0) cG (cq pF (af (ae 0) ao))) (af (dC (.int 0)) (af (dC (.int 0)) (af (dC (.int 0)) ao))))))
theorem EY(r:List Int):(aJ r).map (fun d=>match d with| .int x=> .int ((x.natAbs:Nat):Int)|_=> .aE)=aJ (r.map fun x=>((x.natAbs:Nat):Int)):=by unfold aJ;rw[List.map_map,List.map_map];rfl
theorem zL:∀ds st K,pH ds st K→ds.length=1∧BW {nx:=fun _ st'=>K .aE st',rt:=K} (aR md ds) st:=by
 rintro ds st K ⟨ns,rfl,hl,k⟩
 refine⟨rfl,?_⟩
 refine qU (AS ⟨?_,?_⟩)
 · refine cp ?_
   unfold L3.cutD
   simp only[List.length_take,List.length_drop,List.length_map]
   omega
 refine comp_map (g:=fun d=>match d with| .int x=> .int ((x.natAbs:Nat):Int)|_=> .aE) trivial _ (fun d hd K' q=>?_) ?_
 · have:d∈ns.map D.int:=List.mem_of_mem_drop (List.mem_of_mem_take hd)
   obtain⟨i,_,rfl⟩:=List.mem_map.mp this
   exact⟨_,rfl,qZ q⟩
 · have ec:∀lo hi,L3.cutD (ns.map D.int) lo hi=aJ ((ns.drop (HT.bK (ns.map D.int).length 0 lo)).take (HT.bK (ns.map D.int).length (ns.map D.int).length hi-HT.bK (ns.map D.int).length 0 lo)):=fun lo hi=>by
    unfold L3.cutD aJ
    rw[List.map_take,List.map_drop]
   rw[ec,EY]
   refine⟨Nat.le_of_ble_eq_true rfl,?_⟩
   refine k _ ⟨_,0,0,0,by rw[List.getElem?_append_right (Nat.le_refl _),Nat.sub_self];rfl,fun x hx=>?_,?_,Int.le_refl _,Int.le_refl _,Int.le_refl _,Int.le_refl _⟩ Ext.push
   · obtain⟨y,_,rfl⟩:=List.mem_map.mp hx
     omega
   · simp only[List.length_map,List.length_take,List.length_drop]
     omega
noncomputable def bY:bW:=fun ds st K=>∃(n:Nat) (m b:Int),ds=[.ref n,.int m]∧Hd st n b∧b≤1000000000∧0<m∧m<2^62∧∀r st',0≤r→r<m→Hd st' n (b+1)→Upd st n st'→K (.int r) st'
noncomputable def mh:List Str:=["_law_hand_here","_law_many","_law_cell","_law_once","_law_twice","_law_found"]
noncomputable def BP:DS:=(aH (eA (ae 0) (dC (.int 3)) (av cN (av aY (ae 0) (dC (.int 3))) (dC (.int 1))))
 (aH (eY (bS (av gg (av aY (ae 0) (dC (.int 2))) (dC (.int 0)))) (aH (a_ 2 (dC (.int 0)))
 (aH (eY (bS (av oX (cq eC (af (av aY (ae 0) (dC (.int 0))) ao)) (dC (.int 0)))) (a_ 2 (av aY (av aY (ae 0) (dC (.int 0))) (av g6 (av aY (ae 0) (dC (.int 1))) (cq eC (af (av aY (ae 0) (dC (.int 0))) ao))))) dM)
 (aH (eA (ae 0) (dC (.int 1)) (av cN (av aY (ae 0) (dC (.int 1))) (dC (.int 1))))
 (aH (eY (tK (bS (av p_ (ae 2) (av rj (dC (.int 10)) (dC (.int 18))))) (bS (av oX (av aY (ae 0) (dC (.int 1))) (cq eC (af (av aY (ae 0) (dC (.int 0))) ao))))) (aH (a_ 3 (av cN (av cN (av g6 (ae 2) (dC (.int 2147483629))) (av cF (dC (.int 7919)) (av aY (ae 0) (dC (.int 3))))) (dC (.int 11))))
 (aH (a_ 3 (av g6 (av cF (ae 3) (av cN (dC (.int 48271)) (av cF (dC (.int 2)) (av aY (ae 0) (dC (.int 3)))))) (dC (.int 2147483647))))
 (aH (a_ 4 (av g6 (av cN (av cF (ae 3) (av cN (av g6 (ae 3) (dC (.int 39373))) (av aY (ae 0) (dC (.int 3))))) (av cF (dC (.int 31)) (av aY (ae 0) (dC (.int 3))))) (dC (.int 1999999973))))
 (bz (av g6 (av oa (ae 4) (dC (.int 7))) (ae 1)))))) dM)
 (eA (ae 0) (dC (.int 2)) (ae 2)))))) dM)
 (aH (a_ 5 (av g6 (av aY (ae 0) (dC (.int 2))) (ae 1)))
 (aH (eA (ae 0) (dC (.int 2)) (av oa (av aY (ae 0) (dC (.int 2))) (ae 1)))
 (bz (ae 5))))))
theorem Co{m:Int}(h0:0<m)(h:m<2^62):m.natAbs.log2<9000:=by
 have:m.natAbs.log2<62:=(Nat.log2_lt (by omega)).mpr (by omega)
 omega
theorem zV:∀ds st K,bY ds st K→ds.length=2∧BP {nx:=fun _ st'=>K .aE st',rt:=K} (aR mh ds) st:=by
 rintro ds st K ⟨n,m,b,rfl,⟨cs,p,q,c,e,hcs,hcl,hp,hq,hc,hb⟩,hb2,hm0,hm1,k⟩
 refine⟨rfl,?_⟩
 refine aB (aI e) (by rfl) (dH (rJ (ys:=[.lst (aJ cs),.int p,.int q,.int (c+1)]) e (by rfl) (by rfl) fun st1 e1 U1=>?_))
 have c1: -(2^64)<c+1:=by omega
 have c2:c+1<2^64:=by omega
 dsimp only
 refine gW (fun σ' st'=>∃(v2 v3 v4:Option D) (p q:Int),σ'=[some (.ref n),some (.int m),v2,v3,v4,none]∧st'[n]?=some (.lst [.lst (aJ cs),.int p,.int q,.int (c+1)])∧0≤p∧0≤q∧Upd st n st') (fun nx hnx=>?_) ?_
 · refine aB (aI e1) (by rfl) (eq2 (fun h=>eO ?_) fun h=>hnx _ _ ⟨_,_,_,p,q,rfl,e1,hp,hq,U1⟩)
   refine Ii ?_
   dsimp only[dC]
   refine gW (fun σ' st'=>∃x:Int,0≤x∧σ'=[some (.ref n),some (.int m),some (.int x),none,none,none]∧st'=st1) (fun nx2 hnx2=>?_) ?_
   · refine aB (aI e1) (by rfl) (df rfl (rT ?_))
     rw[List.length_map]
     by_cases hl:(0:Int)<(cs.length:Int)
     · rw[decide_eq_true hl]
       refine eO (aB (aI e1) (by rfl) (aB (aI e1) (by rfl) (aB (aI e1) (by rfl) (df rfl (lg (by rw[List.length_map];omega) ?_)))))
       rw[List.length_map]
       have m1:=Int.fmod_nonneg_of_pos p hl
       have m2:=Int.fmod_lt_of_pos p hl
       obtain⟨j,ej⟩:=Int.eq_ofNat_of_zero_le m1
       rw[ej]at m2⊢
       have hj:j<cs.length:=by omega
       exact aB rfl (jy hj) (hnx2 _ _ ⟨_,hcs _ (getD_mem hj),rfl,rfl⟩)
     · rw[decide_eq_false hl]
       exact hnx2 _ _ ⟨0,Int.le_refl _,rfl,rfl⟩
   · rintro σ' st' ⟨x,hx,rfl,rfl⟩
     refine aB (aI e1) (by rfl) (dH (rJ (ys:=[.lst (aJ cs),.int (p+1),.int q,.int (c+1)]) e1 (by rfl) (by rfl) fun st2 e2 U2=>?_))
     have mixed:(aH (a_ 3 (av cN (av cN (av g6 (ae 2) (dC (.int 2147483629))) (av cF (dC (.int 7919)) (av aY (ae 0) (dC (.int 3))))) (dC (.int 11))))
      (aH (a_ 3 (av g6 (av cF (ae 3) (av cN (dC (.int 48271)) (av cF (dC (.int 2)) (av aY (ae 0) (dC (.int 3)))))) (dC (.int 2147483647))))
      (aH (a_ 4 (av g6 (av cN (av cF (ae 3) (av cN (av g6 (ae 3) (dC (.int 39373))) (av aY (ae 0) (dC (.int 3))))) (av cF (dC (.int 31)) (av aY (ae 0) (dC (.int 3))))) (dC (.int 1999999973))))
      (bz (av g6 (av oa (ae 4) (dC (.int 7))) (ae 1)))))) {nx:=nx,rt:=K} [some (.ref n),some (.int m),some (.int x),none,none,none] st2:=by
      refine lg (by decide) (aB (aI e2) (by rfl) (dE (iP (by decide) (by decide)) (dH (dH ?_))))
      have m1:=Int.fmod_nonneg_of_pos x (show(0:Int)<2147483629 by decide)
      have m2:=Int.fmod_lt_of_pos x (show(0:Int)<2147483629 by decide)
      refine aB (aI e2) (by rfl) (dE (iP (by decide) (by decide)) (dH (dE (iP (by omega) (by omega)) (lg (by decide) ?_))))
      have u1:=Int.fmod_nonneg_of_pos ((x.fmod 2147483629+7919*(c+1)+11)*(48271+2*(c+1))) (show(0:Int)<2147483647 by decide)
      have u2:=Int.fmod_lt_of_pos ((x.fmod 2147483629+7919*(c+1)+11)*(48271+2*(c+1))) (show(0:Int)<2147483647 by decide)
      generalize((x.fmod 2147483629+7919*(c+1)+11)*(48271+2*(c+1))).fmod 2147483647=u at u1 u2⊢
      refine lg (by decide) (aB (aI e2) (by rfl) (dH (dE (iP (by omega) (by omega)) (aB (aI e2) (by rfl) (dE (iP (by decide) (by decide)) (dH (lg (by decide) ?_)))))))
      refine vx (by decide) (by decide+kernel) (lg (by omega) ?_)
      exact k _ _ (Int.fmod_nonneg_of_pos _ hm0) (Int.fmod_lt_of_pos _ hm0) ⟨cs,_,_,_,e2,hcs,hcl,by omega,hq,by omega,by omega⟩ (U1.trans U2)
     refine Ld ⟨by decide,by decide,by decide⟩ (BX ?_)
     by_cases hs:x<10^(18:Int).toNat
     · rw[decide_eq_true hs]
       exact mixed
     · rw[decide_eq_false hs]
       refine aB (aI e2) (by rfl) (aB (aI e2) (by rfl) (df rfl (rT ?_)))
       rw[List.length_map]
       by_cases ho:(cs.length:Int)<p+1
       · rw[decide_eq_true ho]
         exact mixed
       · rw[decide_eq_false ho]
         refine rJ (ys:=[.lst (aJ cs),.int (p+1),.int x,.int (c+1)]) e2 (by rfl) (by rfl) fun st3 e3 U3=>?_
         exact hnx _ _ ⟨_,_,_,p+1,x,rfl,e3,by omega,hx,(U1.trans U2).trans U3⟩
 · rintro σ' st' ⟨v2,v3,v4,p,q,rfl,e3,hp,hq,U3⟩
   refine aB (aI e3) (by rfl) (lg (by omega) (aB (aI e3) (by rfl) (vx (by omega) (Co hm0 hm1) (rJ (ys:=[.lst (aJ cs),.int p,.int (q.fdiv m),.int (c+1)]) e3 (by rfl) (by rfl) fun st4 e4 U4=>?_))))
   refine k _ _ (Int.fmod_nonneg_of_pos _ hm0) (Int.fmod_lt_of_pos _ hm0) ⟨cs,_,_,_,e4,hcs,hcl,hp,?_,by omega,by omega⟩ (U3.trans U4)
   rw[Int.fdiv_eq_ediv_of_nonneg _ (by omega)];exact Int.ediv_nonneg hq (by omega)
noncomputable def jN:bW:=fun ds st K=>∃(n:Nat) (b kd:Int),ds=[.ref n,.int kd]∧kd≠7∧Hd st n b∧b≤900000000∧∀r st',r.natAbs≤9→Hd st' n (b+3)→Upd st n st'→K (.int r) st'
noncomputable def jL:List Str:=["_law_hand_here","_law_kind","_law_far"]
noncomputable def yK:DS:=(aH (eY (bS (av gg (ae 1) (dC (.int 7)))) (aH (a_ 2 (av cN (av cF (aC bY (af (ae 0) (af (av rj (dC (.int 10)) (dC (.int 6))) ao))) (av rj (dC (.int 10)) (dC (.int 6)))) (aC bY (af (ae 0) (af (av rj (dC (.int 10)) (dC (.int 6))) ao)))))
 (bz (av cF (ae 2) (av aY (oy (af (dC (.int 1)) (af (nM iU (dC (.int 1))) (af (dC (.int 0)) ao)))) (aC bY (af (ae 0) (af (dC (.int 3)) ao))))))) dM)
 (bz (av aY (oy (af (dC (.int 0)) (af (dC (.int 1)) (af (nM iU (dC (.int 1))) (af (av lS (aC bY (af (ae 0) (af (dC (.int 19)) ao))) (dC (.int 9))) ao))))) (aC bY (af (ae 0) (af (dC (.int 4)) ao))))))
theorem xj:∀ds st K,jN ds st K→ds.length=2∧yK {nx:=fun _ st'=>K .aE st',rt:=K} (aR jL ds) st:=by
 rintro ds st K ⟨n,b,kd,rfl,h7,B,hb,k⟩
 refine⟨rfl,?_⟩
 refine eq2 (fun h=>absurd h h7) fun h=>?_
 · refine iY ⟨n,19,b,rfl,B,by omega,by decide,by decide,fun r1 st1 a1 a2 B1 U1=>lB ⟨Nat.le_of_ble_eq_true rfl,?_⟩⟩
   refine⟨n,4,b+1,rfl,B1,by omega,by decide,by decide,fun r2 st2 c1 c2 B2 U2=>?_⟩
   have U:=U1.trans U2
   have B4:=B2.mono (b':=b+3) (by omega)
   have:r2=0∨r2=1∨r2=2∨r2=3:=by omega
   rcases this with rfl|rfl|rfl|rfl
   · exact aB rfl rfl (k _ _ (by decide) B4 U)
   · exact aB rfl rfl (k _ _ (by decide) B4 U)
   · exact aB rfl rfl (k _ _ (by decide) B4 U)
   · exact aB rfl rfl (k _ _ (by omega) B4 U)
structure XU(st:ag)(n:Nat)(st':ag):Prop where
 len:st.length≤st'.length
 same:∀m,m<st.length→m≠n→st'[m]?=st[m]?
theorem XU.trans{st st1 st2:ag}{n:Nat}(a:XU st n st1)(b:XU st1 n st2):XU st n st2:=⟨Nat.le_trans a.len b.len,fun m h g=>(b.same m (Nat.lt_of_lt_of_le h a.len) g).trans (a.same m h g)⟩
theorem XU.upd{st st1:ag}{n:Nat}(a:Upd st n st1):XU st n st1:=⟨by rw[a.len];exact Nat.le_refl _,fun m _ g=>a.same m g⟩
theorem XU.ext{st st1:ag}{n:Nat}(a:Ext st st1):XU st n st1:=⟨a.len,fun m h _=>a.same m h⟩
theorem XU.set{st st1:ag}{n k:Nat}{c:Cell}(a:XU st n st1)(h:st.length≤k):XU st n (st1.set k c):=⟨by rw[List.length_set];exact a.len,fun m hm g=>by rw[List.getElem?_set_ne (by omega)];exact a.same m hm g⟩
theorem Hd.lt{st:ag}{n:Nat}{b:Int}(B:Hd st n b):n<st.length:=by
 obtain⟨_,_,_,_,e,_⟩:=B.ex
 exact(List.getElem?_eq_some_iff.mp e).1
theorem Hd.cell{st st':ag}{n:Nat}{b:Int}(B:Hd st n b)(e:st'[n]?=st[n]?):Hd st' n b:=by
 obtain⟨cs,p,q,c,e1,r⟩:=B.ex
 exact⟨cs,p,q,c,e.trans e1,r⟩
noncomputable def pD:bW:=fun ds st K=>∃(n:Nat) (b:Int) (many wide:Nat) (kd:Int),ds=[.ref n,.int many,.int wide,.int kd]∧kd≠7∧Hd st n b∧b≤600000000∧many≤8∧wide≤8∧∀A st',Mx.cT many wide A→(∀r∈A,∀x∈r,x.natAbs≤9*256)→Hd st' n (b+300)→XU st n st'→K (c_ A) st'
noncomputable def ma:List Str:=["_law_hand_here","_law_many","_law_wide","_law_kind","_law_rows_here","_law_k","_law_row","_law_way"]
noncomputable def BL:DS:=(aH (a_ 4 (xI ao))
 (aH (jj (fV (af (ae 1) ao)) (cw 5) (aH (a_ 6 (d7 (fV (af (ae 2) ao)) [none,some 0,some 3] (cw 0) cG (aC jN (af (ae 1) (af (ae 2) ao)))))
 (aH (a_ 7 (aC bY (af (ae 0) (af (dC (.int 8)) ao))))
 (aH (eY (bS (av gg (ae 7) (dC (.int 0)))) (a_ 6 (av cF (oy (af (dC (.int 0)) ao)) (ae 2))) dM)
 (aH (eY (rQ (bS (av gg (ae 7) (dC (.int 1)))) (bS (av oX (ae 5) (dC (.int 0))))) (a_ 6 (cq mq (af (av aY (ae 4) (av lS (ae 5) (dC (.int 1)))) ao))) dM)
 (aH (eY (rQ (bS (av gg (ae 7) (dC (.int 2)))) (bS (av oX (ae 5) (dC (.int 1))))) (a_ 6 (d7 (tN (af (av aY (ae 4) (av lS (ae 5) (dC (.int 1)))) (af (av aY (ae 4) (av lS (ae 5) (dC (.int 2)))) ao))) [none,none] (jd 0 1) cG (av cN (ae 0) (ae 1)))) dM)
 (aH (eY (rQ (bS (av gg (ae 3) (dC (.int 7)))) (bS (av p_ (ae 7) (dC (.int 3))))) (a_ 6 (d7 (eZ (ae 6)) [none] (cw 0) cG (av g6 (ae 0) (dC (.int 1000))))) dM)
 (k6 (mH (ae 4) (cq dD (af (ae 6) ao)))))))))))
 (bz (cq dD (af (ae 4) ao)))))
theorem x8{n w:Nat}{b kd:Int}{st:ag}{K:List D→ag→Prop}(h7:kd≠7)(B:Hd st n b)(hb:b≤700000000)(hw:w≤8)
 (k:∀r st',r.length=w→(∀x∈r,x.natAbs≤9)→Hd st' n (b+24)→Upd st n st'→K (aJ r) st'):
 cO (cw 0) cG (aC jN (af (ae 1) (af (ae 2) ao))) (fun _=>True) [none,some (.ref n),some (.int kd)] (dS 0 w) [] st K:=by
 refine ip (fun rest acc st'=>∃r:List Int,acc=aJ r∧r.length+rest.length=w∧(∀x∈r,x.natAbs≤9)∧Hd st' n (b+3*r.length)∧Upd st n st') ?_ ?_ _ _ _ ⟨[],rfl,by rw[fC];simp,by simp,B.mono (by simp),Upd.refl⟩
 · rintro acc st' ⟨r,rfl,hl,hr,B',U⟩
   have hl:r.length=w:=by simpa using hl
   exact⟨trivial,k r st' hl hr (B'.mono (by omega)) U⟩
 · rintro x rest acc st' ⟨r,rfl,hl,hr,B',U⟩ next
   have hl2:r.length<w:=by simp at hl;omega
   refine⟨trivial,_,rfl,?_⟩
   refine⟨n,_,kd,rfl,h7,B',by omega,fun y st2 a1 B2 U2=>?_⟩
   show cO _ _ _ _ _ _ _ _ _
   rw[ints_app]
   refine next _ _ ⟨r++[y],rfl,by simp at hl⊢;omega,fun z hz=>?_,B2.mono (by simp;omega),U.trans U2⟩
   rcases List.mem_append.mp hz with h|h
   · exact hr z h
   · have:z=y:=by simpa using h
     subst this;exact a1
theorem tM{A:List (List Int)}{k:Nat}(h:k<A.length):eB (A.map bo) (k:Int)=some (bo (A.getD k [])):=by
 refine ki ?_
 rw[List.getElem?_map,List.getElem?_eq_getElem h,Mx.ba h];rfl
theorem yb:∀(r s:List Int),(fY (aJ r) (aJ s)).map (fun d=>match d with| .tup [.int a,.int b]=> .int (a+b)|_=> .aE)=aJ (List.zipWith (· + ·) r s)
 | [],_=>rfl
 |_::_,[]=>rfl
 |a::r,b::s=>by
  have:=yb r s
  unfold fY at this⊢
  simp only[aJ,List.map_cons,List.zip_cons_cons,List.zipWith_cons_cons]at this⊢
  rw[this]
theorem Lw{M:Nat}{r s:List Int}(hr:∀x∈r,x.natAbs≤M)(hs:∀x∈s,x.natAbs≤M):∀x∈List.zipWith (· + ·) r s,x.natAbs≤2*M:=fun x hx=>by
 obtain⟨k,hk,e⟩:=List.mem_iff_getElem.mp hx
 rw[List.getElem_zipWith]at e
 have h1:=hr _ (List.getElem_mem (by simp at hk;omega:k<r.length))
 have h2:=hs _ (List.getElem_mem (by simp at hk;omega:k<s.length))
 omega
theorem Ab:∀ds st K,pD ds st K→ds.length=4∧BL {nx:=fun _ st'=>K .aE st',rt:=K} (aR ma ds) st:=by
 rintro ds st K ⟨n,b,many,wide,kd,rfl,h7,B,hb,hm,hw,k⟩
 refine⟨rfl,?_⟩
 have hn:=B.lt
 refine⟨Nat.le_of_ble_eq_true rfl,?_⟩
 refine ju ⟨by omega,by omega⟩ ?_
 rw[Int.toNat_natCast]
 refine og many (fun j σ st'=>∃(A:List (List Int)) (v5 v6 v7:Option D),σ=[some (.ref n),some (.int many),some (.int wide),some (.int kd),some (.ref st.length),v5,v6,v7]∧st'[st.length]?=some (.lst (A.map bo))∧A.length=j∧(∀r∈A,r.length=wide)∧(∀r∈A,∀x∈r,x.natAbs≤9*2^j)∧Hd st' n (b+25*j)∧XU st n st') ?_ ?_ ⟨[],none,none,none,rfl,by simp,rfl,by simp,by simp,(B.cell (List.getElem?_append_left hn)).mono (by simp),XU.ext Ext.push⟩
 · rintro σ st' ⟨A,v5,v6,v7,rfl,e,hl,hA,hb2,B2,X⟩
   refine di (aI e) (k A st' ⟨hl,hA⟩ (fun r hr x hx=>?_) (B2.mono (by omega)) X)
   have p:2^many≤2^8:=Nat.pow_le_pow_right (by decide) hm
   have:=hb2 r hr x hx
   exact Nat.le_trans this (Nat.mul_le_mul_left _ p)
 · rintro j σ st' rest hj ⟨A,v5,v6,v7,rfl,e,hl,hA,hb2,B2,X⟩ next
   refine⟨_,rfl,?_⟩
   refine ju ⟨by omega,by omega⟩ ⟨cp (by rw[fC];omega),?_⟩
   rw[Int.toNat_natCast]
   refine x8 (n:=n) (kd:=kd) h7 B2 (by omega) hw fun r0 st1 hr0 hr1 B3 U3=>?_
   refine⟨n,8,_,rfl,B3,by omega,by decide,by decide,fun way st2 w0 w1 B4 U4=>?_⟩
   have hlen:=(List.getElem?_eq_some_iff.mp e).1
   have e2:st2[st.length]?=some (.lst (A.map bo)):=(U4.same _ (by omega)).trans ((U3.same _ (by omega)).trans e)
   have X2:XU st n st2:=X.trans ((XU.upd U3).trans (XU.upd U4))
   have p1:9≤9*2^(j+1):=Nat.le_mul_of_pos_right _ (Nat.pow_pos (by decide))
   have p2:9*2^j*2=9*2^(j+1):=by rw[Nat.pow_succ,Nat.mul_assoc]
   let J:bV→ag→Prop:=fun σ' st'=>st'=st2∧∃r:List Int,σ'=[some (.ref n),some (.int many),some (.int wide),some (.int kd),some (.ref st.length),some (.int (j:Int)),some (a9 r),some (.int way)]∧r.length=wide∧∀x∈r,x.natAbs≤9*2^(j+1)
   have J0:J [some (.ref n),some (.int many),some (.int wide),some (.int kd),some (.ref st.length),some (.int (j:Int)),some (a9 r0),some (.int way)] st2:=⟨rfl,r0,rfl,hr0,fun x hx=>Nat.le_trans (hr1 x hx) p1⟩
   dsimp only
   refine gW J (fun nx hnx=>?_) ?_
   · refine eq2 (fun h=>eO ?_) fun h=>hnx _ _ J0
     refine KC (Nat.le_of_ble_eq_true rfl) (vp ⟨by omega,by omega,cp (by simp;omega)⟩ ?_)
     rw[Int.toNat_natCast,kr]
     exact hnx _ _ ⟨rfl,_,rfl,by simp,fun x hx=>by rw[(List.mem_replicate.mp hx).2];exact Nat.zero_le _⟩
   rintro σ' st3 ⟨rfl,r,rfl,hr,hrb⟩
   refine gW J (fun nx hnx=>?_) ?_
   · refine eq2 (fun h=>eO (rT ?_)) fun h=>hnx _ _ ⟨rfl,r,rfl,hr,hrb⟩
     by_cases h0:(0:Int)<(j:Int)
     · rw[decide_eq_true h0]
       have ej:(j:Int)-1=((j-1:Nat):Int):=by omega
       refine eO (lB ?_)
       rw[ej]
       refine aB (aI e2) (tM (by omega)) (oM rfl ?_)
       have hmem:A.getD (j-1) []∈A:=by rw[Mx.ba (by omega)];exact List.getElem_mem _
       exact hnx _ _ ⟨rfl,_,rfl,hA _ hmem,fun x hx=>Nat.le_trans (hb2 _ hmem x hx) (by omega)⟩
     · rw[decide_eq_false h0]
       exact hnx _ _ ⟨rfl,r,rfl,hr,hrb⟩
   clear hr hrb
   rintro σ' st3 ⟨rfl,r,rfl,hr,hrb⟩
   refine gW J (fun nx hnx=>?_) ?_
   · refine eq2 (fun h=>eO (rT ?_)) fun h=>hnx _ _ ⟨rfl,r,rfl,hr,hrb⟩
     by_cases h0:(1:Int)<(j:Int)
     · rw[decide_eq_true h0]
       have ej:(j:Int)-1=((j-1:Nat):Int):=by omega
       have ej2:(j:Int)-2=((j-2:Nat):Int):=by omega
       refine eO (lB ?_)
       rw[ej]
       refine aB (aI e2) (tM (by omega)) (lB ?_)
       rw[ej2]
       refine aB (aI e2) (tM (by omega)) ?_
       have hm1:A.getD (j-1) []∈A:=by rw[Mx.ba (by omega)];exact List.getElem_mem _
       have hm2:A.getD (j-2) []∈A:=by rw[Mx.ba (by omega)];exact List.getElem_mem _
       have l1:=hA _ hm1
       have l2:=hA _ hm2
       refine qz rfl rfl fun ok aL=>⟨cp (by rw[pJ,List.length_map,List.length_map];omega),?_⟩
       refine comp_map (g:=fun d=>match d with| .tup [.int a,.int b]=> .int (a+b)|_=> .aE) (aL _ rfl rfl) _ (fun d hd K' q=>?_) ?_
       · obtain⟨a,c,_,_,rfl⟩:=tQ hd
         exact⟨_,rfl,dH q⟩
       rw[yb]
       refine hnx _ _ ⟨rfl,_,rfl,by rw[List.length_zipWith];omega,fun x hx=>?_⟩
       have:=Lw (hb2 _ hm1) (hb2 _ hm2) x hx
       omega
     · rw[decide_eq_false h0]
       exact hnx _ _ ⟨rfl,r,rfl,hr,hrb⟩
   clear hr hrb
   rintro σ' st3 ⟨rfl,r,rfl,hr,hrb⟩
   refine gW J (fun nx hnx=>?_) ?_
   · exact eq2 (fun h=>absurd h h7) fun h=>hnx _ _ ⟨rfl,r,rfl,hr,hrb⟩
   clear hr hrb
   rintro σ' st3 ⟨rfl,r,rfl,hr,hrb⟩
   refine Cm (by rfl) e2 (di rfl (AR e2 (by rw[sizeLine_eq,List.length_map];omega) ?_))
   have hl2:=(List.getElem?_eq_some_iff.mp e2).1
   refine next _ _ ⟨A++[r],_,_,_,rfl,by rw[List.getElem?_set_self hl2,Et],by simp[hl],fun q hq=>?_,fun q hq x hx=>?_,(B4.cell (List.getElem?_set_ne (by omega))).mono (by omega),X2.set (Nat.le_refl _)⟩
   · rcases List.mem_append.mp hq with h|h
     · exact hA q h
     · have:q=r:=by simpa using h
       subst this;exact hr
   · rcases List.mem_append.mp hq with h|h
     · exact Nat.le_trans (hb2 q h x hx) (by omega)
     · have:q=r:=by simpa using h
       subst this;exact hrb x hx
noncomputable def oA:bW:=fun ds st K=>∃(n:Nat) (b:Int),ds=[.ref n]∧Hd st n b∧b≤900000000∧∀(x y:Nat) st',1≤x→x≤8→1≤y→y≤8→Hd st' n (b+3)→Upd st n st'→K (.tup [.int x,.int y]) st'
noncomputable def kO:List Str:=["_law_hand_here"]
noncomputable def zN:DS:=(aH (eY (bS (av gg (aC bY (af (ae 0) (af (dC (.int 8)) ao))) (dC (.int 0)))) (bz (jr (af (av cN (dC (.int 5)) (aC bY (af (ae 0) (af (dC (.int 4)) ao)))) (af (av cN (dC (.int 5)) (aC bY (af (ae 0) (af (dC (.int 4)) ao)))) ao)))) dM)
 (bz (jr (af (av cN (dC (.int 1)) (aC bY (af (ae 0) (af (dC (.int 4)) ao)))) (af (av cN (dC (.int 1)) (aC bY (af (ae 0) (af (dC (.int 4)) ao)))) ao)))))
theorem zc:∀ds st K,oA ds st K→ds.length=1∧zN {nx:=fun _ st'=>K .aE st',rt:=K} (aR kO ds) st:=by
 rintro ds st K ⟨n,b,rfl,B,hb,k⟩
 refine⟨rfl,?_⟩
 have fin:∀(x y:Int) st',1≤x→x≤8→1≤y→y≤8→Hd st' n (b+3)→Upd st n st'→K (.tup [.int x,.int y]) st':=fun x y st' h1 h2 h3 h4 H U=>by
  obtain⟨x,rfl⟩:=Int.eq_ofNat_of_zero_le (show 0≤x by omega)
  obtain⟨y,rfl⟩:=Int.eq_ofNat_of_zero_le (show 0≤y by omega)
  exact k x y st' (by omega) (by omega) (by omega) (by omega) H U
 refine⟨n,8,b,rfl,B,by omega,by decide,by decide,fun r0 st0 z1 z2 B0 U0=>?_⟩
 refine eq2 (fun h=>eO ?_) fun h=>?_
 · refine⟨n,4,b+1,rfl,B0,by omega,by decide,by decide,fun r1 st1 a1 a2 B1 U1=>dH ?_⟩
   refine⟨n,4,b+1+1,rfl,B1,by omega,by decide,by decide,fun r2 st2 c1 c2 B2 U2=>dH ⟨Nat.le_of_ble_eq_true rfl,?_⟩⟩
   exact fin _ _ _ (by omega) (by omega) (by omega) (by omega) (B2.mono (by omega)) ((U0.trans U1).trans U2)
 · refine⟨n,4,b+1,rfl,B0,by omega,by decide,by decide,fun r1 st1 a1 a2 B1 U1=>dH ?_⟩
   refine⟨n,4,b+1+1,rfl,B1,by omega,by decide,by decide,fun r2 st2 c1 c2 B2 U2=>dH ⟨Nat.le_of_ble_eq_true rfl,?_⟩⟩
   exact fin _ _ _ (by omega) (by omega) (by omega) (by omega) (B2.mono (by omega)) ((U0.trans U1).trans U2)
noncomputable def jT:bW:=fun ds st K=>∃(n:Nat) (b kinds:Int),ds=[.ref n,.int kinds]∧Hd st n b∧b≤500000000∧0<kinds∧kinds≤7∧∀(m w:Nat) A st',1≤m→m≤8→1≤w→w≤8→Mx.cT m w A→(∀r∈A,∀x∈r,x.natAbs≤9*256)→Hd st' n (b+310)→XU st n st'→K (c_ A) st'
noncomputable def g_:List Str:=["_law_hand_here","_law_kinds","_law_many","_law_wide"]
noncomputable def u9:DS:=(aH (EX (jd 2 3) (aC oA (af (ae 0) ao)))
 (bz (aC pD (af (ae 0) (af (ae 2) (af (ae 3) (af (aC bY (af (ae 0) (af (ae 1) ao))) ao)))))))
theorem t9:∀ds st K,jT ds st K→ds.length=2∧u9 {nx:=fun _ st'=>K .aE st',rt:=K} (aR g_ ds) st:=by
 rintro ds st K ⟨n,b,kinds,rfl,B,hb,k0,k1,k⟩
 refine⟨rfl,?_⟩
 refine⟨n,b,rfl,B,by omega,fun m w st1 m1 m8 w1 w8 B1 U1=>?_⟩
 refine⟨_,rfl,?_⟩
 refine⟨n,kinds,_,rfl,B1,by omega,k0,by omega,fun kd st2 a1 a2 B2 U2=>?_⟩
 refine⟨n,_,m,w,kd,rfl,by omega,B2,by omega,m8,w8,fun A st3 hA bA B3 X3=>?_⟩
 exact k m w A st3 m1 m8 w1 w8 hA bA (B3.mono (by omega)) ((XU.upd (U1.trans U2)).trans X3)
noncomputable def oz:bW:=fun ds st K=>∃(n:Nat) (b:Int) (A:List (List Int)) (N w:Nat),ds=[.ref n,c_ A]∧Hd st n b∧b≤500000∧Mx.cT N w A∧1≤N∧N≤8∧1≤w∧w≤8∧(∀r∈A,∀x∈r,x.natAbs≤9*256)∧∀st' (rs:List (List Int)),rs.length≤4→(∀r∈rs,r.length=w∧∀x∈r,x.natAbs≤2^40)→Hd st' n (b+30)→Upd st n st'→K (.lst (rs.map bo)) st'
noncomputable def kJ:List Str:=["_law_hand_here","_law_rows_here","_law_wide","_law_total","_law_row","_law_often","_law_at","_law_bent","_law_drawn"]
noncomputable def zI:DS:=(aH (a_ 2 (cq eC (af (av aY (ae 1) (dC (.int 0))) ao)))
 (aH (a_ 3 (av cF (oy (af (dC (.int 0)) ao)) (ae 2)))
 (aH (jj (eZ (ae 1)) (cw 4) (aH (a_ 5 (av lS (aC bY (af (ae 0) (af (dC (.int 7)) ao))) (dC (.int 3))))
 (a_ 3 (d7 (tN (af (ae 3) (af (ae 4) ao))) [none,none,some 5] (jd 0 1) cG (av cN (ae 0) (av cF (ae 2) (ae 1)))))))
 (aH (a_ 6 (aC bY (af (ae 0) (af (ae 2) ao))))
 (aH (a_ 7 (av cN (av cN (iW (ae 3) gX (kX (ae 6))) (oy (af (av cN (av cN (av aY (ae 3) (ae 6)) (dC (.int 1))) (aC bY (af (ae 0) (af (dC (.int 3)) ao)))) ao))) (iW (ae 3) (kX (av cN (ae 6) (dC (.int 1)))) gX)))
 (aH (a_ 8 (d7 (fV (af (ae 2) ao)) [none,some 0] (cw 0) cG (av lS (aC bY (af (ae 1) (af (dC (.int 9)) ao))) (dC (.int 4)))))
 (bz (oy (af (cq dD (af (ae 3) ao)) (af (cq dD (af (ae 7) ao)) (af (cq dD (af (ae 8) ao)) (af (av cF (jr (af (dC (.int 0)) ao)) (ae 2)) ao))))))))))))
theorem yD{xs:List D}{j:Nat}:L3.cutD xs (some (j:Int)) none=xs.drop j:=by
 unfold L3.cutD
 rw[HT.Az,HT.ze]
 by_cases h:j≤xs.length
 · rw[Nat.min_eq_left h,List.take_of_length_le (by rw[List.length_drop];omega)]
 · rw[Nat.min_eq_right (by omega),List.drop_of_length_le (Nat.le_refl _),List.drop_of_length_le (by omega)]
   simp
theorem yN:∀ds st K,oz ds st K→ds.length=2∧zI {nx:=fun _ st'=>K .aE st',rt:=K} (aR kJ ds) st:=by
 rintro ds st K ⟨n,b,A,N,w,rfl,B,hb,hA,n1,n8,w1,w8,bA,k⟩
 refine⟨rfl,?_⟩
 have lA:=hA.len
 have rw0:=hA.row (i:=0) n1
 refine aB rfl (show eB (A.map bo) 0=some (bo (A.getD 0 []))from Ar (k:=0) (by omega)) (df rfl ?_)
 rw[List.length_map,rw0]
 refine KC (Nat.le_of_ble_eq_true rfl) (vp ⟨by omega,by omega,cp (by simp;omega)⟩ ?_)
 rw[Int.toNat_natCast,kr]
 try dsimp only[ao]
 refine gW (A:=jj _ _ _) (fun σ st'=>∃(T:List Int) (v4 v5:Option D),σ=[some (.ref n),some (c_ A),some (.int w),some (a9 T),v4,v5,none,none,none]∧T.length=w∧(∀x∈T,x.natAbs≤8*(3*(9*256)))∧Hd st' n (b+8)∧Upd st n st') (fun nx hnx=>?_) ?_
 · refine jx ?_
   refine gM (fun rest σ st'=>∃(i:Nat) (T:List Int) (v4 v5:Option D),i≤N∧rest=(A.map bo).drop i∧σ=[some (.ref n),some (c_ A),some (.int w),some (a9 T),v4,v5,none,none,none]∧T.length=w∧(∀x∈T,x.natAbs≤i*(3*(9*256)))∧Hd st' n (b+i)∧Upd st n st') ?_ ?_ _ _ _ ⟨0,List.replicate w 0,none,none,Nat.zero_le _,rfl,rfl,by simp,fun x hx=>by rw[List.eq_of_mem_replicate hx];exact Nat.zero_le _,B.mono (by omega),Upd.refl⟩
   · rintro σ st' ⟨i,T,v4,v5,hi,hrest,rfl,lT,bT,B',U⟩
     exact⟨trivial,hnx _ _ ⟨T,v4,v5,rfl,lT,fun x hx=>Nat.le_trans (bT x hx) (Nat.mul_le_mul_right _ (by omega)),B'.mono (by omega),U⟩⟩
   · rintro x rest σ st' ⟨i,T,v4,v5,hi,hrest,rfl,lT,bT,B',U⟩ next
     obtain⟨hiA,rfl,rfl⟩:=drop_cons hrest
     have hiN:i<N:=by omega
     have lri:=hA.row hiN
     have hmem:A.getD i []∈A:=by rw[Mx.ba hiA];exact List.getElem_mem _
     refine⟨trivial,_,rfl,?_⟩
     refine⟨n,7,_,rfl,B',by omega,by decide,by decide,fun o st2 o0 o1 B2 U2=>lB ?_⟩
     refine qz rfl rfl fun ok2 hok2=>⟨cp (by rw[pJ,List.length_map,List.length_map];omega),?_⟩
     refine comp_map (g:=fun d=>match d with| .tup [.int a,.int b]=> .int (a+(o-3)*b)|_=> .aE) (hok2 _ rfl rfl) _ (fun d hd K' t=>?_) ?_
     · obtain⟨a,b,ha,hb,rfl⟩:=tQ hd
       exact⟨_,rfl,dE (iP (by omega) (by omega)) (dH t)⟩
     have ea:(fY (aJ T) (aJ (A.getD i []))).map (fun d=>match d with| .tup [.int a,.int b]=> .int (a+(o-3)*b)|_=> .aE)=aJ (Mx.eP T (o-3) (A.getD i [])):=qY T (A.getD i [])
     rw[ea]
     have lAd:(Mx.eP T (o-3) (A.getD i [])).length=w:=by rw[Mx.kl (by omega)];exact lT
     refine next _ _ ⟨i+1,Mx.eP T (o-3) (A.getD i []),_,_,hiN,rfl,rfl,lAd,fun z hz=>?_,B2.mono (by omega),U.trans U2⟩
     obtain⟨c,hc,rfl⟩:=List.mem_iff_getElem.mp hz
     have e2:(Mx.eP T (o-3) (A.getD i []))[c]=(Mx.eP T (o-3) (A.getD i [])).getD c 0:=(Mx.ba hc).symm
     rw[e2,Mx.rR (by omega)]
     have b1:=bT _ (getD_mem (r:=T) (k:=c) (by omega))
     have b2:=bA _ hmem _ (getD_mem (r:=A.getD i []) (k:=c) (by omega))
     have b3:((o-3)*(A.getD i []).getD c 0).natAbs≤3*(9*256):=by
      rw[Int.natAbs_mul]
      exact Nat.mul_le_mul (by omega) b2
     have b4:=Int.natAbs_add_le (T.getD c 0) ((o-3)*(A.getD i []).getD c 0)
     rw[Nat.succ_mul]
     omega
 rintro σ st1 ⟨T,v4,v5,rfl,lT,bT,B1,U1⟩
 refine⟨n,w,_,rfl,B1,by omega,by omega,by omega,fun at_ st3 a0 a1 B3 U3=>?_⟩
 obtain⟨j,rfl⟩:=Int.eq_ofNat_of_zero_le a0
 have atj:eB (aJ T) (j:Int)=some (.int (T.getD j 0)):=jy (by omega)
 refine qU ?_
 rw[qL]
 refine aB rfl atj (dH ⟨n,3,_,rfl,B3,by omega,by decide,by decide,fun o st4 o0 o1 B4 U4=>dH ⟨Nat.le_of_ble_eq_true rfl,?_⟩⟩)
 refine AA (cp (by rw[List.length_take,List.length_map];simp;omega)) (dH (qU ?_))
 rw[show(j:Int)+1=((j+1:Nat):Int)from rfl,yD]
 refine AA (cp (by rw[List.length_append,List.length_take,List.length_drop,List.length_map];simp;omega)) ?_
 have hbent:(T.getD j 0+1+o).natAbs≤2^40:=by
  have:=bT _ (getD_mem (r:=T) (k:=j) (by omega))
  omega
 generalize T.getD j 0+1+o=bent at hbent
 have eb:(aJ T).take j++[D.int bent]++(aJ T).drop (j+1)=aJ (T.take j++[bent]++T.drop (j+1)):=by
  simp[aJ,List.map_append,List.map_take,List.map_drop]
 rw[eb]
 have up:∀ {x:Int},x.natAbs≤8*(3*(9*256))→x.natAbs≤2^40:=fun h=>Nat.le_trans h (by decide)
 have c1:(T.take j++[bent]++T.drop (j+1)).length=w∧∀x∈T.take j++[bent]++T.drop (j+1),x.natAbs≤2^40:=⟨by simp;omega,fun x hx=>by
  rcases List.mem_append.mp hx with hx|hx
  · rcases List.mem_append.mp hx with hx|hx
    · exact up (bT x (List.mem_of_mem_take hx))
    · rw[List.mem_singleton.mp hx];exact hbent
  · exact up (bT x (List.mem_of_mem_drop hx))⟩
 generalize T.take j++[bent]++T.drop (j+1)=T1 at c1⊢
 refine ju ⟨by omega,by omega⟩ ⟨cp (by rw[fC];omega),?_⟩
 rw[Int.toNat_natCast]
 refine ip (fun rest acc st'=>∃l:List Int,acc=aJ l∧l.length+rest.length=w∧(∀x∈l,x.natAbs≤9)∧Hd st' n (b+8+1+1+l.length)∧Upd st4 n st') ?_ ?_ _ _ _ ⟨[],rfl,by rw[fC];simp,by simp,B4.mono (by simp),Upd.refl⟩
 rotate_left 1
 · rintro d rest acc st' ⟨l,rfl,hl,h9,B',U'⟩ next
   have hl2:l.length<w:=by simp at hl;omega
   refine⟨trivial,_,rfl,n,9,_,rfl,B',by omega,by decide,by decide,fun o st5 o0 o1 B5 U5=>lB ?_⟩
   show cO _ _ _ _ _ _ _ _ _
   rw[ints_app]
   refine next _ _ ⟨l++[o-4],rfl,by simp at hl⊢;omega,fun x hx=>?_,B5.mono (by simp;omega),U'.trans U5⟩
   rcases List.mem_append.mp hx with h|h
   · exact h9 x h
   · rw[List.mem_singleton.mp h];omega
 rintro acc st5 ⟨l,rfl,hl,h9,B5,U5⟩
 have hl:l.length=w:=by simpa using hl
 refine⟨trivial,?_⟩
 refine di rfl (di rfl (di rfl ⟨Nat.le_of_ble_eq_true rfl,vV ⟨by omega,by omega,cp (by simp;omega)⟩ ⟨Nat.le_of_ble_eq_true rfl,?_⟩⟩))
 rw[Int.toNat_natCast,kr]
 refine k st5 [T,T1,l,List.replicate w 0] (Nat.le_of_ble_eq_true rfl) (fun r hr=>?_) (B5.mono (by omega)) (U1.trans (U3.trans (U4.trans U5)))
 rcases List.mem_cons.mp hr with rfl|hr
 · exact⟨lT,fun x hx=>up (bT x hx)⟩
 rcases List.mem_cons.mp hr with rfl|hr
 · exact c1
 rcases List.mem_cons.mp hr with rfl|hr
 · exact⟨hl,fun x hx=>Nat.le_trans (h9 x hx) (by decide)⟩
 · rw[List.mem_singleton.mp hr]
   exact⟨by simp,fun x hx=>by rw[List.eq_of_mem_replicate hx];exact Nat.zero_le _⟩
noncomputable abbrev Ge:bW:=DQ La
noncomputable def xt:List Str:=["_law_script","_law_hand_here","_law_rows_here","_law_form","_law_row","_law_told","_law_at","_law_more","_law_other","_law_within"]
noncomputable def Mt:DS:=(aH (a_ 1 (aC pH (af (ae 0) ao)))
 (aH (a_ 2 (iW (aC jT (af (ae 1) (af (dC (.int 7)) ao))) gX (kX (dC (.int 7)))))
 (aH (a_ 3 (av aY (aC j6 (af (ae 2) ao)) (dC (.int 0))))
 (aH (jj (eZ (aC oz (af (ae 1) (af (ae 2) ao)))) (cw 4) (aH (a_ 5 (aC tL (af (ae 2) (af (ae 4) ao))))
 (aH (a_ 6 (aC bY (af (ae 1) (af (av cN (cq eC (af (ae 2) ao)) (dC (.int 1))) ao))))
 (aH (a_ 7 (av cN (av cN (iW (ae 2) gX (kX (ae 6))) (jr (af (ae 4) ao))) (iW (ae 2) (kX (ae 6)) gX)))
 (aH (a_ 8 (av aY (aC j6 (af (ae 7) ao)) (dC (.int 0))))
 (aH (a_ 9 (av gg (aC se (af (ae 3) (af (ae 4) ao))) (av cF (jr (af (dC (.int 0)) ao)) (cq eC (af (ae 4) ao)))))
 (aH (eY (tK (bS (av nE (av gg (av aY (ae 5) (dC (.int 0))) (dC (.str "told"))) (ae 9))) (tK (bS (av nE (av gg (ae 8) (ae 3)) (ae 9))) (u7 (bS (aC kI (af (ae 2) (af (ae 4) (af (ae 5) ao)))))))) (bz (dC (.bl false))) dM)
 (eY (bS (cq yX (af (d7 (eZ (ae 7)) [none,some 8,some 4] (cw 0) cG (av vh (aC se (af (ae 1) (af (ae 0) ao))) (av cF (jr (af (dC (.int 0)) ao)) (cq eC (af (ae 2) ao))))) ao))) (bz (dC (.bl false))) dM))))))))
 (bz (dC (.bl true)))))))
structure Fo(A:List (List Int))(N w:Nat)(F:List (List Int))(m:Nat):Prop where
 wf:Wf F m w
 red:Mx.Eh F m (Mx.cM F)
 same:Mx.mr A N F m w
theorem Cw{A:List (List Int)}{N w top e u:Nat}{c:Mx.B3}{ld:Nat→Nat}(H:Mx.gE A N w c top w ld e u)(hA:Mx.cT N w A)(n8:N≤8)(w8:w≤8)(bA:∀r∈A,∀x∈r,x.natAbs≤2^48):Fo A N w (c.A.take top) top:=by
 have s:Mx.cv (c.A.take top) top w ld:=⟨fun i hi=>by
  obtain⟨h1,h2,h3⟩:=H.lead i hi
  exact⟨h1,by rw[f9 hi];exact h2,fun c hc=>by rw[f9 hi];exact h3 c hc⟩,H.mono⟩
 refine⟨CS H hA n8 w8 bA,fun i j hij hj=>?_,fun k hk=>?_,fun k hk=>?_⟩
 · rw[s.cM hj,f9 (Nat.lt_trans hij hj),f9 hj]
   exact H.red i j hij hj
 · obtain⟨z,hz⟩:=H.out k hk
   exact⟨z,fun q hq=>(hz q hq).trans (Mx.aG fun i hi=>by rw[f9 hi])⟩
 · exact(H.in k hk).eq fun q _=>f9 hk
theorem Fo.one{A B:List (List Int)}{N N' w m m':Nat}{F G:List (List Int)}(f:Fo A N w F m)(g:Fo B N' w G m')(h:Mx.mr A N B N' w):F=G:=by
 have h1:=(f.same.symm.trans h).trans g.same
 have e:m=m':=Nat.le_antisymm
  (Nat.le_of_not_lt fun l=>Nat.lt_irrefl _ (f.wf.st.same g.wf.st h1.to h1.of m' l).1)
  (Nat.le_of_not_lt fun l=>Nat.lt_irrefl _ (g.wf.st.same f.wf.st h1.of h1.to m l).1)
 subst e
 exact f.wf.is.ext g.wf.is fun i j hi hj=>f.wf.st.only g.wf.st h1.to h1.of f.red g.red hi j hj
theorem vg{X:List (List Int)}{n w:Nat}{q:List Int}(hl:X.length=n)(h:q∈X):Mx.cV X n w fun c=>q.getD c 0:=by
 obtain⟨i,hi,rfl⟩:=List.mem_iff_getElem.mp h
 refine(Mx.cV.row (k:=i) (by omega)).eq fun c _=>?_
 unfold Mx.g
 rw[Mx.ba hi]
theorem Ax{X Y:List (List Int)}{n m w:Nat}(hl:X.length=n)(h:∀q∈X,Mx.cV Y m w fun c=>q.getD c 0):∀k,k<n→Mx.cV Y m w (Mx.g X k):=fun k hk=>h _ (by rw[Mx.ba (by omega)];exact List.getElem_mem _)
theorem wI:∀(r s:List Int),fh (aJ r) (aJ s)=decide (r=s)
 | [],[]=>by unfold fh;rfl
 | [],_::_=>by unfold fh;simp
 |_::_,[]=>by unfold fh;simp
 |a::r,b::s=>by
  simp only[List.map_cons]
  unfold fh
  rw[wI r s]
  unfold cz
  by_cases h1:a=b<;>by_cases h2:r=s<;>simp[h1,h2]
theorem Ai(r s:List Int):cz (bo r) (bo s)=decide (r=s):=by
 unfold cz
 exact wI r s
theorem wJ:∀(A B:List (List Int)),fh (A.map bo) (B.map bo)=decide (A=B)
 | [],[]=>by unfold fh;rfl
 | [],_::_=>by unfold fh;simp
 |_::_,[]=>by unfold fh;simp
 |a::r,b::s=>by
  simp only[List.map_cons]
  unfold fh
  rw[wJ r s,Ai]
  by_cases h1:a=b<;>by_cases h2:r=s<;>simp[h1,h2]
theorem ET(A B:List (List Int)):cz (c_ A) (c_ B)=decide (A=B):=by
 unfold cz
 exact wJ A B
theorem zE{n:Nat}{A:List (List Int)}:pl (n+2) (c_ A)=true:=by
 unfold pl
 refine List.all_eq_true.mpr fun d hd=>?_
 obtain⟨r,_,rfl⟩:=List.mem_map.mp hd
 exact kB
theorem yv{F:List (List Int)}{m w:Nat}{r:List Int}(hW:Wf F m w)(lr:r.length=w):(Mx.c5 F r m=List.replicate w 0↔Mx.cV F m w fun c=>r.getD c 0)∧(ij (Mx.c5 F r m)=none↔Mx.c5 F r m=List.replicate w 0):=by
 have lR:=Mx.mJ hW.is lr (Nat.le_refl m)
 have fz:=(Mx.vZ hW.is lr hW.st (Nat.le_refl m)).zero hW.st
 have z:Mx.c5 F r m=List.replicate w 0↔∀c,c<w→(Mx.c5 F r m).getD c 0=0:=⟨fun h c _=>by rw[h];exact Mx.dU _ _,fun h=>Mx.vX lR (by simp) fun j hj=>by rw[h j hj,Mx.dU]⟩
 refine⟨z.trans fz,⟨fun h=>z.mpr fun c _=>o9 _ 0 h c,fun h=>?_⟩⟩
 cases e:ij (Mx.c5 F r m)with
 |none=>rfl
 |some l=>
  obtain⟨h1,h2,_⟩:=ow e
  exact absurd (z.mp h l (by omega)) h2
theorem An:∀n:Nat,fy (List.replicate n (D.bl false))=some (List.replicate n false)
 |0=>rfl
 |n+1=>by rw[List.replicate_succ,List.replicate_succ];unfold fy;rw[An n];rfl
theorem Kg:∀ds st K,Ge ds st K→ds.length=1∧Mt {nx:=fun _ st'=>K .aE st',rt:=K} (aR xt ds) st:=by
 rintro ds st K ⟨ns,rfl,hl,hst,k⟩
 refine⟨rfl,?_⟩
 have l0:st.length=1:=by rw[hst];rfl
 have t0:st[0]?=some (fv false):=by rw[hst];rfl
 clear hst
 refine⟨ns,rfl,hl,fun st1 B1 X1=>?_⟩
 refine⟨_,_,7,rfl,B1,by decide,by decide,by decide,fun N0 w A0 st2 N1 N8 w1 w8 hA0 hb B2 X2=>nY ?_⟩
 rw[show(7:Int)=((7:Nat):Int)from rfl,qL,←List.map_take]
 have t1:st1[0]?=some (fv false):=by rw[X1.same 0 (by omega)];exact t0
 have l1:=X1.len
 have l2:=X2.len
 have t2:st2[0]?=some (fv false):=by rw[X2.same 0 (by omega) (by omega)];exact t1
 have hb2:∀r∈A0.take 7,∀x∈r,x.natAbs≤9*256:=fun r hr=>hb r (List.mem_of_mem_take hr)
 have hA:Mx.cT (min 7 N0) w (A0.take 7):=⟨by rw[List.length_take,hA0.len],fun r hr=>hA0.lP r (List.mem_of_mem_take hr)⟩
 have n1:1≤min 7 N0:=by omega
 have n7:min 7 N0≤7:=Nat.min_le_left _ _
 generalize A0.take 7=A at hb2 hA
 generalize min 7 N0=N at hA n1 n7
 have n0:st.length≠0:=by omega
 clear hb hA0 N1 N8 B1 X1 X2 t0 t1 l2
 have bA:∀r∈A,∀x∈r,x.natAbs≤2^48:=fun r hr x hx=>Nat.le_trans (hb2 r hr x hx) (by decide)
 have lA:=hA.len
 refine⟨_,N,w,48,A,_,rfl,oJ,hA,n1,by omega,by omega,y6 hA bA,fun t ht=>Mx.Cb N (by omega) t (by omega),t2,fun st3 top c ld hC H K3=>aB rfl rfl ?_⟩
 obtain⟨f3,t3⟩:=K3.tb
 have f:=Cw H hA (by omega) w8 bA
 have B3:Hd st3 st.length (0+310):=B2.cell (K3.fr _ B2.lt n0)
 refine⟨_,_,A,N,w,rfl,B3,by decide,hA,n1,by omega,w1,w8,hb2,fun st4 rs hr4 hrs B4 U4=>?_⟩
 have t4:st4[0]?=some (fv f3):=(U4.same 0 (Ne.symm n0)).trans t3
 clear B2 B3 K3 t2 t3 U4 H
 generalize hF:c.A.take top=F at f
 refine AS ?_
 refine gM (fun rest σ st'=>∃(j:Nat) (fb:Bool) (v4 v5 v6 v7 v8 v9:Option D),j≤rs.length∧rest=(rs.map bo).drop j∧σ=[some (.lst (ns.map .int)),some (.ref st.length),some (c_ A),some (c_ F),v4,v5,v6,v7,v8,v9]∧Hd st' st.length (0+310+30+j)∧st'[0]?=some (fv fb)) ?_ ?_ _ _ _ ⟨0,f3,none,none,none,none,none,none,Nat.zero_le _,rfl,rfl,B4.mono (by omega),t4⟩
 · rintro σ st' ⟨j,fb,v4,v5,v6,v7,v8,v9,_,_,rfl,_,_⟩
   exact⟨trivial,k _⟩
 · rintro d rest σ st' ⟨j,fb,v4,v5,v6,v7,v8,v9,hj,hrest,rfl,B',t'⟩ next
   obtain⟨hjr,rfl,rfl⟩:=drop_cons hrest
   obtain⟨lr,br⟩:=hrs (rs.getD j []) (by rw[Mx.ba hjr];exact List.getElem_mem _)
   generalize rs.getD j []=r at lr br
   have P:DW A N w r:=⟨hA,n1,by omega,w8,bA,lr,fun x hx=>Nat.le_trans (br x hx) (by decide)⟩
   have br':∀c,c<w→(r.getD c 0).natAbs≤2^48:=fun c hc=>Nat.le_trans (br _ (getD_mem (by omega))) (by decide)
   refine⟨trivial,_,rfl,?_⟩
   refine⟨_,_,A,r,N,w,fb,rfl,oJ,rfl,P,t',fun st5 x K5 hR hS=>?_⟩
   obtain⟨f5,t5⟩:=K5.tb
   have B5:Hd st5 st.length (0+310+30+j):=B'.cell (K5.fr _ B'.lt n0)
   refine df rfl (dH ?_)
   rw[List.length_map,lA]
   refine⟨_,_,_,rfl,B5,by omega,by omega,by omega,fun at_ st6 a0 a1 B6 U6=>?_⟩
   obtain⟨p,rfl⟩:=Int.eq_ofNat_of_zero_le a0
   have t6:=(U6.same 0 (Ne.symm n0)).trans t5
   refine nY ⟨Nat.le_of_ble_eq_true rfl,?_⟩
   rw[qL,←List.map_take]
   refine AI (cp (by rw[List.length_map,List.length_take];simp;omega)) (nY ?_)
   rw[yD,←List.map_drop]
   refine AI (cp (by rw[List.length_append,List.length_map,List.length_map,List.length_take,List.length_drop];simp;omega)) ?_
   have em:(A.take p).map bo++[bo r]++(A.drop p).map bo=(A.take p++[r]++A.drop p).map bo:=by rw[List.map_append,List.map_append];rfl
   rw[em]
   have memM:∀q,q∈A.take p++[r]++A.drop p↔q∈A∨q=r:=fun q=>by
    conv=>rhs;lhs;rw[←List.take_append_drop p A]
    simp only[List.mem_append,List.mem_singleton]
    constructor
    · rintro((h|h)|h)
      · exact .inl (.inl h)
      · exact .inr h
      · exact .inl (.inr h)
    · rintro((h|h)|h)
      · exact .inl (.inl h)
      · exact .inr h
      · exact .inl (.inr h)
   have lM:(A.take p++[r]++A.drop p).length=N+1:=by
    rw[List.length_append,List.length_append,List.length_take,List.length_drop,List.length_singleton,lA]
    omega
   generalize A.take p++[r]++A.drop p=M at memM lM
   have hM:Mx.cT (N+1) w M:=⟨lM,fun q hq=>by
    rcases(memM q).mp hq with h|rfl
    · exact hA.lP q h
    · exact lr⟩
   have bM:∀q∈M,∀x∈q,x.natAbs≤2^48:=fun q hq x hx=>by
    rcases(memM q).mp hq with h|rfl
    · exact bA q h x hx
    · exact Nat.le_trans (br x hx) (by decide)
   refine⟨_,N+1,w,48,M,_,rfl,oJ,hM,by omega,by omega,by omega,y6 hM bM,fun t ht=>Mx.Cb (N+1) (by omega) t (by omega),t6,fun st7 top' c' ld' hC' H' K7=>aB rfl rfl ?_⟩
   obtain⟨f7,t7⟩:=K7.tb
   have f':=Cw H' hM (by omega) w8 bM
   have B7:=B6.cell (K7.fr _ B6.lt n0)
   generalize c'.A.take top'=F' at f'
   refine⟨_,F,r,top,w,48,rfl,f.wf,rfl,lr,br',by decide,fun st8 X8=>?_⟩
   have t8:st8[0]?=some (fv f7):=(X8.same 0 (List.getElem?_eq_some_iff.mp t7).1).trans t7
   have B8:=B7.cell (X8.same _ B7.lt)
   obtain⟨z1,z2⟩:=yv f.wf lr
   refine⟨Nat.le_of_ble_eq_true rfl,df rfl (vV ⟨by omega,by rw[List.length_map];omega,cp (by rw[List.length_map];simp;omega)⟩ ?_)⟩
   rw[List.length_map,lr,Int.toNat_natCast,kr]
   refine nS kB kB ?_
   rw[Ai]
   have latM:∀q∈M,Mx.cV F' top' w fun c=>q.getD c 0:=fun q hq=>Mx.cV.trans f'.same.to (vg lM hq)
   have key:F'=F↔Mx.c5 F r top=List.replicate w 0:=by
    constructor
    · rintro rfl
      refine z1.mpr ?_
      have e:top'=top:=f'.wf.is.len.symm.trans f.wf.is.len
      subst e
      exact latM r ((memM r).mpr (.inr rfl))
    · intro h
      have hr:Mx.cV A N w fun c=>r.getD c 0:=Mx.cV.trans f.same.of (z1.mp h)
      exact f'.one f ⟨Ax lM fun q hq=>by
       rcases(memM q).mp hq with h|rfl
       · exact vg lA h
       · exact hr,Ax lA fun q hq=>vg lM ((memM q).mpr (.inl hq))⟩
   have told:∃y s,x= .tup [.str s,y]∧cz (.str s) (.str "told")=decide (Mx.c5 F r top=List.replicate w 0):=by
    obtain⟨t2,c2,hC2,hV⟩:=hR.ex
    obtain⟨rfl,rfl⟩:=hC2.unique hC
    rw[hF]at hV
    rcases hV.or with⟨e,rfl⟩|⟨l,b,e,_,rfl⟩
    · exact⟨_,_,rfl,by rw[decide_eq_true (z2.mp e)];rfl⟩
    · exact⟨_,_,rfl,by rw[decide_eq_false fun z=>by rw[z2.mpr z]at e;cases e];rfl⟩
   obtain⟨y,s,rfl,hs⟩:=told
   refine aB rfl rfl (nS rfl rfl ?_)
   rw[hs]
   refine CC ?_
   rw[decide_eq_true rfl]
   refine nS zE zE ?_
   rw[ET,decide_eq_decide.mpr key]
   refine CC ?_
   rw[decide_eq_true rfl]
   refine⟨A,r,N,w,_,rfl,P,hS,?_⟩
   refine jx ⟨cp (by rw[List.length_map];omega),?_⟩
   refine ip (fun rest acc st'=>∃i:Nat,i≤N+1∧rest=(M.map bo).drop i∧acc=List.replicate i (D.bl false)∧Ext st8 st') ?_ ?_ _ _ _ ⟨0,Nat.zero_le _,rfl,rfl,Ext.refl⟩
   · rintro acc st' ⟨i,hi,hrest,rfl,X⟩
     refine⟨trivial,Jv (An i) ?_⟩
     have ea:(List.replicate i false).any id=false:=by simp
     rw[ea]
     exact next _ _ ⟨j+1,f7,_,_,_,_,_,_,hjr,rfl,rfl,(B8.cell (X.same _ B8.lt)).mono (by omega),(X.same 0 (List.getElem?_eq_some_iff.mp t8).1).trans t8⟩
   · rintro d rest acc st' ⟨i,hi,hrest,rfl,X⟩ next2
     obtain⟨hiM,rfl,rfl⟩:=drop_cons hrest
     have hmem:M.getD i []∈M:=by rw[Mx.ba hiM];exact List.getElem_mem _
     have lq:=hM.lP _ hmem
     have bq:=bM _ hmem
     have hL:=latM _ hmem
     generalize M.getD i []=q at lq bq hL
     refine⟨trivial,_,rfl,?_⟩
     refine⟨_,F',q,top',w,48,rfl,f'.wf,rfl,lq,fun c hc=>bq _ (getD_mem (by omega)),by decide,fun st9 X9=>?_⟩
     refine⟨Nat.le_of_ble_eq_true rfl,df rfl (vV ⟨by omega,by rw[List.length_map];omega,cp (by rw[List.length_map];simp;omega)⟩ ?_)⟩
     rw[List.length_map,lr,Int.toNat_natCast,kr,(yv f'.wf lq).1.mpr hL]
     refine FC kB ?_
     show cO _ _ _ _ _ _ _ _ _
     refine next2 _ _ ⟨i+1,by omega,rfl,?_,X.trans X9⟩
     rw[List.replicate_succ']
end Prog
namespace Row
open PySem L2 L3 Prog
open PySem.Spec hiding items?
open PyProof.Rows hiding St
theorem Kj:(("int":Str))≠"__name__":=by decide+kernel
theorem lY:(("isinstance":Str))≠"__name__":=by decide+kernel
theorem Ip:(("bool":Str))≠"__name__":=by decide+kernel
theorem c6:(("tuple":Str))≠"__name__":=by decide+kernel
theorem kD:(("list":Str))≠"__name__":=by decide+kernel
theorem de:(("len":Str))≠"__name__":=by decide+kernel
theorem xY:(("all":Str))≠"__name__":=by decide+kernel
theorem rh:(("abs":Str))≠"__name__":=by decide+kernel
theorem Ki:(("any":Str))≠"__name__":=by decide+kernel
structure Bl(mg:Str→Option Value):Prop where
 L4:mg "int"=none
 nA:mg "isinstance"=none
 Li:mg "bool"=none
 dJ:mg "tuple"=none
 nB:mg "list"=none
 d5:mg "len"=none
 Bu:mg "all"=none
 ui:mg "abs"=none
 uf:mg "zip"=none
 gR:mg "range"=none
 zH:mg "enumerate"=none
 Fd:mg "sorted"=none
 MF:mg "any"=none
structure Kl(K:PySem.W.Frag)(mg:Str→Option Value):Prop where
 aX:ClsAt K mg "Bench" az
 bQ:fD K az "body"
 dX:fD K az "turn"
 b_:fD K az "back_columns"
theorem dP:VS (ai gN) kT ["int","isinstance","bool"]:=⟨by decide+kernel⟩
theorem zl:aN kT ["thing"] (ai gN):=⟨rfl,rfl,rfl,by decide+kernel,rfl,by decide+kernel,by decide+kernel⟩
theorem fJ:VS (ai gJ) kU ["tuple","list","isinstance"]:=⟨by decide+kernel⟩
theorem xM:aN kU ["thing"] (ai gJ):=⟨rfl,rfl,rfl,by decide+kernel,rfl,by decide+kernel,by decide+kernel⟩
theorem d_:VS (ai e_) iK ["is_listed","len"]:=⟨by decide+kernel⟩
theorem uz:aN iK ["thing","many"] (ai e_):=⟨rfl,rfl,rfl,by decide+kernel,rfl,by decide+kernel,by decide+kernel⟩
theorem eL:VS (ai eN) i6 ["is_listed_of","all"]:=⟨by decide+kernel⟩
theorem vD:aN i6 ["thing","many"] (ai eN):=⟨rfl,rfl,rfl,by decide+kernel,rfl,by decide+kernel,by decide+kernel⟩
theorem c7:VS (ai kH) pd ["abs"]:=⟨by decide+kernel⟩
theorem jv:aN pd ["one","other"] (ai kH):=⟨rfl,rfl,rfl,by decide+kernel,rfl,by decide+kernel,by decide+kernel⟩
theorem gH:VS (ai oW) uG ["common"]:=⟨by decide+kernel⟩
theorem kF:aN uG ["top","bottom"] (ai oW):=⟨rfl,rfl,rfl,by decide+kernel,rfl,by decide+kernel,by decide+kernel⟩
theorem ly:VS (ai oY) uA ["part"]:=⟨by decide+kernel⟩
theorem HM:aN uA ["one","other"] (ai oY):=⟨rfl,rfl,rfl,by decide+kernel,rfl,by decide+kernel,by decide+kernel⟩
theorem jK:VS (ai mN) r8 ["part"]:=⟨by decide+kernel⟩
theorem Eo:aN r8 ["one","other"] (ai mN):=⟨rfl,rfl,rfl,by decide+kernel,rfl,by decide+kernel,by decide+kernel⟩
theorem mM:VS (ai mV) rW ["part"]:=⟨by decide+kernel⟩
theorem E3:aN rW ["one","other"] (ai mV):=⟨rfl,rfl,rfl,by decide+kernel,rfl,by decide+kernel,by decide+kernel⟩
theorem o3:VS (ai oV) vb ["part"]:=⟨by decide+kernel⟩
theorem Iv:aN vb ["one","other"] (ai oV):=⟨rfl,rfl,rfl,by decide+kernel,rfl,by decide+kernel,by decide+kernel⟩
theorem GU:VS (ai mT) rO []:=⟨by decide+kernel⟩
theorem Fg:aN rO ["n"] (ai mT):=⟨rfl,rfl,rfl,by decide+kernel,rfl,by decide+kernel,by decide+kernel⟩
theorem gh:VS (ai jz) nU ["are_numbers","common"]:=⟨by decide+kernel⟩
theorem BZ:aN nU ["thing"] (ai jz):=⟨rfl,rfl,rfl,by decide+kernel,rfl,by decide+kernel,by decide+kernel⟩
theorem qr:VS (ai iq) nK ["tuple"]:=⟨by decide+kernel⟩
theorem BB:aN nK ["rows"] (ai iq):=⟨rfl,rfl,rfl,by decide+kernel,rfl,by decide+kernel,by decide+kernel⟩
theorem vA:VS (ai kq) rG ["zip"]:=⟨by decide+kernel⟩
theorem Ew:aN rG ["row","times","other"] (ai kq):=⟨rfl,rfl,rfl,by decide+kernel,rfl,by decide+kernel,by decide+kernel⟩
theorem dW:VS (ai kj) pq ["zip","added","tuple"]:=⟨by decide+kernel⟩
theorem oh:aN pq ["weights","rows","wide"] (ai kj):=⟨rfl,rfl,rfl,by decide+kernel,rfl,by decide+kernel,by decide+kernel⟩
theorem tw:VS (ai jn) pW ["tuple"]:=⟨by decide+kernel⟩
theorem CA:aN pW ["rows","place"] (ai jn):=⟨rfl,rfl,rfl,by decide+kernel,rfl,by decide+kernel,by decide+kernel⟩
theorem jb:VS (ai eK) i_ ["range","tuple"]:=⟨by decide+kernel⟩
theorem vT:aN i_ ["rows","wide"] (ai eK):=⟨rfl,rfl,rfl,by decide+kernel,rfl,by decide+kernel,by decide+kernel⟩
theorem mi:VS (ai gw) mn ["range","tuple"]:=⟨by decide+kernel⟩
theorem zP:aN mn ["n","place"] (ai gw):=⟨rfl,rfl,rfl,by decide+kernel,rfl,by decide+kernel,by decide+kernel⟩
theorem k9:VS (ai fM) kR ["range","tuple"]:=⟨by decide+kernel⟩
theorem yY:aN kR ["n"] (ai fM):=⟨rfl,rfl,rfl,by decide+kernel,rfl,by decide+kernel,by decide+kernel⟩
theorem nX:VS (ai jF) nP ["enumerate"]:=⟨by decide+kernel⟩
theorem uV:aN nP ["row"] (ai jF):=⟨rfl,rfl,rfl,by decide+kernel,rfl,by decide+kernel,by decide+kernel⟩
theorem ir:VS (ai dF) fB []:=⟨by decide+kernel⟩
theorem gY:aN fB ["top","bottom"] (ai dF):=⟨rfl,rfl,rfl,by decide+kernel,rfl,by decide+kernel,by decide+kernel⟩
theorem cP:VS (ai gQ) kY ["list"]:=⟨by decide+kernel⟩
theorem qA:aN kY ["rows","k","other"] (ai gQ):=⟨rfl,rfl,rfl,by decide+kernel,rfl,by decide+kernel,by decide+kernel⟩
theorem Cj:VS (ai iB) nV []:=⟨by decide+kernel⟩
theorem Bm:aN nV ["row"] (ai iB):=⟨rfl,rfl,rfl,by decide+kernel,rfl,by decide+kernel,by decide+kernel⟩
theorem bC:VS (ai cL) gz ["len","unit_rows"]:=⟨by decide+kernel⟩
theorem sA:aN gz ["self","rows"] (ai cL):=⟨rfl,rfl,rfl,by decide+kernel,rfl,by decide+kernel,by decide+kernel⟩
theorem aV:VS (ai f6) j5 ["added"]:=⟨by decide+kernel⟩
theorem w4:aN j5 ["self","k","times","other"] (ai f6):=⟨rfl,rfl,rfl,by decide+kernel,rfl,by decide+kernel,by decide+kernel⟩
theorem a6:VS (ai eg) gu ["exchanged"]:=⟨by decide+kernel⟩
theorem sv:aN gu ["self","k","other"] (ai eg):=⟨rfl,rfl,rfl,by decide+kernel,rfl,by decide+kernel,by decide+kernel⟩
theorem aQ:VS (ai dv) fo ["negated"]:=⟨by decide+kernel⟩
theorem pQ:aN fo ["self","k"] (ai dv):=⟨rfl,rfl,rfl,by decide+kernel,rfl,by decide+kernel,by decide+kernel⟩
theorem cQ:VS (ai cR) fR ["len","range","sorted"]:=⟨by decide+kernel⟩
theorem lb:aN fR ["self","top","place"] (ai cR):=⟨rfl,rfl,rfl,by decide+kernel,rfl,by decide+kernel,by decide+kernel⟩
theorem ay:VS (ai ff) iG ["len","nearest_quotient"]:=⟨by decide+kernel⟩
theorem fA:aN iG ["self","top","place"] (ai ff):=⟨rfl,rfl,rfl,by decide+kernel,rfl,by decide+kernel,by decide+kernel⟩
theorem bJ:VS (ai dm) fm ["range"]:=⟨by decide+kernel⟩
theorem e6:aN fm ["self","top","place"] (ai dm):=⟨rfl,rfl,rfl,by decide+kernel,rfl,by decide+kernel,by decide+kernel⟩
theorem aZ:VS (ai iM) mw ["Bench","len","range","turned_over","as_rows"]:=⟨by decide+kernel⟩
theorem gK:aN mw ["rows"] (ai iM):=⟨rfl,rfl,rfl,by decide+kernel,rfl,by decide+kernel,by decide+kernel⟩
theorem bf:VS (ai jI) nJ ["list","lead_of","added","tuple"]:=⟨by decide+kernel⟩
theorem gq:aN nJ ["form","row"] (ai jI):=⟨rfl,rfl,rfl,by decide+kernel,rfl,by decide+kernel,by decide+kernel⟩
theorem sj:VS (ai mW) sh ["weighed"]:=⟨by decide+kernel⟩
theorem Fu:aN sh ["form","row"] (ai mW):=⟨rfl,rfl,rfl,by decide+kernel,rfl,by decide+kernel,by decide+kernel⟩
theorem cj:VS (ai gT) kQ ["whole","zip","times","plus"]:=⟨by decide+kernel⟩
theorem jW:aN kQ ["parts","row"] (ai gT):=⟨rfl,rfl,rfl,by decide+kernel,rfl,by decide+kernel,by decide+kernel⟩
theorem dy:VS (ai gO) kK ["lead_of","abs"]:=⟨by decide+kernel⟩
theorem q_:aN kK ["form","rest","place"] (ai gO):=⟨rfl,rfl,rfl,by decide+kernel,rfl,by decide+kernel,by decide+kernel⟩
theorem aq:VS (ai eH) g8 ["lead_of","whole","len","bottom_at","part","range","parts_dot","minus","over","tuple"]:=⟨by decide+kernel⟩
theorem ef:aN g8 ["form","rest"] (ai eH):=⟨rfl,rfl,rfl,by decide+kernel,rfl,by decide+kernel,by decide+kernel⟩
theorem bH:VS (ai ko) pK ["standing","weighed","lead_of","parts_against","len","sum_by"]:=⟨by decide+kernel⟩
theorem nW:aN pK ["rows","row"] (ai ko):=⟨rfl,rfl,rfl,by decide+kernel,rfl,by decide+kernel,by decide+kernel⟩
theorem fK:VS (ai fL) kP ["is_listed_of","all"]:=⟨by decide+kernel⟩
theorem x_:aN kP ["thing","many"] (ai fL):=⟨rfl,rfl,rfl,by decide+kernel,rfl,by decide+kernel,by decide+kernel⟩
theorem A7:VS (ai iH) mj []:=⟨by decide+kernel⟩
theorem Aa:aN mj ["one"] (ai iH):=⟨rfl,rfl,rfl,by decide+kernel,rfl,by decide+kernel,by decide+kernel⟩
theorem cm:VS (ai fi) jX ["len","are_parts","parts_dot","is_whole","all"]:=⟨by decide+kernel⟩
theorem w6:aN jX ["rows","row","parts"] (ai fi):=⟨rfl,rfl,rfl,by decide+kernel,rfl,by decide+kernel,by decide+kernel⟩
theorem bE:VS (ai fg) iL ["len","are_numbers","sum_by","tuple"]:=⟨by decide+kernel⟩
theorem uE:aN iL ["rows","row","weights"] (ai fg):=⟨rfl,rfl,rfl,by decide+kernel,rfl,by decide+kernel,by decide+kernel⟩
theorem bL:VS (ai fe) iE ["is_listed_of","weights_show","parts_show"]:=⟨by decide+kernel⟩
theorem uR:aN iE ["rows","row","told"] (ai fe):=⟨rfl,rfl,rfl,by decide+kernel,rfl,by decide+kernel,by decide+kernel⟩
theorem Bw:VS (ai gB) md []:=⟨by decide+kernel⟩
theorem zX:aN md ["_law_script"] (ai gB):=⟨rfl,rfl,rfl,by decide+kernel,rfl,by decide+kernel,by decide+kernel⟩
theorem aF:VS (ai iC) mh ["len"]:=⟨by decide+kernel⟩
theorem fH:aN mh ["_law_hand_here","_law_many"] (ai iC):=⟨rfl,rfl,rfl,by decide+kernel,rfl,by decide+kernel,by decide+kernel⟩
theorem bI:VS (ai gc) jL ["_law_draw"]:=⟨by decide+kernel⟩
theorem p9:aN jL ["_law_hand_here","_law_kind"] (ai gc):=⟨rfl,rfl,rfl,by decide+kernel,rfl,by decide+kernel,by decide+kernel⟩
theorem aM:VS (ai e8) ma ["range","_law_draw","list","zip","tuple"]:=⟨by decide+kernel⟩
theorem et:aN ma ["_law_hand_here","_law_many","_law_wide","_law_kind"] (ai e8):=⟨rfl,rfl,rfl,by decide+kernel,rfl,by decide+kernel,by decide+kernel⟩
theorem cB:VS (ai gL) kO ["_law_draw"]:=⟨by decide+kernel⟩
theorem y8:aN kO ["_law_hand_here"] (ai gL):=⟨rfl,rfl,rfl,by decide+kernel,rfl,by decide+kernel,by decide+kernel⟩
theorem ck:VS (ai eJ) g_ ["_law_sizes","_law_draw","_law_rows"]:=⟨by decide+kernel⟩
theorem m4:aN g_ ["_law_hand_here","_law_kinds"] (ai eJ):=⟨rfl,rfl,rfl,by decide+kernel,rfl,by decide+kernel,by decide+kernel⟩
theorem aD:VS (ai e9) kJ ["len","_law_draw","zip","range","tuple"]:=⟨by decide+kernel⟩
theorem dQ:aN kJ ["_law_hand_here","_law_rows_here"] (ai e9):=⟨rfl,rfl,rfl,by decide+kernel,rfl,by decide+kernel,by decide+kernel⟩
theorem a7:VS (ai mf) xt ["_law_hand","_law_some_rows","standing","_law_cases","inside","len","_law_draw","falls","shows_inside","any"]:=⟨by decide+kernel⟩
theorem iV:aN xt ["_law_script"] (ai mf):=⟨rfl,rfl,rfl,by decide+kernel,rfl,by decide+kernel,by decide+kernel⟩
structure Ev(w:World)(mg:Str→Option Value)(h:Heap):Prop where
 X:(KX w.params).In h
 G:h.Ns mainGlobals mg
section
variable {w:World}{mg:Str→Option Value}{h base:Heap}(e:Ev w mg h)
include e
theorem Bt:Bl mg:=⟨PySem.W.mg_none_of e.X e.G (by kernel_rfl),PySem.W.mg_none_of e.X e.G (by kernel_rfl),PySem.W.mg_none_of e.X e.G (by kernel_rfl),PySem.W.mg_none_of e.X e.G (by kernel_rfl),PySem.W.mg_none_of e.X e.G (by kernel_rfl),PySem.W.mg_none_of e.X e.G (by kernel_rfl),PySem.W.mg_none_of e.X e.G (by kernel_rfl),PySem.W.mg_none_of e.X e.G (by kernel_rfl),PySem.W.mg_none_of e.X e.G (by kernel_rfl),PySem.W.mg_none_of e.X e.G (by kernel_rfl),PySem.W.mg_none_of e.X e.G (by kernel_rfl),PySem.W.mg_none_of e.X e.G (by kernel_rfl),PySem.W.mg_none_of e.X e.G (by kernel_rfl)⟩
theorem Qt:Kl (KX w.params) mg:=⟨⟨⟨by kernel_rfl,by kernel_rfl,by kernel_rfl,by kernel_rfl⟩,PySem.W.mg_of e.X e.G (by kernel_rfl),by kernel_rfl,by kernel_rfl⟩,Hd.na (by kernel_rfl),Hd.na (by kernel_rfl),Hd.na (by kernel_rfl)⟩
theorem sL:bg (KX w.params) mg "is_number" "is_number" gN ["thing"] 21 (Hd.fd gN "is_number" "is_number" qb 20):=Hd.oZ e.X e.G (by kernel_rfl) fun _ _ _ _ _ _ _=>rfl
theorem z_:a8 PW w (KX w.params) mg base cf 1 21 (Hd.fd gN "is_number" "is_number" qb 20) ["thing"] (cn oi):=by
 have B:=Bt e
 have Q:=Qt e
 exact bh (N:=kT) (sL e).fn zl (fun cdv A outer s H E hr=>(aA (aT (n_ (c8 BC (aa (dP.nm 0) (aa (BR B.L4 rfl Kj (dP.d 0) (dP.g 0)) aj)) B.nA rfl lY (dP.d 1) (dP.g 1)) (pM (Mc (c8 BC (aa (dP.nm 0) (aa (BR B.Li rfl Ip (dP.d 2) (dP.g 2)) aj)) B.nA rfl lY (dP.d 1) (dP.g 1)))))))) xH
theorem sI:bg (KX w.params) mg "is_listed" "is_listed" gJ ["thing"] 28 (Hd.fd gJ "is_listed" "is_listed" qb 27):=Hd.oZ e.X e.G (by kernel_rfl) fun _ _ _ _ _ _ _=>rfl
theorem zR:a8 PW w (KX w.params) mg base cf 1 28 (Hd.fd gJ "is_listed" "is_listed" qb 27) ["thing"] (cn oB):=by
 have B:=Bt e
 have Q:=Qt e
 exact bh (N:=kU) (sI e).fn xM (fun cdv A outer s H E hr=>(aA (aT (c8 BC (aa (fJ.nm 0) (aa (iO (aa (BR B.nB rfl kD (fJ.d 1) (fJ.g 1)) (aa (BR B.dJ rfl c6 (fJ.d 0) (fJ.g 0)) aj))) aj)) B.nA rfl lY (fJ.d 2) (fJ.g 2))))) yw
theorem iI:bg (KX w.params) mg "is_listed_of" "is_listed_of" e_ ["thing","many"] 35 (Hd.fd e_ "is_listed_of" "is_listed_of" qb 34):=Hd.iQ e.X e.G (by kernel_rfl) fun _ _ _ _ _ _ _ _=>rfl
theorem kc:a8 PW w (KX w.params) mg base cf 2 35 (Hd.fd e_ "is_listed_of" "is_listed_of" qb 34) ["thing","many"] (cn gd):=by
 have B:=Bt e
 have Q:=Qt e
 exact bh (N:=iK) (iI e).fn uz (fun cdv A outer s H E hr=>(aA (aT (n_ (aP (sI e) (zR e) (hr.mono (by decide)) (aa (d_.nm 0) aj) (d_.d 0) (d_.g 0)) (pM (kW (gy hr) (bD _) (c8 d6 (aa (d_.nm 0) aj) B.d5 rfl de (d_.d 1) (d_.g 1)) (d_.nm 1))))))) uY
theorem l6:bg (KX w.params) mg "are_numbers" "are_numbers" eN ["thing","many"] 40 (Hd.fd eN "are_numbers" "are_numbers" qb 39):=Hd.iQ e.X e.G (by kernel_rfl) fun _ _ _ _ _ _ _ _=>rfl
theorem p8:a8 PW w (KX w.params) mg base cf 3 40 (Hd.fd eN "are_numbers" "are_numbers" qb 39) ["thing","many"] (cn jc):=by
 have B:=Bt e
 have Q:=Qt e
 exact bh (N:=i6) (l6 e).fn vD (fun cdv A outer s H E hr=>(aA (aT (n_ (aP (iI e) (kc e) (hr.mono (by decide)) (aa (eL.nm 0) (aa (eL.nm 1) aj)) (eL.d 0) (eL.g 0)) (pM (c8 (BU rfl) (aa (gI (Nc:=["each"]) (bN.look (ai eN) ["thing","many"] (by decide+kernel)) (fS (eL.nm 0)) (fun _ _ _ _=>(eF (show(["each"]:List Str).Nodup by decide+kernel) (by first|exact Or.inl rfl|exact Or.inr rfl) (by first|exact .inl rfl|exact .inr rfl))) (fun _ _ _ _=>cW) (fun _ _ _ _=>(aP (sL e) (z_ e) (hr.mono (by decide)) (aa dO aj) (by decide+kernel) rfl)) cS) aj) B.Bu rfl xY (eL.d 1) (eL.g 1))))))) vK
theorem tW:bg (KX w.params) mg "common" "common" kH ["one","other"] 47 (Hd.fd kH "common" "common" hJ 46):=Hd.iQ e.X e.G (by kernel_rfl) fun _ _ _ _ _ _ _ _=>rfl
theorem zt:a8 PW w (KX w.params) mg base cf 1 47 (Hd.fd kH "common" "common" hJ 46) ["one","other"] (cn pY):=by
 have B:=Bt e
 have Q:=Qt e
 exact bh (N:=pd) (tW e).fn jv (fun cdv A outer s H E hr=>(aw (aU jv.nd (c7.l 2) (c8 ur (aa (c7.nm 0) aj) B.ui rfl rh (c7.d 0) (c7.g 0)))
  (aw (aU jv.nd (c7.l 3) (c8 ur (aa (c7.nm 1) aj) B.ui rfl rh (c7.d 0) (c7.g 0)))
  (aw (zo (cE zw (bD _) (c7.nm 3) ak) (aw (aU jv.nd (c7.l 4) (aW mB (c7.nm 2) (c7.nm 3)))
  (aw (aU jv.nd (c7.l 2) (c7.nm 3))
  (aA (aU jv.nd (c7.l 3) (c7.nm 4))))))
  (aA (aT (c7.nm 2))))))) CP
theorem o5:bg (KX w.params) mg "part" "part" oW ["top","bottom"] 54 (Hd.fd oW "part" "part" hJ 53):=Hd.iQ e.X e.G (by kernel_rfl) fun _ _ _ _ _ _ _ _=>rfl
theorem qk:a8 PW w (KX w.params) mg base cf 2 54 (Hd.fd oW "part" "part" hJ 53) ["top","bottom"] (cn nv):=by
 have B:=Bt e
 have Q:=Qt e
 exact bh (N:=uG) (o5 e).fn kF (fun cdv A outer s H E hr=>(aw (aU kF.nd (gH.l 2) (aP (tW e) (zt e) (hr.mono (by decide)) (aa (gH.nm 0) (aa (gH.nm 1) aj)) (gH.d 0) (gH.g 0)))
  (aw (dZ (cE yj (bD _) (gH.nm 1) ak) (aA (aU kF.nd (gH.l 2) (jY (gH.nm 2)))) dg)
  (aA (aT (iO (aa (aW (rL hr rfl kF.gen kF.co) (gH.nm 0) (gH.nm 2)) (aa (aW (rL hr rfl kF.gen kF.co) (gH.nm 1) (gH.nm 2)) aj)))))))) Ib
theorem DU:bg (KX w.params) mg "plus" "plus" oY ["one","other"] 61 (Hd.fd oY "plus" "plus" hJ 60):=Hd.iQ e.X e.G (by kernel_rfl) fun _ _ _ _ _ _ _ _=>rfl
theorem KG:a8 PW w (KX w.params) mg base cf 3 61 (Hd.fd oY "plus" "plus" hJ 60) ["one","other"] (cn yR):=by
 have B:=Bt e
 have Q:=Qt e
 exact bh (N:=uA) (DU e).fn HM (fun cdv A outer s H E hr=>(aA (aT (aP (o5 e) (qk e) (hr.mono (by decide)) (aa (aW dz (aW cY (aO (ly.nm 0) ak) (aO (ly.nm 1) ak)) (aW cY (aO (ly.nm 1) ak) (aO (ly.nm 0) ak))) (aa (aW cY (aO (ly.nm 0) ak) (aO (ly.nm 1) ak)) aj)) (ly.d 0) (ly.g 0))))) HH
theorem Aq:bg (KX w.params) mg "minus" "minus" mN ["one","other"] 68 (Hd.fd mN "minus" "minus" hJ 67):=Hd.iQ e.X e.G (by kernel_rfl) fun _ _ _ _ _ _ _ _=>rfl
theorem Io:a8 PW w (KX w.params) mg base cf 3 68 (Hd.fd mN "minus" "minus" hJ 67) ["one","other"] (cn vq):=by
 have B:=Bt e
 have Q:=Qt e
 exact bh (N:=r8) (Aq e).fn Eo (fun cdv A outer s H E hr=>(aA (aT (aP (o5 e) (qk e) (hr.mono (by decide)) (aa (aW nZ (aW cY (aO (jK.nm 0) ak) (aO (jK.nm 1) ak)) (aW cY (aO (jK.nm 1) ak) (aO (jK.nm 0) ak))) (aa (aW cY (aO (jK.nm 0) ak) (aO (jK.nm 1) ak)) aj)) (jK.d 0) (jK.g 0))))) Fl
theorem AE:bg (KX w.params) mg "times" "times" mV ["one","other"] 75 (Hd.fd mV "times" "times" hJ 74):=Hd.iQ e.X e.G (by kernel_rfl) fun _ _ _ _ _ _ _ _=>rfl
theorem Hm:a8 PW w (KX w.params) mg base cf 3 75 (Hd.fd mV "times" "times" hJ 74) ["one","other"] (cn vY):=by
 have B:=Bt e
 have Q:=Qt e
 exact bh (N:=rW) (AE e).fn E3 (fun cdv A outer s H E hr=>(aA (aT (aP (o5 e) (qk e) (hr.mono (by decide)) (aa (aW cY (aO (mM.nm 0) ak) (aO (mM.nm 1) ak)) (aa (aW cY (aO (mM.nm 0) ak) (aO (mM.nm 1) ak)) aj)) (mM.d 0) (mM.g 0))))) EI
theorem Cn:bg (KX w.params) mg "over" "over" oV ["one","other"] 82 (Hd.fd oV "over" "over" hJ 81):=Hd.iQ e.X e.G (by kernel_rfl) fun _ _ _ _ _ _ _ _=>rfl
theorem K6:a8 PW w (KX w.params) mg base cf 3 82 (Hd.fd oV "over" "over" hJ 81) ["one","other"] (cn yZ):=by
 have B:=Bt e
 have Q:=Qt e
 exact bh (N:=vb) (Cn e).fn Iv (fun cdv A outer s H E hr=>(aA (aT (aP (o5 e) (qk e) (hr.mono (by decide)) (aa (aW cY (aO (o3.nm 0) ak) (aO (o3.nm 1) ak)) (aa (aW cY (aO (o3.nm 0) ak) (aO (o3.nm 1) ak)) aj)) (o3.d 0) (o3.g 0))))) Hq
theorem mP:bg (KX w.params) mg "whole" "whole" mT ["n"] 89 (Hd.fd mT "whole" "whole" hJ 88):=Hd.oZ e.X e.G (by kernel_rfl) fun _ _ _ _ _ _ _=>rfl
theorem oU:a8 PW w (KX w.params) mg base cf 1 89 (Hd.fd mT "whole" "whole" hJ 88) ["n"] (cn ka):=by
 have B:=Bt e
 have Q:=Qt e
 exact bh (N:=rO) (mP e).fn Fg (fun cdv A outer s H E hr=>(aA (aT (iO (aa (GU.nm 0) (aa ak aj)))))) Ei
theorem wN:bg (KX w.params) mg "is_part" "is_part" jz ["thing"] 96 (Hd.fd jz "is_part" "is_part" hJ 95):=Hd.oZ e.X e.G (by kernel_rfl) fun _ _ _ _ _ _ _=>rfl
theorem CT:a8 PW w (KX w.params) mg base cf 4 96 (Hd.fd jz "is_part" "is_part" hJ 95) ["thing"] (cn qR):=by
 have B:=Bt e
 have Q:=Qt e
 exact bh (N:=nU) (wN e).fn BZ (fun cdv A outer s H E hr=>(aA (aT (n_ (aP (l6 e) (p8 e) (hr.mono (by decide)) (aa (gh.nm 0) (aa ak aj)) (gh.d 0) (gh.g 0)) (n_ (kW vf (bD _) (aO (gh.nm 0) ak) ak) (pM (kW (gy hr) (bD _) (aP (tW e) (zt e) (hr.mono (by decide)) (aa (aO (gh.nm 0) ak) (aa (aO (gh.nm 0) ak) aj)) (gh.d 1) (gh.g 1)) ak))))))) BY
theorem rf:bg (KX w.params) mg "as_rows" "as_rows" iq ["rows"] 101 (Hd.fd iq "as_rows" "as_rows" i0 100):=Hd.oZ e.X e.G (by kernel_rfl) fun _ _ _ _ _ _ _=>rfl
theorem wX:a8 PW w (KX w.params) mg base cf 1 101 (Hd.fd iq "as_rows" "as_rows" i0 100) ["rows"] (cn nQ):=by
 have B:=Bt e
 have Q:=Qt e
 exact bh (N:=nK) (rf e).fn BB (fun cdv A outer s H E hr=>(aA (aT (fu dY (aa (gI (Nc:=["row"]) (bN.look (ai iq) ["rows"] (by decide+kernel)) (fS (qr.nm 0)) (fun _ _ _ _=>(eF (show(["row"]:List Str).Nodup by decide+kernel) (by first|exact Or.inl rfl|exact Or.inr rfl) (by first|exact .inl rfl|exact .inr rfl))) (fun _ _ _ _=>cW) (fun _ _ _ _=>(fu dY (aa dO aj) B.dJ rfl c6 (by decide+kernel) rfl)) cS) aj) B.dJ rfl c6 (qr.d 0) (qr.g 0))))) By
theorem mO:bg (KX w.params) mg "added" "added" kq ["row","times","other"] 106 (Hd.fd kq "added" "added" i0 105):=Hd.yl e.X e.G (by kernel_rfl) fun _ _ _ _ _ _ _ _ _=>rfl
theorem oP:a8 PW w (KX w.params) mg base cf 1 106 (Hd.fd kq "added" "added" i0 105) ["row","times","other"] (cn ky):=by
 have B:=Bt e
 have Q:=Qt e
 exact bh (N:=rG) (mO e).fn Ew (fun cdv A outer s H E hr=>(aA (aT (gI (Nc:=["one","two","times"]) (bN.look (ai kq) ["row","times","other"] (by decide+kernel)) (uC (vA.g 0) B.uf (aa (vA.nm 0) (aa (vA.nm 2) aj))) (fun _ _ _ _=>(pG rfl (show(["one","two","times"]:List Str).Nodup by decide+kernel) (by first|exact Or.inl rfl|exact Or.inr rfl) (by first|exact .inl rfl|exact .inr rfl) (by first|exact Or.inl rfl|exact Or.inr rfl) (by first|exact .inl rfl|exact .inr rfl))) (fun _ _ _ _=>cW) (fun _ _ _ _=>(aW dz dO (aW cY dO dO))) vC)))) Ej
theorem t_:bg (KX w.params) mg "sum_by" "sum_by" kj ["weights","rows","wide"] 113 (Hd.fd kj "sum_by" "sum_by" i0 112):=Hd.yl e.X e.G (by kernel_rfl) fun _ _ _ _ _ _ _ _ _=>rfl
theorem xO:a8 PW w (KX w.params) mg base cf 2 113 (Hd.fd kj "sum_by" "sum_by" i0 112) ["weights","rows","wide"] (cn pU):=by
 have B:=Bt e
 have Q:=Qt e
 exact bh (N:=pq) (t_ e).fn oh (fun cdv A outer s H E hr=>(aw (aU oh.nd (dW.l 3) (aW cY (nI (aa ak aj)) (dW.nm 2)))
  (aw (ie (uC (dW.g 0) B.uf (aa (dW.nm 0) (aa (dW.nm 1) aj))) (pG rfl oh.nd (by first|exact Or.inl rfl|exact Or.inr rfl) (by first|exact .inl rfl|exact .inr rfl) (by first|exact Or.inl rfl|exact Or.inr rfl) (by first|exact .inl rfl|exact .inr rfl)) (aA (aU oh.nd (dW.l 3) (aP (mO e) (oP e) (hr.mono (by decide)) (aa (dW.nm 3) (aa (dW.nm 4) (aa (dW.nm 5) aj))) (dW.d 1) (dW.g 1)))))
  (aA (aT (fu dY (aa (dW.nm 3) aj) B.dJ rfl c6 (dW.d 2) (dW.g 2))))))) CD
theorem zA:bg (KX w.params) mg "column" "column" jn ["rows","place"] 118 (Hd.fd jn "column" "column" i0 117):=Hd.iQ e.X e.G (by kernel_rfl) fun _ _ _ _ _ _ _ _=>rfl
theorem Es:a8 PW w (KX w.params) mg base cf 1 118 (Hd.fd jn "column" "column" i0 117) ["rows","place"] (cn tj):=by
 have B:=Bt e
 have Q:=Qt e
 exact bh (N:=pW) (zA e).fn CA (fun cdv A outer s H E hr=>(aA (aT (fu dY (aa (gI (Nc:=["row","place"]) (bN.look (ai jn) ["rows","place"] (by decide+kernel)) (fS (tw.nm 0)) (fun _ _ _ _=>(eF (show(["row","place"]:List Str).Nodup by decide+kernel) (by first|exact Or.inl rfl|exact Or.inr rfl) (by first|exact .inl rfl|exact .inr rfl))) (fun _ _ _ _=>cW) (fun _ _ _ _=>(aO dO dO)) cS) aj) B.dJ rfl c6 (tw.d 0) (tw.g 0))))) Dc
theorem qc:bg (KX w.params) mg "turned_over" "turned_over" eK ["rows","wide"] 123 (Hd.fd eK "turned_over" "turned_over" i0 122):=Hd.iQ e.X e.G (by kernel_rfl) fun _ _ _ _ _ _ _ _=>rfl
theorem w_:a8 PW w (KX w.params) mg base cf 2 123 (Hd.fd eK "turned_over" "turned_over" i0 122) ["rows","wide"] (cn lV):=by
 have B:=Bt e
 have Q:=Qt e
 exact bh (N:=i_) (qc e).fn vT (fun cdv A outer s H E hr=>(aA (aT (fu dY (aa (gI (Nc:=["place","rows"]) (bN.look (ai eK) ["rows","wide"] (by decide+kernel)) (iw (jb.g 0) B.gR (aa (jb.nm 1) aj)) (fun _ _ _ _=>(eF (show(["place","rows"]:List Str).Nodup by decide+kernel) (by first|exact Or.inl rfl|exact Or.inr rfl) (by first|exact .inl rfl|exact .inr rfl))) (fun _ _ _ _=>cW) (fun _ _ _ _=>(aP (zA e) (Es e) (hr.mono (by decide)) (aa dO (aa dO aj)) (by decide+kernel) rfl)) cS) aj) B.dJ rfl c6 (jb.d 1) (jb.g 1))))) vQ
theorem uL:bg (KX w.params) mg "unit_row" "unit_row" gw ["n","place"] 128 (Hd.fd gw "unit_row" "unit_row" i0 127):=Hd.iQ e.X e.G (by kernel_rfl) fun _ _ _ _ _ _ _ _=>rfl
theorem BV:a8 PW w (KX w.params) mg base cf 1 128 (Hd.fd gw "unit_row" "unit_row" i0 127) ["n","place"] (cn pL):=by
 have B:=Bt e
 have Q:=Qt e
 exact bh (N:=mn) (uL e).fn zP (fun cdv A outer s H E hr=>(aA (aT (fu dY (aa (gI (Nc:=["k","place"]) (bN.look (ai gw) ["n","place"] (by decide+kernel)) (iw (mi.g 0) B.gR (aa (mi.nm 0) aj)) (fun _ _ _ _=>(eF (show(["k","place"]:List Str).Nodup by decide+kernel) (by first|exact Or.inl rfl|exact Or.inr rfl) (by first|exact .inl rfl|exact .inr rfl))) (fun _ _ _ _=>cW) (fun _ _ _ _=>(Lm (cE (gy hr) (bD _) dO dO) ak ak)) cS) aj) B.dJ rfl c6 (mi.d 1) (mi.g 1))))) zO
theorem oG:bg (KX w.params) mg "unit_rows" "unit_rows" fM ["n"] 133 (Hd.fd fM "unit_rows" "unit_rows" i0 132):=Hd.oZ e.X e.G (by kernel_rfl) fun _ _ _ _ _ _ _=>rfl
theorem sN:a8 PW w (KX w.params) mg base cf 2 133 (Hd.fd fM "unit_rows" "unit_rows" i0 132) ["n"] (cn kM):=by
 have B:=Bt e
 have Q:=Qt e
 exact bh (N:=kR) (oG e).fn yY (fun cdv A outer s H E hr=>(aA (aT (fu dY (aa (gI (Nc:=["place","n"]) (bN.look (ai fM) ["n"] (by decide+kernel)) (iw (k9.g 0) B.gR (aa (k9.nm 0) aj)) (fun _ _ _ _=>(eF (show(["place","n"]:List Str).Nodup by decide+kernel) (by first|exact Or.inl rfl|exact Or.inr rfl) (by first|exact .inl rfl|exact .inr rfl))) (fun _ _ _ _=>cW) (fun _ _ _ _=>(aP (uL e) (BV e) (hr.mono (by decide)) (aa dO (aa dO aj)) (by decide+kernel) rfl)) cS) aj) B.dJ rfl c6 (k9.d 1) (k9.g 1))))) ye
theorem jB:bg (KX w.params) mg "lead_of" "lead_of" jF ["row"] 140 (Hd.fd jF "lead_of" "lead_of" dA 139):=Hd.oZ e.X e.G (by kernel_rfl) fun _ _ _ _ _ _ _=>rfl
theorem lJ:a8 PW w (KX w.params) mg base cf 1 140 (Hd.fd jF "lead_of" "lead_of" dA 139) ["row"] (cn ix):=by
 have B:=Bt e
 have Q:=Qt e
 exact bh (N:=nP) (jB e).fn uV (fun cdv A outer s H E hr=>(aw (ie (KU (nX.g 0) B.zH (aa (nX.nm 0) aj)) (pG rfl uV.nd (by first|exact Or.inl rfl|exact Or.inr rfl) (by first|exact .inl rfl|exact .inr rfl) (by first|exact Or.inl rfl|exact Or.inr rfl) (by first|exact .inl rfl|exact .inr rfl)) (aA (dZ (cE zw (bD _) (nX.nm 2) ak) (aA (aT (nX.nm 1))) dg)))
  (aA (aT Gn)))) BI
theorem lK:bg (KX w.params) mg "nearest_quotient" "nearest_quotient" dF ["top","bottom"] 147 (Hd.fd dF "nearest_quotient" "nearest_quotient" dA 146):=Hd.iQ e.X e.G (by kernel_rfl) fun _ _ _ _ _ _ _ _=>rfl
theorem rq:a8 PW w (KX w.params) mg base cf 1 147 (Hd.fd dF "nearest_quotient" "nearest_quotient" dA 146) ["top","bottom"] (cn h_):=by
 have B:=Bt e
 have Q:=Qt e
 exact bh (N:=fB) (lK e).fn gY (fun cdv A outer s H E hr=>(aA (aT (aW (rL hr rfl gY.gen gY.co) (aW dz (aW cY ak (ir.nm 0)) (ir.nm 1)) (aW cY ak (ir.nm 1)))))) qg
theorem kL:bg (KX w.params) mg "exchanged" "exchanged" gQ ["rows","k","other"] 154 (Hd.fd gQ "exchanged" "exchanged" dA 153):=Hd.yl e.X e.G (by kernel_rfl) fun _ _ _ _ _ _ _ _ _=>rfl
theorem ot:a8 PW w (KX w.params) mg base cf 1 154 (Hd.fd gQ "exchanged" "exchanged" dA 153) ["rows","k","other"] (cn i4):=by
 have B:=Bt e
 have Q:=Qt e
 exact bh (N:=kY) (kL e).fn qA (fun cdv A outer s H E hr=>(aw (aU qA.nd (cP.l 3) (fu HJ (aa (cP.nm 0) aj) B.nB rfl kD (cP.d 0) (cP.g 0)))
  (aw (dR (aO (cP.nm 0) (cP.nm 2)) (cP.nm 3) (cP.nm 1))
  (aw (dR (aO (cP.nm 0) (cP.nm 1)) (cP.nm 3) (cP.nm 2))
  (aA (aT (cP.nm 3))))))) yU
theorem nF:bg (KX w.params) mg "negated" "negated" iB ["row"] 159 (Hd.fd iB "negated" "negated" dA 158):=Hd.oZ e.X e.G (by kernel_rfl) fun _ _ _ _ _ _ _=>rfl
theorem qP:a8 PW w (KX w.params) mg base cf 1 159 (Hd.fd iB "negated" "negated" dA 158) ["row"] (cn lu):=by
 have B:=Bt e
 have Q:=Qt e
 exact bh (N:=nV) (nF e).fn Bm (fun cdv A outer s H E hr=>(aA (aT (gI (Nc:=["number"]) (bN.look (ai iB) ["row"] (by decide+kernel)) (fS (Cj.nm 0)) (fun _ _ _ _=>(eF (show(["number"]:List Str).Nodup by decide+kernel) (by first|exact Or.inl rfl|exact Or.inr rfl) (by first|exact .inl rfl|exact .inr rfl))) (fun _ _ _ _=>cW) (fun _ _ _ _=>(jY dO)) cS)))) Cc
theorem gn:MethAt (KX w.params) az "__init__" "Bench.__init__" cL ["self","rows"] 171 (Hd.fd cL "__init__" "Bench.__init__" dA 170):=Hd.MY (by kernel_rfl) fun _ _ _ _ _ _ _ _=>rfl
theorem tm:a8 PW w (KX w.params) mg base cf 3 171 (Hd.fd cL "__init__" "Bench.__init__" dA 170) ["self","rows"] (cn ji):=by
 have B:=Bt e
 have Q:=Qt e
 exact bh (N:=gz) (gn e).fn sA (fun cdv A outer s H E hr=>(aw (mR Q.aX.cl Q.bQ (bC.nm 0) (vj (Nc:=["row"]) (bN.look (ai cL) ["self","rows"] (by decide+kernel)) (fS (bC.nm 1)) (fun _ _ _ _=>(eF (show(["row"]:List Str).Nodup by decide+kernel) (by first|exact Or.inl rfl|exact Or.inr rfl) (by first|exact .inl rfl|exact .inr rfl))) (fun _ _ _ _=>cW) (fun _ _ _ _=>(fu rD (aa dO aj) B.nB rfl kD (by decide+kernel) rfl)) cS))
  (aw (mR Q.aX.cl Q.dX (bC.nm 0) (vj (Nc:=["row"]) (bN.look (ai cL) ["self","rows"] (by decide+kernel)) (fS (aP (oG e) (sN e) (hr.mono (by decide)) (aa (c8 d6 (aa (bC.nm 1) aj) B.d5 rfl de (bC.d 0) (bC.g 0)) aj) (bC.d 1) (bC.g 1))) (fun _ _ _ _=>(eF (show(["row"]:List Str).Nodup by decide+kernel) (by first|exact Or.inl rfl|exact Or.inr rfl) (by first|exact .inl rfl|exact .inr rfl))) (fun _ _ _ _=>cW) (fun _ _ _ _=>(fu rD (aa dO aj) B.nB rfl kD (by decide+kernel) rfl)) cS))
  (aA (mR Q.aX.cl Q.b_ (bC.nm 0) (vj (Nc:=["row"]) (bN.look (ai cL) ["self","rows"] (by decide+kernel)) (fS (aP (oG e) (sN e) (hr.mono (by decide)) (aa (c8 d6 (aa (bC.nm 1) aj) B.d5 rfl de (bC.d 0) (bC.g 0)) aj) (bC.d 1) (bC.g 1))) (fun _ _ _ _=>(eF (show(["row"]:List Str).Nodup by decide+kernel) (by first|exact Or.inl rfl|exact Or.inr rfl) (by first|exact .inl rfl|exact .inr rfl))) (fun _ _ _ _=>cW) (fun _ _ _ _=>(fu rD (aa dO aj) B.nB rfl kD (by decide+kernel) rfl)) cS)))))) su
theorem iA:MethAt (KX w.params) az "take" "Bench.take" f6 ["self","k","times","other"] 178 (Hd.fd f6 "take" "Bench.take" dA 177):=Hd.Ol (by kernel_rfl) fun _ _ _ _ _ _ _ _ _ _=>rfl
theorem rk:a8 PW w (KX w.params) mg base cf 2 178 (Hd.fd f6 "take" "Bench.take" dA 177) ["self","k","times","other"] (cn j7):=by
 have B:=Bt e
 have Q:=Qt e
 exact bh (N:=j5) (iA e).fn w4 (fun cdv A outer s H E hr=>(aw (dR (aP (mO e) (oP e) (hr.mono (by decide)) (aa (aO (cU Q.aX.cl Q.bQ (aV.nm 0)) (aV.nm 1)) (aa (jY (aV.nm 2)) (aa (aO (cU Q.aX.cl Q.bQ (aV.nm 0)) (aV.nm 3)) aj))) (aV.d 0) (aV.g 0)) (cU Q.aX.cl Q.bQ (aV.nm 0)) (aV.nm 1))
  (aw (dR (aP (mO e) (oP e) (hr.mono (by decide)) (aa (aO (cU Q.aX.cl Q.dX (aV.nm 0)) (aV.nm 1)) (aa (jY (aV.nm 2)) (aa (aO (cU Q.aX.cl Q.dX (aV.nm 0)) (aV.nm 3)) aj))) (aV.d 0) (aV.g 0)) (cU Q.aX.cl Q.dX (aV.nm 0)) (aV.nm 1))
  (aA (dR (aP (mO e) (oP e) (hr.mono (by decide)) (aa (aO (cU Q.aX.cl Q.b_ (aV.nm 0)) (aV.nm 3)) (aa (aV.nm 2) (aa (aO (cU Q.aX.cl Q.b_ (aV.nm 0)) (aV.nm 1)) aj))) (aV.d 0) (aV.g 0)) (cU Q.aX.cl Q.b_ (aV.nm 0)) (aV.nm 3)))))) wZ
theorem jq:MethAt (KX w.params) az "exchange" "Bench.exchange" eg ["self","k","other"] 185 (Hd.fd eg "exchange" "Bench.exchange" dA 184):=Hd.Gb (by kernel_rfl) fun _ _ _ _ _ _ _ _ _=>rfl
theorem tS:a8 PW w (KX w.params) mg base cf 2 185 (Hd.fd eg "exchange" "Bench.exchange" dA 184) ["self","k","other"] (cn jf):=by
 have B:=Bt e
 have Q:=Qt e
 exact bh (N:=gu) (jq e).fn sv (fun cdv A outer s H E hr=>(aw (mR Q.aX.cl Q.bQ (a6.nm 0) (aP (kL e) (ot e) (hr.mono (by decide)) (aa (cU Q.aX.cl Q.bQ (a6.nm 0)) (aa (a6.nm 1) (aa (a6.nm 2) aj))) (a6.d 0) (a6.g 0)))
  (aw (mR Q.aX.cl Q.dX (a6.nm 0) (aP (kL e) (ot e) (hr.mono (by decide)) (aa (cU Q.aX.cl Q.dX (a6.nm 0)) (aa (a6.nm 1) (aa (a6.nm 2) aj))) (a6.d 0) (a6.g 0)))
  (aA (mR Q.aX.cl Q.b_ (a6.nm 0) (aP (kL e) (ot e) (hr.mono (by decide)) (aa (cU Q.aX.cl Q.b_ (a6.nm 0)) (aa (a6.nm 1) (aa (a6.nm 2) aj))) (a6.d 0) (a6.g 0))))))) sD
theorem gZ:MethAt (KX w.params) az "change_sign" "Bench.change_sign" dv ["self","k"] 192 (Hd.fd dv "change_sign" "Bench.change_sign" dA 191):=Hd.MY (by kernel_rfl) fun _ _ _ _ _ _ _ _=>rfl
theorem qh:a8 PW w (KX w.params) mg base cf 2 192 (Hd.fd dv "change_sign" "Bench.change_sign" dA 191) ["self","k"] (cn g7):=by
 have B:=Bt e
 have Q:=Qt e
 exact bh (N:=fo) (gZ e).fn pQ (fun cdv A outer s H E hr=>(aw (dR (aP (nF e) (qP e) (hr.mono (by decide)) (aa (aO (cU Q.aX.cl Q.bQ (aQ.nm 0)) (aQ.nm 1)) aj) (aQ.d 0) (aQ.g 0)) (cU Q.aX.cl Q.bQ (aQ.nm 0)) (aQ.nm 1))
  (aw (dR (aP (nF e) (qP e) (hr.mono (by decide)) (aa (aO (cU Q.aX.cl Q.dX (aQ.nm 0)) (aQ.nm 1)) aj) (aQ.d 0) (aQ.g 0)) (cU Q.aX.cl Q.dX (aQ.nm 0)) (aQ.nm 1))
  (aA (dR (aP (nF e) (qP e) (hr.mono (by decide)) (aa (aO (cU Q.aX.cl Q.b_ (aQ.nm 0)) (aQ.nm 1)) aj) (aQ.d 0) (aQ.g 0)) (cU Q.aX.cl Q.b_ (aQ.nm 0)) (aQ.nm 1)))))) pj
theorem fT:MethAt (KX w.params) az "live_rows" "Bench.live_rows" cR ["self","top","place"] 197 (Hd.fd cR "live_rows" "Bench.live_rows" dA 196):=Hd.Gb (by kernel_rfl) fun _ _ _ _ _ _ _ _ _=>rfl
theorem l8:a8 PW w (KX w.params) mg base cf 3 197 (Hd.fd cR "live_rows" "Bench.live_rows" dA 196) ["self","top","place"] (cn fU):=by
 have B:=Bt e
 have Q:=Qt e
 have hC:PySem.W.codeHdIn (KX w.params) 196 194=true:=by kernel_rfl
 exact IF (N:=fR) (Hd.fc (by kernel_rfl)) lb (fun A outer s H E hr=>(aw (mL lb.nd (cQ.l 3) (Nc:=["k","self","place"]) (bN.look (ai cR) ["self","top","place","live"] (by decide+kernel)) (EF (cQ.g 1) B.gR (aa (cQ.nm 1) (aa (c8 d6 (aa (cU Q.aX.cl Q.bQ (cQ.nm 0)) aj) B.d5 rfl de (cQ.d 0) (cQ.g 0)) aj))) (fun _ _ _ _=>(eF (show(["k","self","place"]:List Str).Nodup by decide+kernel) (by first|exact Or.inl rfl|exact Or.inr rfl) (by first|exact .inl rfl|exact .inr rfl))) (fun _ _ _ _=>(Jo (cE zw (bD _) (aO (aO (cU Q.aX.cl Q.bQ dO) dO) dO) ak))) (fun _ _ _ _=>dO) cS)
  (aA (aT (HD (c0:=196) (mm.look (Nc:=["k","self","place"]) (fr:=[none,some 0,some 2]) (p:="k") (bN.look (ai cR) ["self","top","place","live"] (by decide+kernel))) rfl hr rfl hC (fun _ _ _ _=>(c8 ur (aa (aO (aO (cU Q.aX.cl Q.bQ dO) dO) dO) aj) B.ui rfl rh (by decide+kernel) rfl)) (cQ.nm 3) (cQ.g 2) B.Fd))))) qH
theorem ke:MethAt (KX w.params) az "gather" "Bench.gather" ff ["self","top","place"] 204 (Hd.fd ff "gather" "Bench.gather" dA 203):=Hd.Gb (by kernel_rfl) fun _ _ _ _ _ _ _ _ _=>rfl
theorem vd:a8 PW w (KX w.params) mg base cf 4 204 (Hd.fd ff "gather" "Bench.gather" dA 203) ["self","top","place"] (cn kg):=by
 have B:=Bt e
 have Q:=Qt e
 exact bh (N:=iG) (ke e).fn fA (fun cdv A outer s H E hr=>(aw (aU fA.nd (ay.l 3) (lz (ay.nm 0) Q.aX.cl (fT e).me (l8 e) (hr.mono (by decide)) (fT e).bd (aa (ay.nm 1) (aa (ay.nm 2) aj))))
  (aw (zo (cE vf (bD _) (c8 d6 (aa (ay.nm 3) aj) B.d5 rfl de (ay.d 0) (ay.g 0)) ak) (aw (aU fA.nd (ay.l 4) (aO (ay.nm 3) (jY ak)))
  (aw (aU fA.nd (ay.l 5) (aO (ay.nm 3) (jY ak)))
  (aw (ku (lz (ay.nm 0) Q.aX.cl (iA e).me (rk e) (hr.mono (by decide)) (iA e).bd (aa (ay.nm 4) (aa (aP (lK e) (rq e) (hr.mono (by decide)) (aa (aO (aO (cU Q.aX.cl Q.bQ (ay.nm 0)) (ay.nm 4)) (ay.nm 2)) (aa (aO (aO (cU Q.aX.cl Q.bQ (ay.nm 0)) (ay.nm 5)) (ay.nm 2)) aj)) (ay.d 1) (ay.g 1)) (aa (ay.nm 5) aj)))))
  (aA (aU fA.nd (ay.l 3) (lz (ay.nm 0) Q.aX.cl (fT e).me (l8 e) (hr.mono (by decide)) (fT e).bd (aa (ay.nm 1) (aa (ay.nm 2) aj)))))))))
  (aw (dZ (cE (gy hr) (bD _) (c8 d6 (aa (ay.nm 3) aj) B.d5 rfl de (ay.d 0) (ay.g 0)) ak) (aA (aT tV)) dg)
  (aw (ku (lz (ay.nm 0) Q.aX.cl (jq e).me (tS e) (hr.mono (by decide)) (jq e).bd (aa (ay.nm 1) (aa (aO (ay.nm 3) ak) aj))))
  (aw (dZ (cE yj (bD _) (aO (aO (cU Q.aX.cl Q.bQ (ay.nm 0)) (ay.nm 1)) (ay.nm 2)) ak) (aA (ku (lz (ay.nm 0) Q.aX.cl (gZ e).me (qh e) (hr.mono (by decide)) (gZ e).bd (aa (ay.nm 1) aj)))) dg)
  (aA (aT tV)))))))) uy
theorem g5:MethAt (KX w.params) az "lower_above" "Bench.lower_above" dm ["self","top","place"] 211 (Hd.fd dm "lower_above" "Bench.lower_above" dA 210):=Hd.Gb (by kernel_rfl) fun _ _ _ _ _ _ _ _ _=>rfl
theorem qd:a8 PW w (KX w.params) mg base cf 3 211 (Hd.fd dm "lower_above" "Bench.lower_above" dA 210) ["self","top","place"] (cn g4):=by
 have B:=Bt e
 have Q:=Qt e
 exact bh (N:=fm) (g5 e).fn e6 (fun cdv A outer s H E hr=>(aA (ie (iw (bJ.g 0) B.gR (aa (bJ.nm 1) aj)) (eF e6.nd (by first|exact Or.inl rfl|exact Or.inr rfl) (by first|exact .inl rfl|exact .inr rfl)) (aA (ku (lz (bJ.nm 0) Q.aX.cl (iA e).me (rk e) (hr.mono (by decide)) (iA e).bd (aa (bJ.nm 3) (aa (aW (rL hr rfl e6.gen e6.co) (aO (aO (cU Q.aX.cl Q.bQ (bJ.nm 0)) (bJ.nm 3)) (bJ.nm 2)) (aO (aO (cU Q.aX.cl Q.bQ (bJ.nm 0)) (bJ.nm 1)) (bJ.nm 2))) (aa (bJ.nm 1) aj))))))))) pB
theorem mF:bg (KX w.params) mg "standing" "standing" iM ["rows"] 225 (Hd.fd iM "standing" "standing" dA 224):=Hd.oZ e.X e.G (by kernel_rfl) fun _ _ _ _ _ _ _=>rfl
theorem o_:a8 PW w (KX w.params) mg base cf 5 225 (Hd.fd iM "standing" "standing" dA 224) ["rows"] (cn j6):=by
 have B:=Bt e
 have Q:=Qt e
 exact bh (N:=mw) (mF e).fn gK (fun cdv A outer s H E hr=>(aw (aU gK.nd (aZ.l 1) (JJ ⟨Q.aX.Ow,(gn e).me.at_,(gn e).me.fn,Q.aX.kp⟩ (tm e) (hr.mono (by decide)) (aZ.g 0) Q.aX.mg (gn e).bd (aa (aZ.nm 0) aj) (aZ.d 0)))
  (aw (aU gK.nd (aZ.l 2) ak)
  (aw (ie (iw (aZ.g 2) B.gR (aa (c8 d6 (aa (aO (aZ.nm 0) ak) aj) B.d5 rfl de (aZ.d 1) (aZ.g 1)) aj)) (eF gK.nd (by first|exact Or.inl rfl|exact Or.inr rfl) (by first|exact .inl rfl|exact .inr rfl)) (aA (dZ (oO (lz (aZ.nm 1) Q.aX.cl (ke e).me (vd e) (hr.mono (by decide)) (ke e).bd (aa (aZ.nm 2) (aa (aZ.nm 3) aj)))) (aw (ku (lz (aZ.nm 1) Q.aX.cl (g5 e).me (qd e) (hr.mono (by decide)) (g5 e).bd (aa (aZ.nm 2) (aa (aZ.nm 3) aj))))
  (aA (Lb gK.nd (aZ.l 2) ak KR))) dg)))
  (aw (aU gK.nd (aZ.l 4) (aP (qc e) (w_ e) (hr.mono (by decide)) (aa (cU Q.aX.cl Q.b_ (aZ.nm 1)) (aa (c8 d6 (aa (aZ.nm 0) aj) B.d5 rfl de (aZ.d 1) (aZ.g 1)) aj)) (aZ.d 3) (aZ.g 3)))
  (aA (aT (iO (aa (aP (rf e) (wX e) (hr.mono (by decide)) (aa (jA (cU Q.aX.cl Q.bQ (aZ.nm 1)) jC (jG (aZ.nm 2))) aj) (aZ.d 4) (aZ.g 4)) (aa (aP (rf e) (wX e) (hr.mono (by decide)) (aa (cU Q.aX.cl Q.dX (aZ.nm 1)) aj) (aZ.d 4) (aZ.g 4)) (aa (aZ.nm 4) aj))))))))))) zU
theorem qw:bg (KX w.params) mg "weighed" "weighed" jI ["form","row"] 232 (Hd.fd jI "weighed" "weighed" dA 231):=Hd.iQ e.X e.G (by kernel_rfl) fun _ _ _ _ _ _ _ _=>rfl
theorem wd:a8 PW w (KX w.params) mg base cf 2 232 (Hd.fd jI "weighed" "weighed" dA 231) ["form","row"] (cn nO):=by
 have B:=Bt e
 have Q:=Qt e
 exact bh (N:=nJ) (qw e).fn gq (fun cdv A outer s H E hr=>(aw (aU gq.nd (bf.l 2) (Bh aj))
  (aw (aU gq.nd (bf.l 3) (fu rD (aa (bf.nm 1) aj) B.nB rfl kD (bf.d 0) (bf.g 0)))
  (aw (ie (fS (bf.nm 0)) (eF gq.nd (by first|exact Or.inl rfl|exact Or.inr rfl) (by first|exact .inl rfl|exact .inr rfl)) (aw (aU gq.nd (bf.l 5) (aP (jB e) (lJ e) (hr.mono (by decide)) (aa (bf.nm 4) aj) (bf.d 1) (bf.g 1)))
  (aw (aU gq.nd (bf.l 6) (aW yk (aO (bf.nm 3) (bf.nm 5)) (aO (bf.nm 4) (bf.nm 5))))
  (aw (ku (wA (bf.nm 2) (bf.nm 6)))
  (aA (aU gq.nd (bf.l 3) (aP (mO e) (oP e) (hr.mono (by decide)) (aa (bf.nm 3) (aa (jY (bf.nm 6)) (aa (bf.nm 4) aj))) (bf.d 2) (bf.g 2))))))))
  (aA (aT (iO (aa (fu dY (aa (bf.nm 2) aj) B.dJ rfl c6 (bf.d 3) (bf.g 3)) (aa (fu dY (aa (bf.nm 3) aj) B.dJ rfl c6 (bf.d 3) (bf.g 3)) aj))))))))) BA
theorem ve:bg (KX w.params) mg "falls" "falls" mW ["form","row"] 239 (Hd.fd mW "falls" "falls" dA 238):=Hd.iQ e.X e.G (by kernel_rfl) fun _ _ _ _ _ _ _ _=>rfl
theorem AQ:a8 PW w (KX w.params) mg base cf 3 239 (Hd.fd mW "falls" "falls" dA 238) ["form","row"] (cn se):=by
 have B:=Bt e
 have Q:=Qt e
 exact bh (N:=sh) (ve e).fn Fu (fun cdv A outer s H E hr=>(aA (aT (aO (aP (qw e) (wd e) (hr.mono (by decide)) (aa (sj.nm 0) (aa (sj.nm 1) aj)) (sj.d 0) (sj.g 0)) ak)))) FA
theorem k_:bg (KX w.params) mg "parts_dot" "parts_dot" gT ["parts","row"] 246 (Hd.fd gT "parts_dot" "parts_dot" fX 245):=Hd.iQ e.X e.G (by kernel_rfl) fun _ _ _ _ _ _ _ _=>rfl
theorem om:a8 PW w (KX w.params) mg base cf 4 246 (Hd.fd gT "parts_dot" "parts_dot" fX 245) ["parts","row"] (cn i5):=by
 have B:=Bt e
 have Q:=Qt e
 exact bh (N:=kQ) (k_ e).fn jW (fun cdv A outer s H E hr=>(aw (aU jW.nd (cj.l 2) (aP (mP e) (oU e) (hr.mono (by decide)) (aa ak aj) (cj.d 0) (cj.g 0)))
  (aw (ie (uC (cj.g 1) B.uf (aa (cj.nm 0) (aa (cj.nm 1) aj))) (pG rfl jW.nd (by first|exact Or.inl rfl|exact Or.inr rfl) (by first|exact .inl rfl|exact .inr rfl) (by first|exact Or.inl rfl|exact Or.inr rfl) (by first|exact .inl rfl|exact .inr rfl)) (aA (aU jW.nd (cj.l 2) (aP (DU e) (KG e) (hr.mono (by decide)) (aa (cj.nm 2) (aa (aP (AE e) (Hm e) (hr.mono (by decide)) (aa (cj.nm 3) (aa (aP (mP e) (oU e) (hr.mono (by decide)) (aa (cj.nm 4) aj) (cj.d 0) (cj.g 0)) aj)) (cj.d 2) (cj.g 2)) aj)) (cj.d 3) (cj.g 3)))))
  (aA (aT (cj.nm 2)))))) zp
theorem sE:bg (KX w.params) mg "bottom_at" "bottom_at" gO ["form","rest","place"] 253 (Hd.fd gO "bottom_at" "bottom_at" fX 252):=Hd.yl e.X e.G (by kernel_rfl) fun _ _ _ _ _ _ _ _ _=>rfl
theorem zZ:a8 PW w (KX w.params) mg base cf 2 253 (Hd.fd gO "bottom_at" "bottom_at" fX 252) ["form","rest","place"] (cn oq):=by
 have B:=Bt e
 have Q:=Qt e
 exact bh (N:=kK) (sE e).fn q_ (fun cdv A outer s H E hr=>(aw (ie (fS (dy.nm 0)) (eF q_.nd (by first|exact Or.inl rfl|exact Or.inr rfl) (by first|exact .inl rfl|exact .inr rfl)) (aA (dZ (cE (gy hr) (bD _) (aP (jB e) (lJ e) (hr.mono (by decide)) (aa (dy.nm 3) aj) (dy.d 0) (dy.g 0)) (dy.nm 2)) (aA (aT (aO (dy.nm 3) (dy.nm 2)))) dg)))
  (aA (aT (aW cY ak (c8 ur (aa (aO (dy.nm 1) (dy.nm 2)) aj) B.ui rfl rh (dy.d 1) (dy.g 1))))))) xU
theorem nN:bg (KX w.params) mg "parts_against" "parts_against" eH ["form","rest"] 260 (Hd.fd eH "parts_against" "parts_against" fX 259):=Hd.iQ e.X e.G (by kernel_rfl) fun _ _ _ _ _ _ _ _=>rfl
theorem ux:a8 PW w (KX w.params) mg base cf 5 260 (Hd.fd eH "parts_against" "parts_against" fX 259) ["form","rest"] (cn j4):=by
 have B:=Bt e
 have Q:=Qt e
 exact bh (N:=g8) (nN e).fn ef (fun cdv A outer s H E hr=>(aw (aU ef.nd (aq.l 2) (aP (jB e) (lJ e) (hr.mono (by decide)) (aa (aq.nm 1) aj) (aq.d 0) (aq.g 0)))
  (aw (aU ef.nd (aq.l 3) (aW Jy (nI (aa (aP (mP e) (oU e) (hr.mono (by decide)) (aa ak aj) (aq.d 1) (aq.g 1)) aj)) (c8 d6 (aa (aq.nm 1) aj) B.d5 rfl de (aq.d 2) (aq.g 2))))
  (aw (dR (aP (o5 e) (qk e) (hr.mono (by decide)) (aa ak (aa (aP (sE e) (zZ e) (hr.mono (by decide)) (aa (aq.nm 0) (aa (aq.nm 1) (aa (aq.nm 2) aj))) (aq.d 3) (aq.g 3)) aj)) (aq.d 4) (aq.g 4)) (aq.nm 3) (aq.nm 2))
  (aw (ie (ES (aq.g 5) B.gR (aa (aW nZ (c8 d6 (aa (aq.nm 0) aj) B.d5 rfl de (aq.d 2) (aq.g 2)) ak) (aa (jY ak) (aa (jY ak) aj)))) (eF ef.nd (by first|exact Or.inl rfl|exact Or.inr rfl) (by first|exact .inl rfl|exact .inr rfl)) (aw (aU ef.nd (aq.l 5) (aP (jB e) (lJ e) (hr.mono (by decide)) (aa (aO (aq.nm 0) (aq.nm 4)) aj) (aq.d 0) (aq.g 0)))
  (aA (dZ (cE yj (bD _) (aq.nm 5) (aq.nm 2)) (aw (aU ef.nd (aq.l 6) (aP (Aq e) (Io e) (hr.mono (by decide)) (aa (aP (mP e) (oU e) (hr.mono (by decide)) (aa ak aj) (aq.d 1) (aq.g 1)) (aa (aP (k_ e) (om e) (hr.mono (by decide)) (aa (aq.nm 3) (aa (aO (aq.nm 0) (aq.nm 4)) aj)) (aq.d 6) (aq.g 6)) aj)) (aq.d 7) (aq.g 7)))
  (aA (dR (aP (Cn e) (K6 e) (hr.mono (by decide)) (aa (aq.nm 6) (aa (aP (mP e) (oU e) (hr.mono (by decide)) (aa (aO (aO (aq.nm 0) (aq.nm 4)) (aq.nm 5)) aj) (aq.d 1) (aq.g 1)) aj)) (aq.d 8) (aq.g 8)) (aq.nm 3) (aq.nm 5)))) dg))))
  (aA (aT (fu dY (aa (aq.nm 3) aj) B.dJ rfl c6 (aq.d 9) (aq.g 9))))))))) tJ
theorem za:bg (KX w.params) mg "inside" "inside" ko ["rows","row"] 267 (Hd.fd ko "inside" "inside" fX 266):=Hd.iQ e.X e.G (by kernel_rfl) fun _ _ _ _ _ _ _ _=>rfl
theorem EM:a8 PW w (KX w.params) mg base cf 6 267 (Hd.fd ko "inside" "inside" fX 266) ["rows","row"] (cn tL):=by
 have B:=Bt e
 have Q:=Qt e
 exact bh (N:=pK) (za e).fn nW (fun cdv A outer s H E hr=>(aw (aU nW.nd (bH.l 2) (aP (mF e) (o_ e) (hr.mono (by decide)) (aa (bH.nm 0) aj) (bH.d 0) (bH.g 0)))
  (aw (aU nW.nd (bH.l 3) (aO (bH.nm 2) ak))
  (aw (aU nW.nd (bH.l 4) (aP (qw e) (wd e) (hr.mono (by decide)) (aa (bH.nm 3) (aa (bH.nm 1) aj)) (bH.d 1) (bH.g 1)))
  (aw (dZ (cE IH (bD _) (aP (jB e) (lJ e) (hr.mono (by decide)) (aa (aO (bH.nm 4) ak) aj) (bH.d 2) (bH.g 2)) Gn) (aA (aT (iO (aa uK (aa (aP (nN e) (ux e) (hr.mono (by decide)) (aa (bH.nm 3) (aa (aO (bH.nm 4) ak) aj)) (bH.d 3) (bH.g 3)) aj))))) dg)
  (aA (aT (iO (aa uK (aa (aP (t_ e) (xO e) (hr.mono (by decide)) (aa (aO (bH.nm 4) ak) (aa (jA (aO (bH.nm 2) ak) jC (jG (c8 d6 (aa (bH.nm 3) aj) B.d5 rfl de (bH.d 4) (bH.g 4)))) (aa (c8 d6 (aa (bH.nm 0) aj) B.d5 rfl de (bH.d 4) (bH.g 4)) aj))) (bH.d 5) (bH.g 5)) aj)))))))))) CB
theorem sQ:bg (KX w.params) mg "are_parts" "are_parts" fL ["thing","many"] 272 (Hd.fd fL "are_parts" "are_parts" fX 271):=Hd.iQ e.X e.G (by kernel_rfl) fun _ _ _ _ _ _ _ _=>rfl
theorem zT:a8 PW w (KX w.params) mg base cf 5 272 (Hd.fd fL "are_parts" "are_parts" fX 271) ["thing","many"] (cn oC):=by
 have B:=Bt e
 have Q:=Qt e
 exact bh (N:=kP) (sQ e).fn x_ (fun cdv A outer s H E hr=>(aA (aT (n_ (aP (iI e) (kc e) (hr.mono (by decide)) (aa (fK.nm 0) (aa (fK.nm 1) aj)) (fK.d 0) (fK.g 0)) (pM (c8 (BU rfl) (aa (gI (Nc:=["each"]) (bN.look (ai fL) ["thing","many"] (by decide+kernel)) (fS (fK.nm 0)) (fun _ _ _ _=>(eF (show(["each"]:List Str).Nodup by decide+kernel) (by first|exact Or.inl rfl|exact Or.inr rfl) (by first|exact .inl rfl|exact .inr rfl))) (fun _ _ _ _=>cW) (fun _ _ _ _=>(aP (wN e) (CT e) (hr.mono (by decide)) (aa dO aj) (by decide+kernel) rfl)) cS) aj) B.Bu rfl xY (fK.d 1) (fK.g 1))))))) yM
theorem pX:bg (KX w.params) mg "is_whole" "is_whole" iH ["one"] 279 (Hd.fd iH "is_whole" "is_whole" fX 278):=Hd.oZ e.X e.G (by kernel_rfl) fun _ _ _ _ _ _ _=>rfl
theorem uD:a8 PW w (KX w.params) mg base cf 1 279 (Hd.fd iH "is_whole" "is_whole" fX 278) ["one"] (cn mD):=by
 have B:=Bt e
 have Q:=Qt e
 exact bh (N:=mj) (pX e).fn Aa (fun cdv A outer s H E hr=>(aA (aT (kW (gy hr) (bD _) (aO (A7.nm 0) ak) ak)))) zK
theorem qQ:bg (KX w.params) mg "parts_show" "parts_show" fi ["rows","row","parts"] 284 (Hd.fd fi "parts_show" "parts_show" fX 283):=Hd.yl e.X e.G (by kernel_rfl) fun _ _ _ _ _ _ _ _ _=>rfl
theorem y9:a8 PW w (KX w.params) mg base cf 6 284 (Hd.fd fi "parts_show" "parts_show" fX 283) ["rows","row","parts"] (cn m5):=by
 have B:=Bt e
 have Q:=Qt e
 exact bh (N:=jX) (qQ e).fn w6 (fun cdv A outer s H E hr=>(aw (dZ (rS (xF (x5 (oO (aP (sQ e) (zT e) (hr.mono (by decide)) (aa (cm.nm 2) (aa (c8 d6 (aa (cm.nm 1) aj) B.d5 rfl de (cm.d 0) (cm.g 0)) aj)) (cm.d 1) (cm.g 1)))) (yn (oO (aP (pX e) (uD e) (hr.mono (by decide)) (aa (aP (k_ e) (om e) (hr.mono (by decide)) (aa (cm.nm 2) (aa (cm.nm 1) aj)) (cm.d 2) (cm.g 2)) aj) (cm.d 3) (cm.g 3)))))) (aA (aT tV)) dg)
  (aA (aT (c8 (BU rfl) (aa (gI (Nc:=["each","parts"]) (bN.look (ai fi) ["rows","row","parts"] (by decide+kernel)) (fS (cm.nm 0)) (fun _ _ _ _=>(eF (show(["each","parts"]:List Str).Nodup by decide+kernel) (by first|exact Or.inl rfl|exact Or.inr rfl) (by first|exact .inl rfl|exact .inr rfl))) (fun _ _ _ _=>cW) (fun _ _ _ _=>(aP (pX e) (uD e) (hr.mono (by decide)) (aa (aP (k_ e) (om e) (hr.mono (by decide)) (aa dO (aa dO aj)) (by decide+kernel) rfl) aj) (by decide+kernel) rfl)) cS) aj) B.Bu rfl xY (cm.d 4) (cm.g 4)))))) xh
theorem oQ:bg (KX w.params) mg "weights_show" "weights_show" fg ["rows","row","weights"] 291 (Hd.fd fg "weights_show" "weights_show" fX 290):=Hd.yl e.X e.G (by kernel_rfl) fun _ _ _ _ _ _ _ _ _=>rfl
theorem vI:a8 PW w (KX w.params) mg base cf 4 291 (Hd.fd fg "weights_show" "weights_show" fX 290) ["rows","row","weights"] (cn kb):=by
 have B:=Bt e
 have Q:=Qt e
 exact bh (N:=iL) (oQ e).fn uE (fun cdv A outer s H E hr=>(aA (aT (n_ (aP (l6 e) (p8 e) (hr.mono (by decide)) (aa (bE.nm 2) (aa (c8 d6 (aa (bE.nm 0) aj) B.d5 rfl de (bE.d 0) (bE.g 0)) aj)) (bE.d 1) (bE.g 1)) (pM (kW (gy hr) (bD _) (aP (t_ e) (xO e) (hr.mono (by decide)) (aa (bE.nm 2) (aa (bE.nm 0) (aa (c8 d6 (aa (bE.nm 1) aj) B.d5 rfl de (bE.d 0) (bE.g 0)) aj))) (bE.d 2) (bE.g 2)) (fu dY (aa (bE.nm 1) aj) B.dJ rfl c6 (bE.d 3) (bE.g 3)))))))) uB
theorem oR:bg (KX w.params) mg "shows_inside" "shows_inside" fe ["rows","row","told"] 298 (Hd.fd fe "shows_inside" "shows_inside" fX 297):=Hd.yl e.X e.G (by kernel_rfl) fun _ _ _ _ _ _ _ _ _=>rfl
theorem vN:a8 PW w (KX w.params) mg base cf 7 298 (Hd.fd fe "shows_inside" "shows_inside" fX 297) ["rows","row","told"] (cn kI):=by
 have B:=Bt e
 have Q:=Qt e
 exact bh (N:=iE) (oR e).fn uR (fun cdv A outer s H E hr=>(aw (dZ (x5 (oO (aP (iI e) (kc e) (hr.mono (by decide)) (aa (bL.nm 2) (aa ak aj)) (bL.d 0) (bL.g 0)))) (aA (aT tV)) dg)
  (aw (dZ (cE (gy hr) (bD _) (aO (bL.nm 2) ak) uK) (aA (aT (aP (oQ e) (vI e) (hr.mono (by decide)) (aa (bL.nm 0) (aa (bL.nm 1) (aa (aO (bL.nm 2) ak) aj))) (bL.d 1) (bL.g 1)))) dg)
  (aA (aT (n_ (kW (gy hr) (bD _) (aO (bL.nm 2) ak) uK) (pM (aP (qQ e) (y9 e) (hr.mono (by decide)) (aa (bL.nm 0) (aa (bL.nm 1) (aa (aO (bL.nm 2) ak) aj))) (bL.d 2) (bL.g 2))))))))) uN
theorem uM:bg (KX w.params) mg "_law_hand" "_law_hand" gB ["_law_script"] 303 (Hd.fd gB "_law_hand" "_law_hand" gG 302):=Hd.oZ e.X e.G (by kernel_rfl) fun _ _ _ _ _ _ _=>rfl
theorem Bj:a8 PW w (KX w.params) mg base cf 1 303 (Hd.fd gB "_law_hand" "_law_hand" gG 302) ["_law_script"] (cn pH):=by
 have B:=Bt e
 have Q:=Qt e
 exact bh (N:=md) (uM e).fn zX (fun cdv A outer s H E hr=>(aA (aT (Bh (aa (gI (Nc:=["_law_cell"]) (bN.look (ai gB) ["_law_script"] (by decide+kernel)) (fS (jA (Bw.nm 0) jC (jG ak))) (fun _ _ _ _=>(eF (show(["_law_cell"]:List Str).Nodup by decide+kernel) (by first|exact Or.inl rfl|exact Or.inr rfl) (by first|exact .inl rfl|exact .inr rfl))) (fun _ _ _ _=>cW) (fun _ _ _ _=>(c8 ur (aa dO aj) B.ui rfl rh (by decide+kernel) rfl)) cS) (aa ak (aa ak (aa ak aj)))))))) zL
theorem cu:bg (KX w.params) mg "_law_draw" "_law_draw" iC ["_law_hand_here","_law_many"] 310 (Hd.fd iC "_law_draw" "_law_draw" gG 309):=Hd.iQ e.X e.G (by kernel_rfl) fun _ _ _ _ _ _ _ _=>rfl
theorem cy:a8 PW w (KX w.params) mg base cf 1 310 (Hd.fd iC "_law_draw" "_law_draw" gG 309) ["_law_hand_here","_law_many"] (cn bY):=by
 have B:=Bt e
 have Q:=Qt e
 exact bh (N:=mh) (cu e).fn fH (fun cdv A outer s H E hr=>(aw (dR (aW dz (aO (aF.nm 0) ak) ak) (aF.nm 0) ak)
  (aw (dZ (cE (gy hr) (bD _) (aO (aF.nm 0) ak) ak) (aw (aU fH.nd (aF.l 2) ak)
  (aw (dZ (cE vf (bD _) (c8 d6 (aa (aO (aF.nm 0) ak) aj) B.d5 rfl de (aF.d 0) (aF.g 0)) ak) (aA (aU fH.nd (aF.l 2) (aO (aO (aF.nm 0) ak) (aW mB (aO (aF.nm 0) ak) (c8 d6 (aa (aO (aF.nm 0) ak) aj) B.d5 rfl de (aF.d 0) (aF.g 0)))))) dg)
  (aw (dR (aW dz (aO (aF.nm 0) ak) ak) (aF.nm 0) ak)
  (aw (dZ (rS (xF (cE yj (bD _) (aF.nm 2) (aW xB ak ak)) (yn (cE vf (bD _) (aO (aF.nm 0) ak) (c8 d6 (aa (aO (aF.nm 0) ak) aj) B.d5 rfl de (aF.d 0) (aF.g 0)))))) (aw (aU fH.nd (aF.l 3) (aW dz (aW dz (aW mB (aF.nm 2) ak) (aW cY ak (aO (aF.nm 0) ak))) ak))
  (aw (aU fH.nd (aF.l 3) (aW mB (aW cY (aF.nm 3) (aW dz ak (aW cY ak (aO (aF.nm 0) ak)))) ak))
  (aw (aU fH.nd (aF.l 4) (aW mB (aW dz (aW cY (aF.nm 3) (aW dz (aW mB (aF.nm 3) ak) (aO (aF.nm 0) ak))) (aW cY ak (aO (aF.nm 0) ak))) ak))
  (aA (aT (aW mB (aW yk (aF.nm 4) ak) (aF.nm 1))))))) dg)
  (aA (dR (aF.nm 2) (aF.nm 0) ak)))))) dg)
  (aw (aU fH.nd (aF.l 5) (aW mB (aO (aF.nm 0) ak) (aF.nm 1)))
  (aw (dR (aW yk (aO (aF.nm 0) ak) (aF.nm 1)) (aF.nm 0) ak)
  (aA (aT (aF.nm 5)))))))) zV
theorem qC:bg (KX w.params) mg "_law_number" "_law_number" gc ["_law_hand_here","_law_kind"] 317 (Hd.fd gc "_law_number" "_law_number" gG 316):=Hd.iQ e.X e.G (by kernel_rfl) fun _ _ _ _ _ _ _ _=>rfl
theorem yC:a8 PW w (KX w.params) mg base cf 2 317 (Hd.fd gc "_law_number" "_law_number" gG 316) ["_law_hand_here","_law_kind"] (cn jN):=by
 have B:=Bt e
 have Q:=Qt e
 exact bh (N:=jL) (qC e).fn p9 (fun cdv A outer s H E hr=>(aw (dZ (cE (gy hr) (bD _) (bI.nm 1) ak) (aw (aU p9.nd (bI.l 2) (aW dz (aW cY (aP (cu e) (cy e) (hr.mono (by decide)) (aa (bI.nm 0) (aa (aW xB ak ak) aj)) (bI.d 0) (bI.g 0)) (aW xB ak ak)) (aP (cu e) (cy e) (hr.mono (by decide)) (aa (bI.nm 0) (aa (aW xB ak ak) aj)) (bI.d 0) (bI.g 0))))
  (aA (aT (aW cY (bI.nm 2) (aO (nI (aa ak (aa (jY ak) (aa ak aj)))) (aP (cu e) (cy e) (hr.mono (by decide)) (aa (bI.nm 0) (aa ak aj)) (bI.d 0) (bI.g 0))))))) dg)
  (aA (aT (aO (nI (aa ak (aa ak (aa (jY ak) (aa (aW nZ (aP (cu e) (cy e) (hr.mono (by decide)) (aa (bI.nm 0) (aa ak aj)) (bI.d 0) (bI.g 0)) ak) aj))))) (aP (cu e) (cy e) (hr.mono (by decide)) (aa (bI.nm 0) (aa ak aj)) (bI.d 0) (bI.g 0))))))) xj
theorem uk:bg (KX w.params) mg "_law_rows" "_law_rows" e8 ["_law_hand_here","_law_many","_law_wide","_law_kind"] 322 (Hd.fd e8 "_law_rows" "_law_rows" gG 321):=Hd.Od e.X e.G (by kernel_rfl) fun _ _ _ _ _ _ _ _ _ _=>rfl
theorem AY:a8 PW w (KX w.params) mg base cf 3 322 (Hd.fd e8 "_law_rows" "_law_rows" gG 321) ["_law_hand_here","_law_many","_law_wide","_law_kind"] (cn pD):=by
 have B:=Bt e
 have Q:=Qt e
 exact bh (N:=ma) (uk e).fn et (fun cdv A outer s H E hr=>(aw (aU et.nd (aM.l 4) (Bh aj))
  (aw (ie (iw (aM.g 0) B.gR (aa (aM.nm 1) aj)) (eF et.nd (by first|exact Or.inl rfl|exact Or.inr rfl) (by first|exact .inl rfl|exact .inr rfl)) (aw (mL et.nd (aM.l 6) (Nc:=["_law_j","_law_hand_here","_law_kind"]) (bN.look (ai e8) ["_law_hand_here","_law_many","_law_wide","_law_kind","_law_rows_here","_law_k","_law_row","_law_way"] (by decide+kernel)) (iw (aM.g 0) B.gR (aa (aM.nm 2) aj)) (fun _ _ _ _=>(eF (show(["_law_j","_law_hand_here","_law_kind"]:List Str).Nodup by decide+kernel) (by first|exact Or.inl rfl|exact Or.inr rfl) (by first|exact .inl rfl|exact .inr rfl))) (fun _ _ _ _=>cW) (fun _ _ _ _=>(aP (qC e) (yC e) (hr.mono (by decide)) (aa dO (aa dO aj)) (by decide+kernel) rfl)) cS)
  (aw (aU et.nd (aM.l 7) (aP (cu e) (cy e) (hr.mono (by decide)) (aa (aM.nm 0) (aa ak aj)) (aM.d 1) (aM.g 1)))
  (aw (dZ (cE (gy hr) (bD _) (aM.nm 7) ak) (aA (aU et.nd (aM.l 6) (aW cY (nI (aa ak aj)) (aM.nm 2)))) dg)
  (aw (dZ (rS (zz (cE (gy hr) (bD _) (aM.nm 7) ak) (vG (cE vf (bD _) (aM.nm 5) ak)))) (aA (aU et.nd (aM.l 6) (fu rD (aa (aO (aM.nm 4) (aW nZ (aM.nm 5) ak)) aj) B.nB rfl kD (aM.d 2) (aM.g 2)))) dg)
  (aw (dZ (rS (zz (cE (gy hr) (bD _) (aM.nm 7) ak) (vG (cE vf (bD _) (aM.nm 5) ak)))) (aA (mL et.nd (aM.l 6) (Nc:=["_law_one","_law_other"]) (bN.look (ai e8) ["_law_hand_here","_law_many","_law_wide","_law_kind","_law_rows_here","_law_k","_law_row","_law_way"] (by decide+kernel)) (uC (aM.g 3) B.uf (aa (aO (aM.nm 4) (aW nZ (aM.nm 5) ak)) (aa (aO (aM.nm 4) (aW nZ (aM.nm 5) ak)) aj))) (fun _ _ _ _=>(pG rfl (show(["_law_one","_law_other"]:List Str).Nodup by decide+kernel) (by first|exact Or.inl rfl|exact Or.inr rfl) (by first|exact .inl rfl|exact .inr rfl) (by first|exact Or.inl rfl|exact Or.inr rfl) (by first|exact .inl rfl|exact .inr rfl))) (fun _ _ _ _=>cW) (fun _ _ _ _=>(aW dz dO dO)) vC)) dg)
  (aw (dZ (rS (zz (cE (gy hr) (bD _) (aM.nm 3) ak) (vG (cE yj (bD _) (aM.nm 7) ak)))) (aA (mL et.nd (aM.l 6) (Nc:=["_law_number_here"]) (bN.look (ai e8) ["_law_hand_here","_law_many","_law_wide","_law_kind","_law_rows_here","_law_k","_law_row","_law_way"] (by decide+kernel)) (fS (aM.nm 6)) (fun _ _ _ _=>(eF (show(["_law_number_here"]:List Str).Nodup by decide+kernel) (by first|exact Or.inl rfl|exact Or.inr rfl) (by first|exact .inl rfl|exact .inr rfl))) (fun _ _ _ _=>cW) (fun _ _ _ _=>(aW mB dO ak)) cS)) dg)
  (aA (ku (wA (aM.nm 4) (fu dY (aa (aM.nm 6) aj) B.dJ rfl c6 (aM.d 4) (aM.g 4))))))))))))
  (aA (aT (fu dY (aa (aM.nm 4) aj) B.dJ rfl c6 (aM.d 4) (aM.g 4))))))) Ab
theorem sU:bg (KX w.params) mg "_law_sizes" "_law_sizes" gL ["_law_hand_here"] 329 (Hd.fd gL "_law_sizes" "_law_sizes" gG 328):=Hd.oZ e.X e.G (by kernel_rfl) fun _ _ _ _ _ _ _=>rfl
theorem Ac:a8 PW w (KX w.params) mg base cf 2 329 (Hd.fd gL "_law_sizes" "_law_sizes" gG 328) ["_law_hand_here"] (cn oA):=by
 have B:=Bt e
 have Q:=Qt e
 exact bh (N:=kO) (sU e).fn y8 (fun cdv A outer s H E hr=>(aw (dZ (cE (gy hr) (bD _) (aP (cu e) (cy e) (hr.mono (by decide)) (aa (cB.nm 0) (aa ak aj)) (cB.d 0) (cB.g 0)) ak) (aA (aT (iO (aa (aW dz ak (aP (cu e) (cy e) (hr.mono (by decide)) (aa (cB.nm 0) (aa ak aj)) (cB.d 0) (cB.g 0))) (aa (aW dz ak (aP (cu e) (cy e) (hr.mono (by decide)) (aa (cB.nm 0) (aa ak aj)) (cB.d 0) (cB.g 0))) aj))))) dg)
  (aA (aT (iO (aa (aW dz ak (aP (cu e) (cy e) (hr.mono (by decide)) (aa (cB.nm 0) (aa ak aj)) (cB.d 0) (cB.g 0))) (aa (aW dz ak (aP (cu e) (cy e) (hr.mono (by decide)) (aa (cB.nm 0) (aa ak aj)) (cB.d 0) (cB.g 0))) aj))))))) zc
theorem nD:bg (KX w.params) mg "_law_some_rows" "_law_some_rows" eJ ["_law_hand_here","_law_kinds"] 336 (Hd.fd eJ "_law_some_rows" "_law_some_rows" gG 335):=Hd.iQ e.X e.G (by kernel_rfl) fun _ _ _ _ _ _ _ _=>rfl
theorem va:a8 PW w (KX w.params) mg base cf 4 336 (Hd.fd eJ "_law_some_rows" "_law_some_rows" gG 335) ["_law_hand_here","_law_kinds"] (cn jT):=by
 have B:=Bt e
 have Q:=Qt e
 exact bh (N:=g_) (nD e).fn m4 (fun cdv A outer s H E hr=>(aw (Jp (aP (sU e) (Ac e) (hr.mono (by decide)) (aa (ck.nm 0) aj) (ck.d 0) (ck.g 0)) (pG rfl m4.nd (by first|exact Or.inl rfl|exact Or.inr rfl) (by first|exact .inl rfl|exact .inr rfl) (by first|exact Or.inl rfl|exact Or.inr rfl) (by first|exact .inl rfl|exact .inr rfl)))
  (aA (aT (aP (uk e) (AY e) (hr.mono (by decide)) (aa (ck.nm 0) (aa (ck.nm 2) (aa (ck.nm 3) (aa (aP (cu e) (cy e) (hr.mono (by decide)) (aa (ck.nm 0) (aa (ck.nm 1) aj)) (ck.d 1) (ck.g 1)) aj)))) (ck.d 2) (ck.g 2)))))) t9
theorem sG:bg (KX w.params) mg "_law_cases" "_law_cases" e9 ["_law_hand_here","_law_rows_here"] 341 (Hd.fd e9 "_law_cases" "_law_cases" gG 340):=Hd.iQ e.X e.G (by kernel_rfl) fun _ _ _ _ _ _ _ _=>rfl
theorem zY:a8 PW w (KX w.params) mg base cf 2 341 (Hd.fd e9 "_law_cases" "_law_cases" gG 340) ["_law_hand_here","_law_rows_here"] (cn oz):=by
 have B:=Bt e
 have Q:=Qt e
 exact bh (N:=kJ) (sG e).fn dQ (fun cdv A outer s H E hr=>(aw (aU dQ.nd (aD.l 2) (c8 d6 (aa (aO (aD.nm 1) ak) aj) B.d5 rfl de (aD.d 0) (aD.g 0)))
  (aw (aU dQ.nd (aD.l 3) (aW cY (nI (aa ak aj)) (aD.nm 2)))
  (aw (ie (fS (aD.nm 1)) (eF dQ.nd (by first|exact Or.inl rfl|exact Or.inr rfl) (by first|exact .inl rfl|exact .inr rfl)) (aw (aU dQ.nd (aD.l 5) (aW nZ (aP (cu e) (cy e) (hr.mono (by decide)) (aa (aD.nm 0) (aa ak aj)) (aD.d 1) (aD.g 1)) ak))
  (aA (mL dQ.nd (aD.l 3) (Nc:=["_law_one","_law_other","_law_often"]) (bN.look (ai e9) ["_law_hand_here","_law_rows_here","_law_wide","_law_total","_law_row","_law_often","_law_at","_law_bent","_law_drawn"] (by decide+kernel)) (uC (aD.g 2) B.uf (aa (aD.nm 3) (aa (aD.nm 4) aj))) (fun _ _ _ _=>(pG rfl (show(["_law_one","_law_other","_law_often"]:List Str).Nodup by decide+kernel) (by first|exact Or.inl rfl|exact Or.inr rfl) (by first|exact .inl rfl|exact .inr rfl) (by first|exact Or.inl rfl|exact Or.inr rfl) (by first|exact .inl rfl|exact .inr rfl))) (fun _ _ _ _=>cW) (fun _ _ _ _=>(aW dz dO (aW cY dO dO))) vC))))
  (aw (aU dQ.nd (aD.l 6) (aP (cu e) (cy e) (hr.mono (by decide)) (aa (aD.nm 0) (aa (aD.nm 2) aj)) (aD.d 1) (aD.g 1)))
  (aw (aU dQ.nd (aD.l 7) (aW dz (aW dz (jA (aD.nm 3) jC (jG (aD.nm 6))) (nI (aa (aW dz (aW dz (aO (aD.nm 3) (aD.nm 6)) ak) (aP (cu e) (cy e) (hr.mono (by decide)) (aa (aD.nm 0) (aa ak aj)) (aD.d 1) (aD.g 1))) aj))) (jA (aD.nm 3) (jG (aW dz (aD.nm 6) ak)) jC)))
  (aw (mL dQ.nd (aD.l 8) (Nc:=["_law_j","_law_hand_here"]) (bN.look (ai e9) ["_law_hand_here","_law_rows_here","_law_wide","_law_total","_law_row","_law_often","_law_at","_law_bent","_law_drawn"] (by decide+kernel)) (iw (aD.g 3) B.gR (aa (aD.nm 2) aj)) (fun _ _ _ _=>(eF (show(["_law_j","_law_hand_here"]:List Str).Nodup by decide+kernel) (by first|exact Or.inl rfl|exact Or.inr rfl) (by first|exact .inl rfl|exact .inr rfl))) (fun _ _ _ _=>cW) (fun _ _ _ _=>(aW nZ (aP (cu e) (cy e) (hr.mono (by decide)) (aa dO (aa ak aj)) (by decide+kernel) rfl) ak)) cS)
  (aA (aT (nI (aa (fu dY (aa (aD.nm 3) aj) B.dJ rfl c6 (aD.d 4) (aD.g 4)) (aa (fu dY (aa (aD.nm 7) aj) B.dJ rfl c6 (aD.d 4) (aD.g 4)) (aa (fu dY (aa (aD.nm 8) aj) B.dJ rfl c6 (aD.d 4) (aD.g 4)) (aa (aW cY (iO (aa ak aj)) (aD.nm 2)) aj)))))))))))))) yN
theorem Mq:bg (KX w.params) mg "law" "law" mf ["_law_script"] 346 (Hd.fd mf "law" "law" gG 345):=Hd.oZ e.X e.G (by kernel_rfl) fun _ _ _ _ _ _ _=>rfl
theorem Lv:a8 PW w (KX w.params) mg base cf 8 346 (Hd.fd mf "law" "law" gG 345) ["_law_script"] (cn Ge):=by
 have B:=Bt e
 have Q:=Qt e
 exact bh (N:=xt) (Mq e).fn iV (fun cdv A outer s H E hr=>(aw (aU iV.nd (a7.l 1) (aP (uM e) (Bj e) (hr.mono (by decide)) (aa (a7.nm 0) aj) (a7.d 0) (a7.g 0)))
  (aw (aU iV.nd (a7.l 2) (jA (aP (nD e) (va e) (hr.mono (by decide)) (aa (a7.nm 1) (aa ak aj)) (a7.d 1) (a7.g 1)) jC (jG ak)))
  (aw (aU iV.nd (a7.l 3) (aO (aP (mF e) (o_ e) (hr.mono (by decide)) (aa (a7.nm 2) aj) (a7.d 2) (a7.g 2)) ak))
  (aw (ie (fS (aP (sG e) (zY e) (hr.mono (by decide)) (aa (a7.nm 1) (aa (a7.nm 2) aj)) (a7.d 3) (a7.g 3))) (eF iV.nd (by first|exact Or.inl rfl|exact Or.inr rfl) (by first|exact .inl rfl|exact .inr rfl)) (aw (aU iV.nd (a7.l 5) (aP (za e) (EM e) (hr.mono (by decide)) (aa (a7.nm 2) (aa (a7.nm 4) aj)) (a7.d 4) (a7.g 4)))
  (aw (aU iV.nd (a7.l 6) (aP (cu e) (cy e) (hr.mono (by decide)) (aa (a7.nm 1) (aa (aW dz (c8 d6 (aa (a7.nm 2) aj) B.d5 rfl de (a7.d 5) (a7.g 5)) ak) aj)) (a7.d 6) (a7.g 6)))
  (aw (aU iV.nd (a7.l 7) (aW dz (aW dz (jA (a7.nm 2) jC (jG (a7.nm 6))) (iO (aa (a7.nm 4) aj))) (jA (a7.nm 2) (jG (a7.nm 6)) jC)))
  (aw (aU iV.nd (a7.l 8) (aO (aP (mF e) (o_ e) (hr.mono (by decide)) (aa (a7.nm 7) aj) (a7.d 2) (a7.g 2)) ak))
  (aw (aU iV.nd (a7.l 9) (kW (gy hr) (bD _) (aP (ve e) (AQ e) (hr.mono (by decide)) (aa (a7.nm 3) (aa (a7.nm 4) aj)) (a7.d 7) (a7.g 7)) (aW cY (iO (aa ak aj)) (c8 d6 (aa (a7.nm 4) aj) B.d5 rfl de (a7.d 5) (a7.g 5)))))
  (aw (dZ (rS (xF (cE zw (bD _) (kW (gy hr) (bD _) (aO (a7.nm 5) ak) uK) (a7.nm 9)) (xF (cE zw (bD _) (kW (gy hr) (bD _) (a7.nm 8) (a7.nm 3)) (a7.nm 9)) (yn (x5 (oO (aP (oR e) (vN e) (hr.mono (by decide)) (aa (a7.nm 2) (aa (a7.nm 4) (aa (a7.nm 5) aj))) (a7.d 8) (a7.g 8)))))))) (aA (aT tV)) dg)
  (aA (dZ (oO (c8 (Lo rfl) (aa (gI (Nc:=["_law_step","_law_other","_law_row"]) (bN.look (ai mf) ["_law_script","_law_hand_here","_law_rows_here","_law_form","_law_row","_law_told","_law_at","_law_more","_law_other","_law_within"] (by decide+kernel)) (fS (a7.nm 7)) (fun _ _ _ _=>(eF (show(["_law_step","_law_other","_law_row"]:List Str).Nodup by decide+kernel) (by first|exact Or.inl rfl|exact Or.inr rfl) (by first|exact .inl rfl|exact .inr rfl))) (fun _ _ _ _=>cW) (fun _ _ _ _=>(kW (Mr hr) (bD _) (aP (ve e) (AQ e) (hr.mono (by decide)) (aa dO (aa dO aj)) (by decide+kernel) rfl) (aW cY (iO (aa ak aj)) (c8 d6 (aa dO aj) B.d5 rfl de (by decide+kernel) rfl)))) cS) aj) B.MF rfl Ki (a7.d 9) (a7.g 9))) (aA (aT tV)) dg)))))))))
  (aA (aT tV))))))) Kg
end
noncomputable def dL:DefRec:=match mf with
 | .FunctionDef n a b _ _ _ sc _ _ pos=>⟨n,a,b,sc,pos⟩
 |_=>⟨"",L2.js (.Pass ⟨0,0,0,0⟩),[],L2.ai (.Pass ⟨0,0,0,0⟩),⟨0,0,0,0⟩⟩
theorem El:PySem.Challenge.rw_latticeworks_k18_whole_inside_by_the_for.wellSaid=true:=by decide+kernel
end Row
open PySem PySem.W PyProof.Rows
set_option maxRecDepth 100000 in
set_option maxHeartbeats 0 in
theorem PySem.Challenge.cw_latticeworks_k18_whole_inside_by_the_for_holds : PySem.Challenge.rw_latticeworks_k18_whole_inside_by_the_for.Holds := by
 refine PySem.W.holds_law Row.El fun El=>?_
 refine PySem.W.holds_open (r:=PySem.Challenge.rw_latticeworks_k18_whole_inside_by_the_for.row) (q:=PySem.W.view Row.PW [1,2,3,4,6,7,8,9,10,11,12,13,15,16,17,18,19,20,21,23,24,25,26,27,28,29,30,32,33,34,35,36,37,38,39,40,42,43,44,45,46,47,48,49]) (loose:=[]) (Xt:=fun _=>true) (XP:=fun _ _=>True) (YP:=(PySem.W.kmHook Row.KX Row.KA (fun _=>rfl) [194]).says) (d:=Row.dL) (kwd:=[]) Row.left ((PySem.W.kmHook Row.KX Row.KA (fun _=>rfl) [194]).of) ((PySem.W.kmHook Row.KX Row.KA (fun _=>rfl) [194]).keeps) (fun _ _=>trivial) (fun _ _ _ _ _=>trivial) (by kernel_rfl) (by kernel_rfl) (by kernel_rfl) (fun s _=>PySem.W.recFacts_of (R:=[]) rfl) (by kernel_rfl) El (by decide+kernel) ⟨rfl,rfl,rfl,rfl,rfl,by decide+kernel⟩ ?hw ?hc
 case hw=>w_witness2
 refine L2.Me (n:=63) (k:=8) (x:="_law_script") (ts:=[(196,194)]) (K:=Row.KX) (sp:=fun w=>L3.D_ (Row.KX w.params) [(196,194)]) rfl (by decide) (by kernel_rfl) ⟨rfl,by decide,by decide⟩ (by kernel_rfl) rfl (fun w h Y=>⟨PySem.W.km_in_of Y,⟨(fun q hq=>by rcases List.mem_cons.mp hq with rfl|hq;kernel_rfl;cases hq),(fun q hq=>by rcases List.mem_cons.mp hq with rfl|hq;kernel_rfl;cases hq),fun q hq=>PySem.W.km_tabs_of Y _ (List.mem_map_of_mem (f:=Prod.snd) hq)⟩⟩) ?F fun _ _ a ns hl hE=>⟨a,ns,rfl,hE,hl,fun _=>rfl⟩
 intro w mg fa h X G hmg
 have e2:=hmg.symm.trans (PySem.W.mg_of (v:= .ref 346) X G (by kernel_rfl))
 cases e2
 exact⟨Hd.fd Row.mf "law" "law" Row.gG 345,fun s v=> .of_eq rfl,fun base _ _=>(Row.Lv ⟨X,G⟩).imp fun vs H Q E h=>L3.DC (tl:=[(194,⟨93,32,93,66⟩,"Bench.live_rows.<locals>.<lambda>")]) (by kernel_rfl) rfl (by decide) h⟩
