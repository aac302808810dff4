import PyProof.Rows.All
import Wide.All
import OpenK.AllK
import Wide.FinOn
import Lean
import PyProof.EqAt
import PyProof.EqKinds
import PyProof.TupleCall
import PyProof.NeKinds
import KE.KUnpack
import PySem.Challenge.RW_latticeworks_k27_sums_of_rests
set_option Elab.async false
set_option linter.all false
set_option maxRecDepth 100000
namespace L2
open PySem PySem.Spec PyProof.Rows
noncomputable abbrev Key:=Sum Int Str
noncomputable def Fm:Key→Value→Bool
 | .inl k,v=>Value.isInt k v
 | .inr x,v=>Value.isStrOf x v
noncomputable def M4(w:World):Key→Int
 | .inl k=>hashInt k
 | .inr x=>hashStr w x
theorem fi:∀ {k:Key} {v:Value},Fm k v=true→(∃i t,k=Sum.inl i∧v=Value.int i t)∨(∃x t,k=Sum.inr x∧v=Value.str x t)
 | .inl i,v,h=>by
   obtain⟨t,e⟩:=Value.isInt_shape (k:=i) (v:=v) h
   exact .inl ⟨i,t,rfl,e⟩
 | .inr x,v,h=>by
   obtain⟨t,e⟩:=Value.isStrOf_shape (x:=x) (v:=v) h
   exact .inr ⟨x,t,rfl,e⟩
theorem J_(a b:Int):decide ((Sum.inl a:Key)=Sum.inl b)=(a==b):=by
 by_cases e:a=b
 · subst e;simp
 · have h:¬(Sum.inl a:Key)=Sum.inl b:=fun q=>e (Sum.inl.inj q)
   rw[decide_eq_false h]
   exact(beq_eq_false_iff_ne.mpr e).symm
theorem JY(a b:Str):decide ((Sum.inr a:Key)=Sum.inr b)=decide (a=b):=by
 by_cases e:a=b
 · subst e;simp
 · have h:¬(Sum.inr a:Key)=Sum.inr b:=fun q=>e (Sum.inr.inj q)
   rw[decide_eq_false h,decide_eq_false e]
theorem KH(a:Int)(b:Str):decide ((Sum.inl a:Key)=Sum.inr b)=false:=decide_eq_false (fun q=>nomatch q)
theorem Il(a:Str)(b:Int):decide ((Sum.inr a:Key)=Sum.inl b)=false:=decide_eq_false (fun q=>nomatch q)
noncomputable def zM(prog:Program)(w:World):PySem.KeyKind prog w Key where
 is:=Fm
 hash:=M4 w
 inj:=fun v a b ha hb=>by
  rcases fi ha with⟨i,t,rfl,rfl⟩|⟨x,t,rfl,rfl⟩
  · rcases fi hb with⟨j,u,rfl,e⟩|⟨y,u,rfl,e⟩
    · injection e with e1 _;rw[e1]
    · exact nomatch e
  · rcases fi hb with⟨j,u,rfl,e⟩|⟨y,u,rfl,e⟩
    · exact nomatch e
    · injection e with e1 _;rw[e1]
 byValue:=fun k v h=>by
  rcases fi h with⟨i,t,rfl,rfl⟩|⟨x,t,rfl,rfl⟩<;>rfl
 pyHash:=fun hv h=>by
  rcases fi hv with⟨i,t,rfl,rfl⟩|⟨x,t,rfl,rfl⟩
  · exact wpAny_pyHash_int h
  · exact wpAny_pyHash_str h
 eqBool:=fun hu hv h=>by
  rcases fi hu with⟨i,t,rfl,rfl⟩|⟨x,t,rfl,rfl⟩
  · rcases fi hv with⟨j,u,rfl,rfl⟩|⟨y,u,rfl,rfl⟩
    · rw[J_]at h;exact wpAny_eqBool_int h
    · rw[KH]at h;exact SeqAt.EqAt.int_str i t y u _ _ _ _ h
  · rcases fi hv with⟨j,u,rfl,rfl⟩|⟨y,u,rfl,rfl⟩
    · rw[Il]at h;exact SeqAt.EqAt.str_int x t j u _ _ _ _ h
    · rw[JY]at h;exact wpAny_eqBool_str h
 «strs» :=fun k x t v h=>by
  rcases fi h with⟨i,u,rfl,e⟩|⟨y,u,rfl,e⟩
  · exact nomatch e
  · injection e with e1 _
    subst e1
    cases v<;>rfl
end L2
namespace L2
open PySem PySem.Spec PyProof.Rows
inductive V where
 |aH|bl (b:Bool)|int (i:Int)|str (x:Str)|sf (b:Array UInt8)|rV (b:UInt64)|ref (a:Addr)|ty (n:String)
 deriving DecidableEq
noncomputable def RelV:V→Value→Prop
 | .aH,u=>u=Value.none
 | .bl b,u=>u=Value.bool b
 | .int i,u=>∃t,u=Value.int i t
 | .str x,u=>∃t,u=Value.str x t
 | .sf b,u=>∃t,u=Value.bytes b t
 | .rV b,u=>∃t,u=Value.float b t
 | .ref a,u=>u=Value.ref a
 | .ty n,u=>u=Value.type n
noncomputable abbrev Vals:List V→List Value→Prop:=Paired RelV
theorem Vals.length{xs:List V}{us:List Value}(r:Vals xs us):xs.length=us.length:=Paired.length r
theorem Vals.get:∀ {xs:List V} {us:List Value} {i:Nat} {x:V},Vals xs us→xs[i]?=some x→∃u,us[i]?=some u∧RelV x u
 |_,_,_,_,.nil,e=>by simp at e
 |_,_,0,_,.cons r _,e=>by simp at e;subst e;exact⟨_,rfl,r⟩
 |_,_,i+1,x,.cons _ t,e=>by
  obtain⟨u,h1,h2⟩:=Vals.get (i:=i) (x:=x) t (by simpa using e)
  exact⟨u,by simpa using h1,h2⟩
theorem Vals.set{x:V}{u:Value}(r:RelV x u):∀ {xs:List V} {us:List Value} (i:Nat),Vals xs us→Vals (xs.set i x) (us.set i u)
 |_,_,_,.nil=> .nil
 |_,_,0,.cons _ t=> .cons r t
 |_,_,i+1,.cons q t=> .cons q (Vals.set r i t)
theorem Vals.append:∀ {xs ys:List V} {us ws:List Value},Vals xs us→Vals ys ws→Vals (xs++ys) (us++ws)
 |_,_,_,_,.nil,s=>s
 |_,_,_,_,.cons r t,s=> .cons r (Vals.append t s)
theorem Vals.take:∀ {xs:List V} {us:List Value} (n:Nat),Vals xs us→Vals (xs.take n) (us.take n)
 |_,_,0,_=> .nil
 |_,_,_+1,.nil=> .nil
 |_,_,n+1,.cons r t=> .cons r (Vals.take n t)
theorem Vals.drop:∀ {xs:List V} {us:List Value} (n:Nat),Vals xs us→Vals (xs.drop n) (us.drop n)
 |_,_,0,r=>r
 |_,_,_+1,.nil=> .nil
 |_,_,n+1,.cons _ t=>Vals.drop n t
noncomputable def oB:Option V→Option Value→Prop
 |some v,some u=>RelV v u
 |none,none=>True
 |_,_=>False
noncomputable def KV{κ:Type}:List (κ×V)→List (κ×Value)→Prop:=Paired fun(p:κ×V) (q:κ×Value)=>p.1=q.1∧RelV p.2 q.2
noncomputable def kV:Key→V
 | .inl i=> .int i
 | .inr x=> .str x
inductive HO where
 |lst (xs:List V)
 |tup (xs:List V)
 |dK (kvs:List (Key×V))|dT (kvs:List (List Key×V))
 |set (S:Int→Bool) (n:Nat)
 |ins (C dx:Addr) (fs:List (Str×V))
 |own (x:Addr)
 |xd (fs:List (Str×V))
 |met (f x:Addr)
 |J4 (lo hi:Int)
 |g9 (o:Obj) (u:HO)
 |kb (ps:Array Value)
 |ext (φ:Heap→Prop)
noncomputable abbrev Hp:=Addr→Option HO
noncomputable def upd(H:Hp)(a:Addr)(o:HO):Hp:=fun b=>if b=a then some o else H b
theorem aY{H:Hp}{a:Addr}{o:HO}:upd H a o a=some o:=by unfold upd;rw[if_pos rfl]
theorem aP{H:Hp}{a b:Addr}{o:HO}(h:b≠a):upd H a o b=H b:=by unfold upd;rw[if_neg h]
theorem GS{H:Hp}{a:Addr}{o u:HO}:upd (upd H a o) a u=upd H a u:=by
 funext b;unfold upd;split<;>rfl
theorem dQ{H:Hp}{a b:Addr}{o:HO}(h:H a=some o)(h':H b=none):a≠b:=by
 intro e;subst e;rw[h]at h';cases h'
section
variable (P:Program)(w:World)
noncomputable def dO(H:Hp)(h:Heap)(a:Addr):HO→Prop
 | .lst xs=>xs.length≤sizeLine∧∃(its:List Value) (n:Nat),Vals xs its∧h.get? a=some {cls:= .type "list",data:= .seq its.toArray n}
 | .tup xs=>xs.length≤sizeLine∧∃its:List Value,Vals xs its∧IsTup h a its.toArray
 | .dK kvs=>kvs.length≤sizeLine∧(a==sysModules)=false∧∃vs,KV kvs vs∧h.DictOf (zM P w) a vs
 | .dT kvs=>kvs.length≤sizeLine∧(a==sysModules)=false∧∃xs:List (List Key×Addr×Value),
    Paired (fun(p:List Key×V) (q:List Key×Addr×Value)=>p.1=q.1∧H q.2.1=some (.tup (p.1.map kV))∧RelV p.2 q.2.2) kvs xs∧
    ∃o es ep,h.get? a=some o∧o.ExactDict∧o.data= .dict es ep∧es.toList=xs.map (entryOfKey (tupleKind (zM P w)))∧(xs.map (·.1)).Nodup
 | .set S n=>h.SetOf (intKind P w) a S n
 | .ins C dx fs=>H dx=some (.own a)∧fs.length≤1000∧dx≠a∧h.get? a=some (PySem.W.instObj C dx)∧
    ∃mA,h.Ns1 dx mA∧(∀f,oB (fs.lookup f) (mA f))∧PySem.Within mA (fs.map (·.1))
 | .own _=>∃o,h.get? a=some o
 | .xd fs=>∃mA,h.Ns1 a mA∧∀f,oB (fs.lookup f) (mA f)
 | .J4 lo hi=>∃t u v,h.get? a=some {cls:= .type "range",data:= .fields #[.int lo t,.int hi u,.int 1 v]}
 | .g9 o u=>h.get? a=some o∧dO H h a u
 | .kb ps=>h.get? a=some {cls:= .none,data:= .fields ps}
 | .met f x=>h.get? a=some (PySem.W.methodObj (.ref f) (.ref x))
 | .ext φ=>φ h∧(∃o,h.get? a=some o)∧∀h1 h2:Heap,φ h1→(∀o,h1.get? a=some o→h2.get? a=some o)→φ h2
noncomputable def iP(H:Hp)(h:Heap):Prop:=∀a o,H a=some o→dO P w H h a o
end
section
variable {P:Program}{w:World}{H H':Hp}{h h':Heap}{a:Addr}{o:HO}
theorem dO.lt(x:dO P w H h a o):a<h.objs.size:=by
 cases o with
 |lst xs=>obtain⟨_,_,_,_,e⟩:=x;exact Heap.lt_size e
 |tup xs=>obtain⟨_,_,_,p⟩:=x;exact p.lt
 |dK kvs=>obtain⟨_,_,_,_,o,_,_,e,_⟩:=x;exact Heap.lt_size e
 |dT kvs=>obtain⟨_,_,_,_,o,_,_,e,_⟩:=x;exact Heap.lt_size e
 |set S n=>obtain⟨o,_,_,_,e,_⟩:=x;exact Heap.lt_size e
 |ins C dx fs=>obtain⟨_,_,_,e,_⟩:=x;exact Heap.lt_size e
 |own y=>obtain⟨_,e⟩:=x;exact Heap.lt_size e
 |xd fs=>obtain⟨_,⟨_,_,_,e,_⟩,_⟩:=x;exact Heap.lt_size e
 |J4 lo hi=>obtain⟨_,_,_,e⟩:=x;exact Heap.lt_size e
 |g9 ob u=>obtain⟨e,_⟩:=x;exact Heap.lt_size e
 |kb ps=>exact Heap.lt_size (show h.get? a=some _ from x)
 |met f y=>exact Heap.lt_size (show h.get? a=some _ from x)
 |ext φ=>obtain⟨_,⟨_,e⟩,_⟩:=x;exact Heap.lt_size e
theorem Paired.Du{α β:Type}{F G:α→β→Prop}:∀ {l₁:List α} {l₂:List β},Paired F l₁ l₂→(∀a b,F a b→G a b)→Paired G l₁ l₂
 |_,_,.nil,_=> .nil
 |_,_,.cons r t,f=> .cons (f _ _ r) (Paired.Du t f)
theorem dO.ou(x:dO P w H h a o)(k:∀b u,(b=a∨H b=some (.own a))→h.get? b=some u→h'.get? b=some u)
 (ho:∀b,H b=some (.own a)→H' b=some (.own a)) (ht:∀b xs,H b=some (.tup xs)→H' b=some (.tup xs)):dO P w H' h' a o:=by
 induction o with
 |lst xs=>obtain⟨z,its,n,r,e⟩:=x;exact⟨z,its,n,r,k _ _ (.inl rfl) e⟩
 |tup xs=>obtain⟨z,its,r,ob,e,c⟩:=x;exact⟨z,its,r,ob,k _ _ (.inl rfl) e,c⟩
 |dK kvs=>obtain⟨z,y,vs,r,ob,es,ep,e,c⟩:=x;exact⟨z,y,vs,r,ob,es,ep,k _ _ (.inl rfl) e,c⟩
 |dT kvs=>
  obtain⟨z,y,xs,r,ob,es,ep,e,c⟩:=x
  exact⟨z,y,xs,Paired.Du r fun p q z=>⟨z.1,ht _ _ z.2.1,z.2.2⟩,ob,es,ep,k _ _ (.inl rfl) e,c⟩
 |set S n=>obtain⟨ob,es,ep,t,e,c⟩:=x;exact⟨ob,es,ep,t,k _ _ (.inl rfl) e,c⟩
 |ins C dx fs=>
  obtain⟨d,z,ne,e,mA,⟨od,es,ep,e2,c⟩,r⟩:=x
  exact⟨ho _ d,z,ne,k _ _ (.inl rfl) e,mA,⟨od,es,ep,k _ _ (.inr d) e2,c⟩,r⟩
 |own y=>obtain⟨ob,e⟩:=x;exact⟨ob,k _ _ (.inl rfl) e⟩
 |xd fs=>obtain⟨mA,⟨od,es,ep,e,c⟩,r⟩:=x;exact⟨mA,⟨od,es,ep,k _ _ (.inl rfl) e,c⟩,r⟩
 |J4 lo hi=>obtain⟨t,u,v,e⟩:=x;exact⟨t,u,v,k _ _ (.inl rfl) e⟩
 |g9 ob u ih=>obtain⟨e,q⟩:=x;exact⟨k _ _ (.inl rfl) e,ih q⟩
 |kb ps=>
  have e:h.get? a=some {cls:= .none,data:= .fields ps}:=x
  show h'.get? a=some {cls:= .none,data:= .fields ps}
  exact k a _ (.inl rfl) e
 |met f y=>
  have e:h.get? a=some (PySem.W.methodObj (.ref f) (.ref y)):=x
  show h'.get? a=some (PySem.W.methodObj (.ref f) (.ref y))
  exact k a _ (.inl rfl) e
 |ext φ=>obtain⟨p,⟨o,e⟩,st⟩:=x;exact⟨st _ _ p fun o q=>k _ _ (.inl rfl) q,⟨o,k _ _ (.inl rfl) e⟩,st⟩
theorem iP.lt(x:iP P w H h)(e:H a=some o):a<h.objs.size:=(x a o e).lt
theorem iP.fresh(x:iP P w H h)(e:h.objs.size≤a):H a=none:=by
 cases q:H a with
 |none=>rfl
 |some u=>exact absurd (Nat.lt_of_lt_of_le (x.lt q) e) (Nat.lt_irrefl _)
theorem iP.kept(x:iP P w H h)(k:∀b u,h.get? b=some u→h'.get? b=some u):iP P w H h':=fun a o e=>
 (x a o e).ou (fun b u _ q=>k b u q) (fun _ q=>q) fun _ _ q=>q
theorem iP.laid(x:iP P w H h)(k:∀b u,h.get? b=some u→h'.get? b=some u)(hp:h.objs.size≤a)(new:dO P w (upd H a o) h' a o):iP P w (upd H a o) h':=fun b u e=>by
 have hn:=x.fresh hp
 by_cases hb:b=a
 · subst hb;rw[aY]at e;cases e;exact new
 · rw[aP hb]at e
   exact(x b u e).ou (fun c v _ q=>k c v q) (fun c q=>by rw[aP (dQ q hn)];exact q) fun c xs q=>by rw[aP (dQ q hn)];exact q
end
noncomputable def Rd(H:Hp)(a:Addr)(u:HO):Prop:=H a=some u∨∃o,H a=some (.g9 o u)
theorem Rd.of{H:Hp}{a:Addr}{u:HO}(h:H a=some u):Rd H a u:= .inl h
theorem Rd.ok{P:Program}{w:World}{H:Hp}{h:Heap}{a:Addr}{u:HO}(r:Rd H a u)(x:iP P w H h):dO P w H h a u:=by
 rcases r with r|⟨o,r⟩
 · exact x a u r
 · obtain⟨_,q⟩:=x a _ r
   exact q
noncomputable def FH:Option HO→Prop
 |some (.lst _)=>True
 |some (.dK _)=>True
 |some (.dT _)=>True
 |some (.set _ _)=>True
 |some (.ins _ _ _)=>True
 |some (.ext _)=>True
 |_=>False
section
variable {P:Program}{w:World}{H:Hp}{h h':Heap}{x e:Addr}{o':HO}
theorem iP.write(ok:iP P w H h)(mu:FH (H x))(he:e=x∨H e=some (.own x))(k:∀b u,b≠e→h.get? b=some u→h'.get? b=some u)(heo:∃u,h'.get? e=some u)
 (new:dO P w (upd H x o') h' x o'):iP P w (upd H x o') h':=fun b u q=>by
 have nown:∀c y,H c=some (.own y)→c≠x:=fun c y r z=>by subst z;rw[r]at mu;exact mu
 have ntup:∀c xs,H c=some (.tup xs)→c≠x:=fun c xs r z=>by subst z;rw[r]at mu;exact mu
 by_cases hb:b=x
 · subst hb;rw[aY]at q;cases q;exact new
 · rw[aP hb]at q
   by_cases hbe:b=e
   · have q':H b=some (.own x):=by
      rcases he with z|z
      · exact absurd (hbe.trans z) hb
      · rw[hbe];exact z
     rw[q]at q';cases q'
     obtain⟨v,hv⟩:=heo
     exact⟨v,by rw[hbe];exact hv⟩
   · refine(ok b u q).ou (fun c v hc r=>k c v ?_ r) (fun c r=>by rw[aP (nown c b r)];exact r) fun c xs r=>by rw[aP (ntup c xs r)];exact r
     rcases hc with rfl|hc
     · exact hbe
     · rintro rfl
       rcases he with z|z
       · exact nown c b hc z
       · rw[hc]at z;cases z;exact hb rfl
end
structure Un(fs ex:List Addr)(H H':Hp)(h h':Heap):Prop where
 keep:∀b o,h.get? b=some o→H b=none→b∉fs→b∉ex→h'.get? b=some o
 slot:∀b o,h.get? b=some o→H b=none→b∈fs→b∉ex→∃sl,h'.get? b=some {o with slots:=sl}
 free:∀b o,h.get? b=some o→H b=none→b∉ex→H' b=none
 there:∀b o,h.get? b=some o→b∉ex→∃o',h'.get? b=some o'
 ox:∀b xs,H b=some (.tup xs)→H' b=some (.tup xs)
 nJ:∀b o u,H b=some (.g9 o u)→H' b=some (.g9 o u)
 nG:∀b ps,H b=some (.kb ps)→∃more,H' b=some (.kb (ps++more))
section
variable {fs fs' ex ex':List Addr}{H H1 H2:Hp}{h h1 h2 h':Heap}{a x e:Addr}{o:HO}
theorem Un.any(u:Un fs ex H H1 h h1){b:Addr}{ob:Obj}(q:h.get? b=some ob)(n:H b=none)(hx:b∉ex):∃sl,h1.get? b=some {ob with slots:=sl}:=by
 by_cases hb:b∈fs
 · exact u.slot b ob q n hb hx
 · exact⟨ob.slots,u.keep b ob q n hb hx⟩
theorem Un.kept(k:∀b u,h.get? b=some u→h'.get? b=some u):Un fs ex H H h h':=
 ⟨fun b ob q _ _ _=>k b ob q,fun b ob q _ _ _=>⟨ob.slots,k b ob q⟩,fun _ _ _ n _=>n,fun b ob q _=>⟨ob,k b ob q⟩,fun _ _ q=>q,fun _ _ _ q=>q,fun _ ps q=>⟨#[],by rw[q];simp⟩⟩
theorem Un.refl:Un fs ex H H h h:=Un.kept fun _ _ q=>q
theorem Un.laid(k:∀b u,h.get? b=some u→h'.get? b=some u)(hp:h.objs.size≤a)(hn:H a=none):Un fs ex H (upd H a o) h h' where
 keep:=fun b u q _ _ _=>k b u q
 slot:=fun b u q _ _ _=>⟨u.slots,k b u q⟩
 free:=fun b u q n _=>by rw[aP (Nat.ne_of_lt (Nat.lt_of_lt_of_le (Heap.lt_size q) hp))];exact n
 there:=fun b u q _=>⟨u,k b u q⟩
 ox:=fun b xs q=>by rw[aP (dQ q hn)];exact q
 nJ:=fun b u xs q=>by rw[aP (dQ q hn)];exact q
 nG:=fun b ps q=>⟨#[],by rw[aP (dQ q hn),q];simp⟩
theorem Un.write(mu:FH (H x))(he:e=x∨H e=some (.own x))(k:∀b u,b≠e→h.get? b=some u→h'.get? b=some u)(heo:∃u,h'.get? e=some u):Un fs ex H (upd H x o) h h':=by
 have hx:∀b,H b=none→b≠x:=fun b n z=>by subst z;rw[n]at mu;exact mu
 have hb:∀b,H b=none→b≠e:=fun b n z=>by
  subst z
  rcases he with r|r
  · exact hx b n r
  · rw[n]at r;cases r
 have hm:∀b u,H b=some u→¬FH (some u)→b≠x:=fun b u q nm z=>by subst z;rw[q]at mu;exact nm mu
 refine⟨fun b u q n _ _=>k b u (hb b n) q,fun b u q n _ _=>⟨u.slots,k b u (hb b n) q⟩,fun b u q n _=>by rw[aP (hx b n)];exact n,fun b u q _=>?_,
  fun b xs q=>by rw[aP (hm b _ q fun z=>z)];exact q,fun b u xs q=>by rw[aP (hm b _ q fun z=>z)];exact q,fun b ps q=>⟨#[],by rw[aP (hm b _ q fun z=>z),q];simp⟩⟩
 by_cases hbe:b=e
 · subst hbe;exact heo
 · exact⟨u,k b u hbe q⟩
end
noncomputable def Fj(h:Heap)(H:Hp):List Addr:=(List.range h.objs.size).filter fun a=>(H a).isSome
noncomputable def ow(h:Heap)(H:Hp):Heap:=PySem.W.hideAll h (Fj h H)
theorem BK(h:Heap)(H:Hp):(ow h H).objs.size=h.objs.size:=PySem.W.hideAll_size _ _
theorem o6{h:Heap}{H:Hp}{b:Addr}{o:Obj}(e:h.get? b=some o)(n:H b=none):(ow h H).get? b=some o:=
 PySem.W.hideAll_get _ e fun hm=>by
  have q:(H b).isSome=true:=(List.mem_filter.mp hm).2
  rw[n]at q;simp at q
theorem HU{h:Heap}{H:Hp}{b:Addr}{o:Obj}(e:(ow h H).get? b=some o):h.get? b=some o∧H b=none:=by
 have e':h.get? b=some o:=PySem.W.of_hideAll (Fj h H) e
 refine⟨e',?_⟩
 cases q:H b with
 |none=>rfl
 |some x=>
  have hm:b∈Fj h H:=List.mem_filter.mpr ⟨List.mem_range.mpr (Heap.lt_size e'),by simp[q]⟩
  have z:(ow h H).get? b=none:=PySem.W.hideAll_none (Fj h H) hm
  rw[z]at e;cases e
noncomputable def Gw(g h:Heap)(L:Addr):List (Addr×Obj):=(List.range h.objs.size).filterMap fun a=>if a=L∨(g.get? a).isSome=true then none else(h.get? a).map fun o=>(a,o)
noncomputable def rest(g h:Heap)(L d:Addr):List (Addr×Obj):=(Gw g h L).filter fun p=>decide (p.1≠d)
end L2
namespace L2
open PySem PySem.Spec PyProof.Rows
structure Mod(K:PySem.W.Frag)(mg:Str→Option Value)(base:Heap):Prop where
 Cg:K.In base
 glob:base.Ns mainGlobals mg
 blt:∃mb,base.Ns builtinsNs mb∧∀x:Str,x≠"__name__"→mb x=bootBuiltins x
 nolimit:base.NoLimit
 seer:base.NoSeer
 bmain:∃bm ob,mg "__builtins__"=some (.ref bm)∧bm≠builtinsNs∧base.get? bm=some ob∧ob.cls= .type "module"∧ob.dict=some builtinsNs∧ob.data= .plain
structure Cx where
 prog:Program
 w:World
 K:PySem.W.Frag
 mg:Str→Option Value
 base:Heap
 A:Around
 N:List Str
 s₀:Shared
 H₀:Hp
 env:Env
 outer:List Env
 stack:List Env
 ex:List Addr
 fn:Str→Bool
 calm:Bool
 pn:List (Addr×Obj)
 xe:Value→Shared→Prop
noncomputable def oN(l:List Env):List Addr:=l.filterMap (·.frame)
noncomputable abbrev Cx.fs(X:Cx):List Addr:=oN X.outer
noncomputable def wV(sc:Scope)(x:Str):Prop:=sc.names.lookup x=some .local∨sc.names.lookup x=some .cell∨sc.names.lookup x=some .free
noncomputable def Loc(sc:Scope)(x:Str):Prop:=sc.names.lookup x=some .local∨sc.names.lookup x=some .cell
noncomputable def Look(env:Env)(h:Heap)(m:Str→Option Value)(x:Str)(u:Value):Prop:=
 (env.kindOf x=some .local∧m x=some u)∨((env.kindOf x=some .cell∨env.kindOf x=some .free)∧∃c,env.cells.lookup x=some c∧h.IsCell c (some u))
structure Cx.Ok(X:Cx):Prop where
 mod:Mod X.K X.mg X.base
 kind:X.env.scope.kind= .function
 glob:X.env.globals=mainGlobals
 blt:X.env.builtins=builtinsNs
 above:X.s₀.heap.objs.size≤X.env.locals
 inj:∀x y c,X.env.cells.lookup x=some c→X.env.cells.lookup y=some c→x=y
 has:∀x,(X.env.kindOf x=some .cell∨X.env.kindOf x=some .free)→∃c,X.env.cells.lookup x=some c
 xQ:∀x c,X.fn x=true→X.env.cells.lookup x=some c→X.s₀.heap.objs.size≤c
 hd:X.calm=true→X.A.handled=none
 frames:X.A.frames=some X.stack
 zd:X.stack=X.outer∨(X.stack=X.env::X.outer∧X.env.frame=some X.env.locals)
 C6:∀b∈X.ex,b≠X.env.locals∧∀x c,X.env.cells.lookup x=some c→c≠b
 bs:∀b o,X.base.get? b=some o→X.s₀.heap.get? b=some o∧X.H₀ b=none
 qp:X.base.objs.size≤X.s₀.heap.objs.size
 su:∀b o,X.base.get? b=some o→b∉X.ex
 td:∀b∈X.ex,b∉X.fs
 kB:X.s₀.heap.FunFrames X.base X.outer
 tJ:∀b∈X.fs,X.H₀ b=none
 gt:X.prog.given.tree=none
structure Inv(X:Cx)(pins:List (Addr×Obj))(σ:List (Option V))(H:Hp)(s:Shared):Prop where
 ok:X.Ok
 os:s.os=X.s₀.os
 bare:AllBare s.gens
 base:Un X.fs X.ex X.H₀ H X.s₀.heap s.heap
 loc:∃m,s.heap.Ns X.env.locals m∧∀(i:Nat) (x:Str) (v:V),X.N[i]?=some x→σ[i]?=some (some v)→wV X.env.scope x→∃u,RelV v u∧Look X.env s.heap m x u
 cell:∀x c,X.env.cells.lookup x=some c→∃v,s.heap.IsCell c v
 free:H X.env.locals=none
 i6:∀x c,X.env.cells.lookup x=some c→H c=none
 pin:∀p∈X.pn++pins,s.heap.get? p.1=some p.2∧H p.1=none∧p.1≠X.env.locals∧p.1∉X.fs∧∀v,p.2.data≠ .cell v
 aM:iP X.prog X.w H s.heap
 len:σ.length=X.N.length
section
variable {X:Cx}{pins:List (Addr×Obj)}{σ:List (Option V)}{H H':Hp}{s:Shared}{h':Heap}
theorem Cx.Ok.Nz(ok:X.Ok){b:Addr}{o:Obj}(e:X.base.get? b=some o):b∉X.fs:=fun hb=>by
 have:=(ok.kB.mem hb).1
 rw[e]at this;cases this
theorem Inv.bs(I:Inv X pins σ H s):∀b o,X.base.get? b=some o→s.heap.get? b=some o∧H b=none:=fun b o e=>
 ⟨I.base.keep b o (I.ok.bs b o e).1 (I.ok.bs b o e).2 (I.ok.Nz e) (I.ok.su b o e),I.base.free b o (I.ok.bs b o e).1 (I.ok.bs b o e).2 (I.ok.su b o e)⟩
theorem Inv.bk(I:Inv X pins σ H s):∀b o,X.base.get? b=some o→s.heap.get? b=some o:=fun b o e=>(I.bs b o e).1
theorem Inv.mod(I:Inv X pins σ H s):Mod X.K X.mg X.base:=I.ok.mod
theorem Inv.iz(I:Inv X pins σ H s):X.K.In s.heap:=I.ok.mod.Cg.keeps I.bk
theorem Inv.nolimit(I:Inv X pins σ H s):s.heap.NoLimit:=I.ok.mod.nolimit.keeps I.bk
theorem Inv.lt(I:Inv X pins σ H s):X.env.locals<s.heap.objs.size:=let⟨_,hn,_⟩:=I.loc;hn.lt
theorem Inv.sz(I:Inv X pins σ H s):X.s₀.heap.objs.size≤s.heap.objs.size:=Nat.le_trans I.ok.above (Nat.le_of_lt I.lt)
theorem Inv.H0(I:Inv X pins σ H s){a:Addr}(h:s.heap.objs.size≤a):a∉X.fs:=fun hb=>by
 obtain⟨_,o,ho,_⟩:=I.ok.kB.mem hb
 exact absurd (Nat.lt_of_lt_of_le (Heap.lt_size ho) (Nat.le_trans I.sz h)) (Nat.lt_irrefl _)
theorem Inv.xU(I:Inv X pins σ H s):∀x c,X.env.cells.lookup x=some c→c≠X.env.locals:=fun x c e z=>by
 obtain⟨v,o,ho,hd⟩:=I.cell x c e
 obtain⟨m,⟨o',es,ep,ho',hd',_⟩,_⟩:=I.loc
 rw[z,ho']at ho;cases ho;rw[hd']at hd;cases hd
theorem Inv.kB(I:Inv X pins σ H s):s.heap.FunFrames X.base X.outer:=by
 have all:∀(l:List Env),(∀b∈oN l,b∈X.fs)→X.s₀.heap.FunFrames X.base l→s.heap.FunFrames X.base l:=by
  intro l
  induction l with
  |nil=>intro _ _;trivial
  |cons env r ih=>
   intro hs hl
   obtain⟨hk,⟨L,o,hf,hn,ho,hd⟩,hr⟩:=hl
   have hL:L∈X.fs:=hs L (by unfold oN;rw[List.filterMap_cons,hf];exact List.mem_cons_self)
   obtain⟨sl,e⟩:=I.base.slot L o ho (I.ok.tJ L hL) hL fun z=>I.ok.td L z hL
   exact⟨hk,⟨L,_,hf,hn,e,hd⟩,ih (fun b hb=>hs b (by unfold oN;rw[List.filterMap_cons,hf];exact List.mem_cons_of_mem _ hb)) hr⟩
 exact all X.outer (fun _ hb=>hb) I.ok.kB
theorem Inv.stack(I:Inv X pins σ H s):s.heap.FunFrames X.base X.stack:=by
 rcases I.ok.zd with e|⟨e,hf⟩
 · rw[e];exact I.kB
 · rw[e]
   obtain⟨m,hn,_⟩:=I.loc
   refine .cons (by rw[I.ok.kind];decide) hf hn ?_ I.kB
   exact Heap.get?_none_of_le (Nat.le_trans I.ok.qp I.ok.above)
theorem Inv.xo(I:Inv X pins σ H s):∀b∈oN X.stack,b∈X.env.locals::X.fs:=fun b hb=>by
 rcases I.ok.zd with e|⟨e,hf⟩
 · rw[e]at hb;exact List.mem_cons_of_mem _ hb
 · rw[e]at hb
   unfold oN at hb
   rw[List.filterMap_cons,hf]at hb
   exact hb
theorem Inv.uC(I:Inv X pins σ H s):∀b∈oN X.stack,H b=none:=fun b hb=>by
 rcases List.mem_cons.mp (I.xo b hb)with e|hb
 · rw[e];exact I.free
 · obtain⟨_,o,ho,_⟩:=I.ok.kB.mem hb
   exact I.base.free b o ho (I.ok.tJ b hb) fun z=>I.ok.td b z hb
theorem Inv.step{g':Array GenState}{t':Nat}{d':Drawn}{ch:List Addr}(I:Inv X pins σ H s)
 (hch:∀b∈ch,(b∈X.ex∨X.s₀.heap.objs.size≤b)∧b≠X.env.locals∧(∀x c,X.env.cells.lookup x=some c→c≠b)∧∀p∈X.pn++pins,p.1≠b)
 (keep:∀b o,b≠X.env.locals→b∉X.fs→b∉ch→s.heap.get? b=some o→H b=none→h'.get? b=some o)
 (slot:∀b o,b≠X.env.locals→b∈X.fs→b∉ch→s.heap.get? b=some o→H b=none→∃sl,h'.get? b=some {o with slots:=sl}) (free:∀b o,b∉ch→s.heap.get? b=some o→H b=none→H' b=none)
 (there:∀b o,b∉ch→s.heap.get? b=some o→∃o',h'.get? b=some o')
 (ox:∀b xs,H b=some (.tup xs)→H' b=some (.tup xs)) (nJ:∀b o u,H b=some (.g9 o u)→H' b=some (.g9 o u)) (nG:∀b ps,H b=some (.kb ps)→∃more,H' b=some (.kb (ps++more)))
 (ns:∀m,s.heap.Ns X.env.locals m→h'.Ns X.env.locals m) (aM:iP X.prog X.w H' h') (hg:AllBare g'):
 Inv X pins σ H' {s with heap:=h',gens:=g',drawn:=d',toks:=t'}:=by
 have neL:∀b o,X.s₀.heap.get? b=some o→b≠X.env.locals:=fun b o e=>Nat.ne_of_lt (Nat.lt_of_lt_of_le (Heap.lt_size e) I.ok.above)
 have neC:∀b o,X.s₀.heap.get? b=some o→b∉X.ex→b∉ch:=fun b o e hx hb=>by
  rcases(hch b hb).1 with z|z
  · exact hx z
  · exact absurd (Nat.lt_of_lt_of_le (Heap.lt_size e) z) (Nat.lt_irrefl _)
 have cellK:∀x c,X.env.cells.lookup x=some c→∀v,s.heap.IsCell c v→h'.IsCell c v:=fun x c e v ⟨o,ho,hd⟩=>by
  have nch:c∉ch:=fun z=>(hch c z).2.2.1 x c e rfl
  by_cases hc:c∈X.fs
  · obtain⟨sl,q⟩:=slot c o (I.xU x c e) hc nch ho (I.i6 x c e)
    exact⟨_,q,hd⟩
  · exact⟨o,keep c o (I.xU x c e) hc nch ho (I.i6 x c e),hd⟩
 refine⟨I.ok,I.os,hg,⟨fun b o e n hb hx=>?_,fun b o e n hb hx=>?_,fun b o e n hx=>?_,fun b o e hx=>?_,fun b xs e=>ox b xs (I.base.ox b xs e),fun b o xs e=>nJ b o xs (I.base.nJ b o xs e),fun b ps e=>?_⟩,?_,fun x c e=>?_,?_,fun x c e=>?_,fun p hp=>?_,aM,I.len⟩
 · exact keep b o (neL b o e) hb (neC b o e hx) (I.base.keep b o e n hb hx) (I.base.free b o e n hx)
 · obtain⟨sl,e1⟩:=I.base.slot b o e n hb hx
   obtain⟨sl',e2⟩:=slot b _ (neL b o e) hb (neC b o e hx) e1 (I.base.free b o e n hx)
   exact⟨sl',e2⟩
 · obtain⟨o',e1⟩:=I.base.there b o e hx
   exact free b o' (neC b o e hx) e1 (I.base.free b o e n hx)
 · obtain⟨o',e1⟩:=I.base.there b o e hx
   exact there b o' (neC b o e hx) e1
 · obtain⟨m1,e1⟩:=I.base.nG b ps e
   obtain⟨m2,e2⟩:=nG b _ e1
   exact⟨m1++m2,by rw[e2,Array.append_assoc]⟩
 · obtain⟨m,hn,hl⟩:=I.loc
   refine⟨m,ns m hn,fun i x v e1 e2 e3=>?_⟩
   obtain⟨u,r,l⟩:=hl i x v e1 e2 e3
   refine⟨u,r,?_⟩
   rcases l with l|⟨k,c,e,z⟩
   · exact .inl l
   · exact .inr ⟨k,c,e,cellK x c e _ z⟩
 · obtain⟨v,z⟩:=I.cell x c e
   exact⟨v,cellK x c e v z⟩
 · obtain⟨m,⟨o,_,_,ho,_⟩,_⟩:=I.loc
   exact free _ o (fun z=>(hch _ z).2.1 rfl) ho I.free
 · obtain⟨v,o,ho,hd⟩:=I.cell x c e
   exact free c o (fun z=>(hch c z).2.2.1 x c e rfl) ho (I.i6 x c e)
 · obtain⟨e,n,ne,nf,d⟩:=I.pin p hp
   have nch:p.1∉ch:=fun z=>(hch p.1 z).2.2.2 p hp rfl
   exact⟨keep p.1 p.2 ne nf nch e n,free p.1 p.2 nch e n,ne,nf,d⟩
theorem Inv.un{t':Nat}(I:Inv X pins σ H s)(u:Un X.fs [] H H' s.heap h')(aM:iP X.prog X.w H' h'):Inv X pins σ H' {s with heap:=h',toks:=t'}:=by
 obtain⟨m,⟨o,es,ep,ho,r⟩,_⟩:=id I.loc
 obtain⟨sl,hL⟩:=u.any ho I.free (by simp)
 exact I.step (g':=s.gens) (d':=s.drawn) (ch:=[]) (fun _ z=>nomatch z) (fun b o _ hb _ e n=>u.keep b o e n hb (by simp)) (fun b o _ hb _ e n=>u.slot b o e n hb (by simp)) (fun b o _ e n=>u.free b o e n (by simp)) (fun b o _ e=>u.there b o e (by simp)) u.ox u.nJ u.nG (fun m' hm=>by
  obtain⟨o',es',ep',ho',r'⟩:=hm
  rw[ho]at ho';cases ho'
  exact⟨_,es',ep',hL,r'⟩) aM I.bare
theorem Inv.call{g':Array GenState}{t':Nat}{d':Drawn}{ch:List Addr}(I:Inv X pins σ H s)(u:Un (oN X.stack) ch H H' s.heap h')(aM:iP X.prog X.w H' h')(hg:AllBare g')
 (hch:∀b∈ch,(b∈X.ex∨X.s₀.heap.objs.size≤b)∧b≠X.env.locals∧(∀x c,X.env.cells.lookup x=some c→c≠b)∧∀p∈X.pn++pins,p.1≠b):
 Inv X pins σ H' {s with heap:=h',gens:=g',drawn:=d',toks:=t'}:=by
 obtain⟨m,⟨o,es,ep,ho,r⟩,_⟩:=id I.loc
 obtain⟨sl,hL⟩:=u.any ho I.free fun z=>(hch _ z).2.1 rfl
 exact I.step (ch:=ch) hch (fun b o hL hb hc e n=>u.keep b o e n (fun z=>(List.mem_cons.mp (I.xo b z)).elim hL hb) hc) (fun b o _ _ hc e n=>u.any e n hc) (fun b o hc e n=>u.free b o e n hc) (fun b o hc e=>u.there b o e hc) u.ox u.nJ u.nG (fun m' hm=>by
  obtain⟨o',es',ep',ho',r'⟩:=hm
  rw[ho]at ho';cases ho'
  exact⟨_,es',ep',hL,r'⟩) aM hg
theorem Inv.turned{t':Nat}{it:Addr}(I:Inv X pins σ H s)(k:∀b o,b≠it→s.heap.get? b=some o→h'.get? b=some o)(hn:H it=none)(hL:it≠X.env.locals)
 (h1:it∈X.ex∨X.s₀.heap.objs.size≤it) (h2:∀x c,X.env.cells.lookup x=some c→c≠it) (h3:∀p∈X.pn++pins,p.1≠it):Inv X pins σ H {s with heap:=h',toks:=t'}:=by
 have nit:∀b u,H b=some u→b≠it:=fun b u e z=>by rw[z,hn]at e;cases e
 refine I.step (g':=s.gens) (d':=s.drawn) (ch:=[it]) (fun b hb=>?_) (fun b o _ _ hc e _=>k b o (fun z=>hc (by simp[z])) e) (fun b o _ _ hc e _=>⟨o.slots,k b o (fun z=>hc (by simp[z])) e⟩) (fun _ _ _ _ n=>n)
  (fun b o hc e=>⟨o,k b o (fun z=>hc (by simp[z])) e⟩) (fun _ _ e=>e) (fun _ _ _ e=>e) (fun b ps e=>⟨#[],by rw[e];simp⟩) (fun m hm=>?_) (fun b u e=>?_) I.bare
 · have e:b=it:=by simpa using hb
   subst e
   exact⟨h1,hL,h2,h3⟩
 · obtain⟨o,es,ep,ho,r⟩:=hm
   exact⟨o,es,ep,k _ o (Ne.symm hL) ho,r⟩
 · refine(I.aM b u e).ou (fun c v hc q=>k c v ?_ q) (fun _ q=>q) fun _ _ q=>q
   rcases hc with z|z
   · rw[z];exact nit b u e
   · exact nit c _ z
theorem Inv.tok(I:Inv X pins σ H s)(t:Nat):Inv X pins σ H {s with toks:=t}:=I.un (h':=s.heap) (t':=t) Un.refl I.aM
theorem Inv.kept{t':Nat}(I:Inv X pins σ H s)(k:∀b u,s.heap.get? b=some u→h'.get? b=some u):Inv X pins σ H {s with heap:=h',toks:=t'}:=I.un (Un.kept k) (I.aM.kept k)
theorem Inv.laid{a:Addr}{o:HO}{t':Nat}(I:Inv X pins σ H s)(k:∀b u,s.heap.get? b=some u→h'.get? b=some u)(hp:s.heap.objs.size≤a)(new:dO X.prog X.w (upd H a o) h' a o):
 Inv X pins σ (upd H a o) {s with heap:=h',toks:=t'}:=I.un (Un.laid k hp (I.aM.fresh hp)) (I.aM.laid k hp new)
theorem Inv.write{x e:Addr}{o:HO}{t':Nat}(I:Inv X pins σ H s)(mu:FH (H x))(he:e=x∨H e=some (.own x))(k:∀b u,b≠e→s.heap.get? b=some u→h'.get? b=some u)(heo:∃u,h'.get? e=some u)
 (new:dO X.prog X.w (upd H x o) h' x o):Inv X pins σ (upd H x o) {s with heap:=h',toks:=t'}:=I.un (Un.write mu he k heo) (I.aM.write mu he k heo new)
theorem Inv.rD{pins':List (Addr×Obj)}(I:Inv X pins σ H s)(h:∀p∈pins',s.heap.get? p.1=some p.2∧H p.1=none∧p.1≠X.env.locals∧p.1∉X.fs∧∀v,p.2.data≠ .cell v):Inv X pins' σ H s:=
 ⟨I.ok,I.os,I.bare,I.base,I.loc,I.cell,I.free,I.i6,fun p hp=>(List.mem_append.mp hp).elim (fun z=>I.pin p (List.mem_append_left _ z)) (h p),I.aM,I.len⟩
theorem ym{N:List Str}(hN:N.Nodup){i j:Nat}{x:Str}(a:N[i]?=some x)(b:N[j]?=some x):i=j:=by
 obtain⟨h1,e1⟩:=List.getElem?_eq_some_iff.mp a
 obtain⟨h2,e2⟩:=List.getElem?_eq_some_iff.mp b
 exact(List.getElem_inj hN).mp (e1.trans e2.symm)
theorem vt{M:Model}{A:Around}{E:Value→Shared→Prop}{i:Nat}{x:Str}{v:V}{u:Value}{Q:Unit→Shared→Prop}(I:Inv X pins σ H s)(hN:X.N.Nodup)(hi:X.N[i]?=some x)(hx:Loc X.env.scope x)(r:RelV v u)
 (h:∀s',Inv X pins (σ.set i (some v)) H s'→(∃a,Heap.SameBut a s.heap s'.heap∧(a=X.env.locals∨X.env.cells.lookup x=some a))→Q () s') (hf:X.fn x=true∨X.env.scope.names.lookup x=some .local:=by first|exact .inl rfl|exact .inr rfl|assumption):wpAny M A (storeName X.env x u) Q E s:=by
 obtain⟨m,hn,hl⟩:=id I.loc
 have hcls:(X.env.scope.kind== .class||(X.env.scope.kind== .module&&X.env.locals != X.env.globals))=false:=by rw[I.ok.kind];rfl
 have hiσ:i<σ.length:=by rw[I.len];exact(List.getElem?_eq_some_iff.mp hi).1
 have xU:=I.xU
 have tracked:∀ {a:Addr} {h':Heap},(∃o,s.heap.get? a=some o∧H a=none)→Heap.SameBut a s.heap h'→iP X.prog X.w H h':=fun{a h'} ha hs b ob e=>by
  obtain⟨_,_,hfree⟩:=ha
  refine(I.aM b ob e).ou (fun c w' hc q=>(hs.2 c ?_).trans q) (fun _ q=>q) fun _ _ q=>q
  rintro rfl
  rcases hc with rfl|hc
  · rw[hfree]at e;cases e
  · rw[hfree]at hc;cases hc
 rcases hx with hk|hk
 · refine wpAny_storeName_local hk hn (fun h' hn' hs=>?_) hcls
   obtain⟨oL,_,_,hoL,_⟩:=id hn
   refine h _ ⟨I.ok,I.os,I.bare,⟨fun b o e n hb hx=>?_,fun b o e n hb hx=>?_,I.base.free,fun b o e hx=>?_,I.base.ox,I.base.nJ,I.base.nG⟩,⟨_,hn',fun j y v' e1 e2 e3=>?_⟩,fun y c e=>?_,I.free,I.i6,fun p hp=>?_,tracked ⟨oL,hoL,I.free⟩ hs,by simpa using I.len⟩ ⟨_,hs,.inl rfl⟩
   · exact(hs.2 b (Nat.ne_of_lt (Nat.lt_of_lt_of_le (Heap.lt_size e) I.ok.above))).trans (I.base.keep b o e n hb hx)
   · obtain⟨sl,e1⟩:=I.base.slot b o e n hb hx
     exact⟨sl,(hs.2 b (Nat.ne_of_lt (Nat.lt_of_lt_of_le (Heap.lt_size e) I.ok.above))).trans e1⟩
   · obtain⟨o',e1⟩:=I.base.there b o e hx
     exact⟨o',(hs.2 b (Nat.ne_of_lt (Nat.lt_of_lt_of_le (Heap.lt_size e) I.ok.above))).trans e1⟩
   · by_cases hj:j=i
     · subst hj
       rw[hi]at e1;cases e1
       rw[List.getElem?_set_self hiσ]at e2
       cases e2
       exact⟨u,r,.inl ⟨hk,by simp⟩⟩
     · rw[List.getElem?_set_ne (Ne.symm hj)]at e2
       obtain⟨u',r',q⟩:=hl j y v' e1 e2 e3
       refine⟨u',r',?_⟩
       rcases q with⟨k,e⟩|⟨k,c,e,z⟩
       · refine .inl ⟨k,?_⟩
         have:y≠x:=fun e=>hj (ym hN e1 (e▸hi))
         simp[this,e]
       · exact .inr ⟨k,c,e,z.sameBut hs (xU y c e)⟩
   · obtain⟨w',z⟩:=I.cell y c e
     exact⟨w',z.sameBut hs (xU y c e)⟩
   · obtain⟨e,n,ne,nf,d⟩:=I.pin p hp
     exact⟨(hs.2 p.1 ne).trans e,n,ne,nf,d⟩
 · have hfn:X.fn x=true:=by
    rcases hf with z|z
    · exact z
    · rw[z]at hk;cases hk
   obtain⟨c,hc⟩:=I.ok.has x (.inl hk)
   obtain⟨w',z⟩:=I.cell x c hc
   refine wpAny_storeName_cell I.ok.kind hk hc z (fun h' hc' hs=>?_)
   obtain⟨oc,hoc,hocd⟩:=id z
   refine h {s with heap:=h'} ⟨I.ok,I.os,I.bare,⟨fun b o e n hb hx=>?_,fun b o e n hb hx=>?_,I.base.free,fun b o e hx=>?_,I.base.ox,I.base.nJ,I.base.nG⟩,⟨m,hn.sameBut hs (Ne.symm (xU x c hc)),fun j y v' e1 e2 e3=>?_⟩,fun y c' e=>?_,I.free,I.i6,fun p hp=>?_,tracked ⟨oc,hoc,I.i6 x c hc⟩ hs,by simpa using I.len⟩ ⟨c,hs,.inr hc⟩
   · exact(hs.2 b (Nat.ne_of_lt (Nat.lt_of_lt_of_le (Heap.lt_size e) (I.ok.xQ x c hfn hc)))).trans (I.base.keep b o e n hb hx)
   · obtain⟨sl,e1⟩:=I.base.slot b o e n hb hx
     exact⟨sl,(hs.2 b (Nat.ne_of_lt (Nat.lt_of_lt_of_le (Heap.lt_size e) (I.ok.xQ x c hfn hc)))).trans e1⟩
   · obtain⟨o',e1⟩:=I.base.there b o e hx
     exact⟨o',(hs.2 b (Nat.ne_of_lt (Nat.lt_of_lt_of_le (Heap.lt_size e) (I.ok.xQ x c hfn hc)))).trans e1⟩
   · by_cases hj:j=i
     · subst hj
       rw[hi]at e1;cases e1
       rw[List.getElem?_set_self hiσ]at e2
       cases e2
       exact⟨u,r,.inr ⟨.inl hk,c,hc,hc'⟩⟩
     · rw[List.getElem?_set_ne (Ne.symm hj)]at e2
       obtain⟨u',r',q⟩:=hl j y v' e1 e2 e3
       refine⟨u',r',?_⟩
       rcases q with q|⟨k,c',e,z'⟩
       · exact .inl q
       · refine .inr ⟨k,c',e,z'.sameBut hs ?_⟩
         rintro rfl
         exact hj (ym hN e1 (I.ok.inj _ _ _ e hc▸hi))
   · by_cases hcc:c'=c
     · subst hcc;exact⟨_,hc'⟩
     · obtain⟨w2,z2⟩:=I.cell y c' e
       exact⟨w2,z2.sameBut hs hcc⟩
   · obtain⟨e,n,ne,nf,d⟩:=I.pin p hp
     refine⟨(hs.2 p.1 ?_).trans e,n,ne,nf,d⟩
     intro q
     rw[q,hoc]at e
     have q':oc=p.2:=Option.some.inj e
     exact d w' (by rw[←q'];exact hocd)
theorem sN{M:Model}{A:Around}{E:Value→Shared→Prop}{i:Nat}{x:Str}{v:V}{u:Value}{Q:Unit→Shared→Prop}(I:Inv X pins σ H s)(hN:X.N.Nodup)(hi:X.N[i]?=some x)(hx:Loc X.env.scope x)(r:RelV v u)
 (h:∀s',Inv X pins (σ.set i (some v)) H s'→Q () s') (hf:X.fn x=true∨X.env.scope.names.lookup x=some .local:=by first|exact .inl rfl|exact .inr rfl|assumption):wpAny M A (storeName X.env x u) Q E s:=
 vt I hN hi hx r (fun s' I' _=>h s' I') hf
theorem Inv.Ax{s':Shared}{ch:List Addr}(I:Inv X pins σ H s)(ho:s'.os=s.os)(u:Un (oN X.stack) ch H H' s.heap s'.heap)(aM:iP X.prog X.w H' s'.heap)(hg:AllBare s'.gens)
 (hch:∀b∈ch,(b∈X.ex∨X.s₀.heap.objs.size≤b)∧b≠X.env.locals∧(∀x c,X.env.cells.lookup x=some c→c≠b)∧∀p∈X.pn++pins,p.1≠b):Inv X pins σ H' s':=by
 obtain⟨h',g',d',t',o'⟩:=s'
 have e:o'=s.os:=ho
 subst e
 exact I.call (g':=g') (t':=t') (d':=d') u aM hg hch
end
noncomputable abbrev XK:=Value→Option Addr→Hp→Prop
noncomputable abbrev St:=List (Option V)
noncomputable abbrev VK:=V→Hp→Prop
noncomputable abbrev TE:=St→Hp→VK→Prop
noncomputable abbrev TT:=St→Hp→(Bool→Hp→Prop)→Prop
noncomputable abbrev TA:=St→Hp→(List V→Hp→Prop)→Prop
structure Ends where
 nx:St→Hp→Prop
 rt:VK
 bk:St→Hp→Prop:=fun _ _=>False
 ct:St→Hp→Prop:=fun _ _=>False
noncomputable abbrev TS:=Ends→St→Hp→Prop
noncomputable def EP(X:Cx)(pins:List (Addr×Obj))(σ:St)(Q:VK)(u:Value)(s':Shared):Prop:=∃v H',Inv X pins σ H' s'∧RelV v u∧Q v H'
noncomputable def TP(X:Cx)(pins:List (Addr×Obj))(σ:St)(Q:Bool→Hp→Prop)(b:Bool)(s':Shared):Prop:=∃H',Inv X pins σ H' s'∧Q b H'
noncomputable def AP(X:Cx)(pins:List (Addr×Obj))(σ:St)(Q:List V→Hp→Prop)(us:List Value)(s':Shared):Prop:=∃vs H',Inv X pins σ H' s'∧Vals vs us∧Q vs H'
noncomputable def SP(X:Cx)(pins:List (Addr×Obj))(D:Ends)(f:Flow)(s':Shared):Prop:=
 match f with
 | .next=>∃σ' H',Inv X pins σ' H' s'∧D.nx σ' H'
 | .brk=>∃σ' H',Inv X pins σ' H' s'∧D.bk σ' H'
 | .cont=>∃σ' H',Inv X pins σ' H' s'∧D.ct σ' H'
 | .ret u=>∃v σ' H',Inv X pins σ' H' s'∧RelV v u∧D.rt v H'
noncomputable def PE(X:Cx)(e:Expr)(t:TE):Prop:=
 ∀(pins:List (Addr×Obj)) (s:Shared) (σ:St) (H:Hp) (Q:VK),Inv X pins σ H s→t σ H Q→wpAny (model X.prog X.w) X.A (eval e X.env) (EP X pins σ Q) X.xe s
noncomputable def PT(X:Cx)(e:Expr)(t:TT):Prop:=
 ∀(pins:List (Addr×Obj)) (s:Shared) (σ:St) (H:Hp) (Q:Bool→Hp→Prop),Inv X pins σ H s→t σ H Q→wpAny (model X.prog X.w) X.A (isTrue e X.env (eval e X.env)) (TP X pins σ Q) X.xe s
noncomputable def PW(X:Cx)(e:Expr)(t:TT):Prop:=
 ∀(whole:Sem Value) (pins:List (Addr×Obj)) (s:Shared) (σ:St) (H:Hp) (Q:Bool→Hp→Prop),Inv X pins σ H s→t σ H Q→wpAny (model X.prog X.w) X.A (isTrue e X.env whole) (TP X pins σ Q) X.xe s
theorem PW.pt{X:Cx}{e:Expr}{t:TT}(h:PW X e t):PT X e t:=h _
noncomputable def PA(X:Cx)(es:List Expr)(t:TA):Prop:=
 ∀(pos:Pos) (pins:List (Addr×Obj)) (s:Shared) (σ:St) (H:Hp) (Q:List V→Hp→Prop),Inv X pins σ H s→t σ H Q→wpAny (model X.prog X.w) X.A (spliced (backTo pos (starEach es X.env))) (AP X pins σ Q) X.xe s
noncomputable def PS(X:Cx)(st:Stmt)(t:TS):Prop:=
 ∀(pins:List (Addr×Obj)) (s:Shared) (σ:St) (H:Hp) (D:Ends),Inv X pins σ H s→t D σ H→wpAny (model X.prog X.w) X.A (exec st X.env) (SP X pins D) X.xe s
noncomputable def iA(X:Cx)(st:List Stmt)(t:TS):Prop:=
 ∀(pins:List (Addr×Obj)) (s:Shared) (σ:St) (H:Hp) (D:Ends),Inv X pins σ H s→t D σ H→wpAny (model X.prog X.w) X.A (execs st X.env) (SP X pins D) X.xe s
theorem cv{α:Type}{t:Sem α}{Q Q':α→Shared→Prop}{M:Model}{A:Around}{E:Value→Shared→Prop}{s:Shared}(h:wpAny M A t Q E s)(hQ:∀a s,Q a s→Q' a s):wpAny M A t Q' E s:=wpAny_mono h hQ fun _ _ x=>x
end L2
namespace L2
open PySem PySem.Spec PyProof.Rows
section
variable {X:Cx}
noncomputable def Ik(i:Nat):TE:=fun σ H Q=>∃v,σ[i]?=some (some v)∧Q v H
noncomputable def tC(v:V):TE:=fun _ H Q=>Q v H
theorem Jk{i:Nat}{x:Str}{pos:Pos}(hN:X.N[i]?=some x)(hv:wV X.env.scope x)(hd:(x==("__debug__":Str))=false:=by decide)(hcd:(x==("__classdict__":Str))=false:=by decide):PE X (.Name x pos) (Ik i):=by
 intro pins s σ H Q I h
 obtain⟨v,e,h⟩:=h
 obtain⟨m,hn,hl⟩:=I.loc
 obtain⟨u,r,l⟩:=hl i x v hN e hv
 have fin:EP X pins σ Q u s:=⟨v,H,I,r,h⟩
 rcases l with⟨hk,hm⟩|⟨hk,c,hc,hcell⟩
 · exact wpAny_Name (wpAny_loadName_local I.ok.kind hk hn hm fin) hd
 · rcases hk with hk|hk
   · exact wpAny_Name (wpAny_loadName_cell I.ok.kind hk hc hcell fin) hd
   · exact wpAny_Name (wpAny_loadName_free I.ok.kind hk hc hcell fin hcd) hd
theorem Ip{i j pos}:PE X (.Constant (.int i) j pos) (tC (.int i)):=fun _ _ _ H _ I h=>wpAny_Constant_int ⟨.int i,H,I.tok _,⟨_,rfl⟩,h⟩
theorem Ly{b j pos}:PE X (.Constant (.bool b) j pos) (tC (.bl b)):=fun _ _ _ H _ I h=>Constant_bool ⟨.bl b,H,I,rfl,h⟩
theorem Ki{j pos}:PE X (.Constant .none j pos) (tC .aH):=fun _ _ _ H _ I h=>Constant_none ⟨.aH,H,I,rfl,h⟩
theorem Jl{x j pos}:PE X (.Constant (.str x) j pos) (tC (.str x)):=fun _ _ _ H _ I h=>Calls.Constant_str ⟨.str x,H,I.tok _,⟨_,rfl⟩,h⟩
noncomputable def Gl(X:Cx)(x:Str):Prop:=X.env.kindOf x=some .globalImplicit
theorem zo{E:Value→Shared→Prop}{pins:List (Addr×Obj)}{s:Shared}{σ:St}{H:Hp}{x:Str}{u:Value}{pos:Pos}{Q:Value→Shared→Prop}(I:Inv X pins σ H s)(hg:Gl X x)(hm:X.mg x=some u)(h:Q u s)
 (hd:(x==("__debug__":Str))=false:=by decide):wpAny (model X.prog X.w) X.A (eval (.Name x pos) X.env) Q E s:=
 Calls.Name_function_global I.ok.kind hg (Calls.loadGlobal_global (by rw[I.ok.glob];exact I.mod.glob.keeps I.bk) hm h) hd
theorem kG{E:Value→Shared→Prop}{pins:List (Addr×Obj)}{s:Shared}{σ:St}{H:Hp}{x:Str}{u:Value}{pos:Pos}{Q:Value→Shared→Prop}(I:Inv X pins σ H s)(hg:Gl X x)(hm:X.mg x=none)(hv:bootBuiltins x=some u)(h:Q u s)
 (hn:x≠"__name__":=by decide) (hd:(x==("__debug__":Str))=false:=by decide):wpAny (model X.prog X.w) X.A (eval (.Name x pos) X.env) Q E s:=by
 obtain⟨mb,h1,h2⟩:=I.mod.blt
 exact Calls.Name_function_global I.ok.kind hg (Calls.loadGlobal_builtin (by rw[I.ok.glob];exact I.mod.glob.keeps I.bk) hm (by rw[I.ok.blt];exact h1.keeps I.bk) ((h2 x hn).trans hv) h) hd
theorem HI{x:Str}{v:V}{u:Value}{pos:Pos}(hg:Gl X x)(hm:X.mg x=none)(hv:bootBuiltins x=some u)(r:RelV v u)(hn:x≠"__name__":=by decide)(hd:(x==("__debug__":Str))=false:=by decide):PE X (.Name x pos) (tC v):=
 fun _ _ _ H _ I h=>kG I hg hm hv ⟨v,H,I,r,h⟩ hn hd
variable {a b:Expr}{ta tb:TE}{pos:Pos}
noncomputable def tB(t:TE):TT:=fun σ H Q=>t σ H fun x H1=>∃c,x= .bl c∧Q c H1
theorem Ky{e:Expr}{t:TE}(h:PE X e t)(he:∀whole,isTrue e X.env whole=(do let v ←whole;standAt e.pos;holding [v] (truthy v)):=by intro _;rfl):PT X e (tB t):=by
 intro pins s σ H Q I hw
 refine isTrue_plain (cv (h pins s σ H _ I hw) fun v s1 ⟨x,H1,I1,r1,q1⟩=>?_) (he _)
 obtain⟨d,rfl,q⟩:=q1
 cases r1
 exact wpAny_truthy_bool ⟨H1,I1,q⟩
variable {tA tB':TT}{rest:List Expr}
noncomputable def Jc(t u:TT):TT:=fun σ H Q=>t σ H fun c H1=>if c=true then u σ H1 Q else Q false H1
noncomputable def MF(t u:TT):TT:=fun σ H Q=>t σ H fun c H1=>if c=true then Q true H1 else u σ H1 Q
noncomputable def Ni(t:TT):TT:=fun σ H Q=>t σ H fun c H1=>Q (!c) H1
theorem pw_and1(ha:PT X a tA):PW X (.BoolOp .And [a] pos) tA:=by
 intro wh pins s σ H Q I h
 refine isTrue_and (cv (ha pins s σ H Q I h) fun c s1 e=>?_)
 cases c with
 |true=>exact isTrue_and_nil e
 |false=>exact e
theorem pw_or1(ha:PT X a tA):PW X (.BoolOp .Or [a] pos) tA:=by
 intro wh pins s σ H Q I h
 refine isTrue_or (cv (ha pins s σ H Q I h) fun c s1 e=>?_)
 cases c with
 |false=>exact isTrue_or_nil e
 |true=>exact e
theorem pw_and(ha:PT X a tA)(hb:PW X (.BoolOp .And (b::rest) pos) tB'):PW X (.BoolOp .And (a::b::rest) pos) (Jc tA tB'):=by
 intro wh pins s σ H Q I h
 refine isTrue_and (cv (ha pins s σ H _ I h) fun c s1 ⟨H1,I1,q1⟩=>?_)
 cases c with
 |true=>exact hb wh pins s1 σ H1 Q I1 q1
 |false=>exact⟨H1,I1,q1⟩
theorem pw_or(ha:PT X a tA)(hb:PW X (.BoolOp .Or (b::rest) pos) tB'):PW X (.BoolOp .Or (a::b::rest) pos) (MF tA tB'):=by
 intro wh pins s σ H Q I h
 refine isTrue_or (cv (ha pins s σ H _ I h) fun c s1 ⟨H1,I1,q1⟩=>?_)
 cases c with
 |true=>exact⟨H1,I1,q1⟩
 |false=>exact hb wh pins s1 σ H1 Q I1 q1
theorem IS(ha:PT X a tA):PT X (.UnaryOp .Not a pos) (Ni tA):=by
 intro pins s σ H Q I h
 exact isTrue_not (ha pins s σ H (fun c H1=>Q (!c) H1) I h)
noncomputable def Lp(ta tb:TE):TE:=fun σ H Q=>ta σ H fun x H1=>∃c,x= .bl c∧if c=true then tb σ H1 Q else Q (.bl false) H1
noncomputable def KZ(ta:TE):TE:=fun σ H Q=>ta σ H fun x H1=>∃c,x= .bl c∧Q (.bl (!c)) H1
theorem IM{op}{t:TE}(h:PE X a t):PE X (.BoolOp op [a] pos) t:=fun pins s σ H Q I hw=>BoolOp_one (h pins s σ H Q I hw)
theorem JK(ha:PE X a ta)(hb:PE X (.BoolOp .And (b::rest) pos) tb):PE X (.BoolOp .And (a::b::rest) pos) (Lp ta tb):=by
 intro pins s σ H Q I h
 refine BoolOp_and (cv (ha pins s σ H _ I h) fun v s1 ⟨x,H1,I1,r1,q1⟩=>?_)
 obtain⟨c,rfl,q1⟩:=q1
 cases r1
 refine wpAny_truthy_bool ?_
 cases c with
 |true=>exact hb pins s1 σ H1 Q I1 q1
 |false=>exact⟨.bl false,H1,I1,rfl,q1⟩
theorem KN(ha:PE X a ta):PE X (.UnaryOp .Not a pos) (KZ ta):=by
 intro pins s σ H Q I h
 refine UnaryOp_ (cv (ha pins s σ H _ I h) fun v s1 ⟨x,H1,I1,r1,q1⟩=>?_)
 obtain⟨c,rfl,q1⟩:=q1
 cases r1
 exact not_of (wpAny_truthy_bool ⟨.bl (!c),H1,I1,rfl,q1⟩)
noncomputable def NO(t:TT)(ta tb:TE):TE:=fun σ H Q=>t σ H fun c H1=>if c=true then ta σ H1 Q else tb σ H1 Q
theorem EA{c:Expr}(hc:PT X c tA)(ha:PE X a ta)(hb:PE X b tb):PE X (.IfExp c a b pos) (NO tA ta tb):=by
 intro pins s σ H Q I h
 refine wpAny_IfExp (cv (hc pins s σ H _ I h) fun d s1 ⟨H1,I1,q1⟩=>?_)
 cases d with
 |true=>exact ha pins s1 σ H1 Q I1 q1
 |false=>exact hb pins s1 σ H1 Q I1 q1
end
end L2
namespace L2
open PySem PySem.Spec PyProof.Rows
noncomputable def mr(K:PySem.W.Frag)(H:Hp)(a:Addr)(xs:List V):Prop:=
 Rd H a (.lst xs)∨
  ∃(o:Obj) (its:Array Value) (n:Nat),K.lookup a=some o∧o.cls= .type "list"∧o.dict=none∧o.data= .seq its n∧its.size≤sizeLine∧Vals xs its.toList
noncomputable def jj(K:PySem.W.Frag)(H:Hp)(a:Addr)(xs:List V):Prop:=
 Rd H a (.tup xs)∨
  ∃(o:Obj) (its:Array Value) (n:Nat),K.lookup a=some o∧o.cls= .type "tuple"∧o.data= .seq its n∧its.size≤sizeLine∧Vals xs its.toList
noncomputable def Np:Value→Option V
 | .none=>some .aH
 | .bool b=>some (.bl b)
 | .int i _=>some (.int i)
 | .str x _=>some (.str x)
 | .bytes b _=>some (.sf b)
 | .float b _=>some (.rV b)
 | .ref a=>some (.ref a)
 | .type n=>some (.ty n)
 |_=>none
theorem RelV.abs{x:V}{u:Value}(r:RelV x u):Np u=some x:=by
 cases x with
 |aH=>cases r;rfl
 |bl _=>cases r;rfl
 |int _=>obtain⟨t,rfl⟩:=r;rfl
 |str _=>obtain⟨t,rfl⟩:=r;rfl
 |sf _=>obtain⟨t,rfl⟩:=r;rfl
 |rV _=>obtain⟨t,rfl⟩:=r;rfl
 |ref _=>cases r;rfl
 |ty _=>cases r;rfl
theorem RelV.inj{x y:V}{u:Value}(r:RelV x u)(q:RelV y u):x=y:=Option.some.inj (r.abs.symm.trans q.abs)
theorem Vals.inj:∀ {xs ys:List V} {us:List Value},Vals xs us→Vals ys us→xs=ys
 |_,_,_,.nil,.nil=>rfl
 |_,_,_,.cons r t,.cons r' t'=>by rw[r.inj r',Vals.inj t t']
section
variable {X:Cx}{pins:List (Addr×Obj)}{σ:St}{H:Hp}{s:Shared}{a:Addr}{xs ys:List V}
theorem mr.of{K:PySem.W.Frag}(h:H a=some (.lst xs)):mr K H a xs:= .inl (.inl h)
theorem jj.of{K:PySem.W.Frag}(h:H a=some (.tup xs)):jj K H a xs:= .inl (.inl h)
theorem Inv.list(I:Inv X pins σ H s)(h:mr X.K H a xs):∃its:List Value,Vals xs its∧PlainL s.heap a its.toArray∧xs.length≤sizeLine:=by
 rcases h with h|⟨o,its,n,hk,hc,hd,hs,hz,r⟩
 · obtain⟨z,its,n,r,e⟩:=h.ok I.aM
   exact⟨its,r,⟨_,n,e,rfl,rfl,rfl⟩,z⟩
 · refine⟨its.toList,r,⟨o,n,I.iz a o hk,hc,hd,by simpa using hs⟩,?_⟩
   have e:=r.length
   simp only[Array.length_toList]at e
   omega
theorem Inv.tuple(I:Inv X pins σ H s)(h:jj X.K H a xs):∃its:List Value,Vals xs its∧IsTup s.heap a its.toArray∧xs.length≤sizeLine:=by
 rcases h with h|⟨o,its,n,hk,hc,hs,hz,r⟩
 · obtain⟨z,its,r,p⟩:=h.ok I.aM
   exact⟨its,r,p,z⟩
 · refine⟨its.toList,r,⟨o,I.iz a o hk,hc,n,by simpa using hs⟩,?_⟩
   have e:=r.length
   simp only[Array.length_toList]at e
   omega
theorem Inv.w6(I:Inv X pins σ H s)(h:mr X.K H a xs)(h':mr X.K H a ys):xs=ys:=by
 obtain⟨its,r,⟨o,n,e,_,_,d⟩,_⟩:=I.list h
 obtain⟨its',r',⟨o',n',e',_,_,d'⟩,_⟩:=I.list h'
 rw[e]at e';cases e'
 rw[d]at d'
 injection d' with d1 _
 have:its=its':=by simpa using congrArg Array.toList d1
 subst this
 exact r.inj r'
theorem Inv.vd(I:Inv X pins σ H s)(h:jj X.K H a xs)(h':jj X.K H a ys):xs=ys:=by
 obtain⟨its,r,⟨o,e,_,n,d⟩,_⟩:=I.tuple h
 obtain⟨its',r',⟨o',e',_,n',d'⟩,_⟩:=I.tuple h'
 rw[e]at e';cases e'
 rw[d]at d'
 injection d' with d1 _
 have:its=its':=by simpa using congrArg Array.toList d1
 subst this
 exact r.inj r'
end
noncomputable abbrev Cx.oA(X:Cx)(E:Value→Shared→Prop):Cx:={X with xe:=E}
noncomputable abbrev Cx.tW(X:Cx):Cx:=X.oA fun _ _=>False
theorem Cx.Ok.oA{X:Cx}(ok:X.Ok)(E:Value→Shared→Prop):(X.oA E).Ok:=
 ⟨ok.mod,ok.kind,ok.glob,ok.blt,ok.above,ok.inj,ok.has,ok.xQ,ok.hd,ok.frames,ok.zd,ok.C6,ok.bs,ok.qp,ok.su,ok.td,ok.kB,ok.tJ,ok.gt⟩
theorem Cx.Ok.mx{X:Cx}{E:Value→Shared→Prop}(ok:(X.oA E).Ok):X.Ok:=
 ⟨ok.mod,ok.kind,ok.glob,ok.blt,ok.above,ok.inj,ok.has,ok.xQ,ok.hd,ok.frames,ok.zd,ok.C6,ok.bs,ok.qp,ok.su,ok.td,ok.kB,ok.tJ,ok.gt⟩
section
variable {X:Cx}{pins:List (Addr×Obj)}{σ:St}{H:Hp}{s:Shared}{E:Value→Shared→Prop}
theorem Inv.oA(I:Inv X pins σ H s)(E:Value→Shared→Prop):Inv (X.oA E) pins σ H s:=⟨I.ok.oA E,I.os,I.bare,I.base,I.loc,I.cell,I.free,I.i6,I.pin,I.aM,I.len⟩
theorem Inv.mx(I:Inv (X.oA E) pins σ H s):Inv X pins σ H s:=⟨I.ok.mx,I.os,I.bare,I.base,I.loc,I.cell,I.free,I.i6,I.pin,I.aM,I.len⟩
theorem SP.mx{D:Ends}{f:Flow}{s':Shared}(h:SP (X.oA E) pins D f s'):SP X pins D f s':=by
 cases f with
 |next=>obtain⟨σ',H',I,q⟩:=h;exact⟨σ',H',I.mx,q⟩
 |brk=>obtain⟨σ',H',I,q⟩:=h;exact⟨σ',H',I.mx,q⟩
 |cont=>obtain⟨σ',H',I,q⟩:=h;exact⟨σ',H',I.mx,q⟩
 |ret u=>obtain⟨v,σ',H',I,r,q⟩:=h;exact⟨v,σ',H',I.mx,r,q⟩
theorem iA.tW{st:List Stmt}{t:TS}(h:iA X.tW st t):iA X st t:=fun pins s σ H D I hw=>
 wpAny_mono (h pins s σ H D (I.oA _) hw) (fun _ _ q=>q.mx) fun _ _ z=>False.elim z
end
section
variable {X:Cx}{st:Stmt}{rest:List Stmt}{t u:TS}{e:Expr}{te:TE}{pos:Pos}
noncomputable def Ln:TS:=fun D σ H=>D.nx σ H
noncomputable def Nt(t u:TS):TS:=fun D σ H=>t {D with nx:=u D} σ H
theorem HH:iA X [] Ln:=fun _ _ σ H _ I h=>wpAny_execs_nil ⟨σ,H,I,h⟩
theorem Ee(h1:PS X st t)(h2:iA X rest u):iA X (st::rest) (Nt t u):=by
 intro pins s σ H D I h
 refine wpAny_execs_cons (cv (h1 pins s σ H {D with nx:=u D} I h) fun f s1 q=>?_)
 cases f with
 |next=>
  obtain⟨σ',H',I',q⟩:=q
  exact h2 pins s1 σ' H' D I' q
 |ret v=>exact q
 |brk=>exact q
 |cont=>exact q
theorem GA(h1:PS X st t):iA X [st] t:=by
 intro pins s σ H D I h
 refine wpAny_execs_cons (cv (h1 pins s σ H D I h) fun f s1 q=>?_)
 cases f with
 |next=>exact wpAny_execs_nil q
 |ret v=>exact q
 |brk=>exact q
 |cont=>exact q
theorem Inv.quiet{pins:List (Addr×Obj)}{σ:St}{H:Hp}{s:Shared}(I:Inv X pins σ H s):interactive X.env=false:=by simp[interactive,I.ok.kind]
noncomputable def LV(te:TE):TS:=fun D σ H=>te σ H fun _ H1=>D.nx σ H1
theorem FX(he:PE X e te)(hs:swapsWith e none pos.line X.env=pure false:=by rfl):PS X (.Expr e pos) (LV te):=by
 intro pins s σ H D I h
 exact wpAny_Expr_any (cv (he pins s σ H _ I h) fun v s1 ⟨x,H1,I1,r1,q1⟩=>⟨σ,H1,I1,q1⟩) I.quiet hs
noncomputable def M0(te:TE):TS:=fun D σ H=>te σ H D.rt
theorem Js(he:PE X e te):PS X (.Return (some e) pos) (M0 te):=by
 intro pins s σ H D I h
 exact wpAny_Return_some (cv (he pins s σ H _ I h) fun v s1 ⟨x,H1,I1,r1,q1⟩=>⟨x,σ,H1,I1,r1,q1⟩)
noncomputable def MY(c:TT)(t u:TS):TS:=fun D σ H=>c σ H fun b H1=>if b=true then t D σ H1 else u D σ H1
theorem Ld{c:Expr}{a b:List Stmt}{tc:TT}(hc:PT X c tc)(ha:iA X a t)(hb:iA X b u):PS X (.If c a b pos) (MY tc t u):=by
 intro pins s σ H D I h
 refine wpAny_If (cv (hc pins s σ H _ I h) fun d s1 ⟨H1,I1,q1⟩=>?_)
 cases d with
 |true=>exact ha pins s1 σ H1 D I1 q1
 |false=>exact hb pins s1 σ H1 D I1 q1
end
noncomputable abbrev TG:=V→St→Hp→(St→Hp→Prop)→Prop
noncomputable abbrev tw:=List V→St→Hp→(St→Hp→Prop)→Prop
noncomputable def PG(X:Cx)(target:Expr)(t:TG):Prop:=
 ∀(pins:List (Addr×Obj)) (s:Shared) (σ:St) (H:Hp) (v:V) (u:Value) (Q:St→Hp→Prop),Inv X pins σ H s→RelV v u→t v σ H Q→
  wpAny (model X.prog X.w) X.A (assign target X.env u) (fun _ s'=>∃σ' H',Inv X pins σ' H' s'∧Q σ' H') X.xe s
noncomputable def zg(X:Cx)(ts:List Expr)(t:tw):Prop:=
 ∀(pins:List (Addr×Obj)) (s:Shared) (σ:St) (H:Hp) (vs:List V) (us:List Value) (Q:St→Hp→Prop),Inv X pins σ H s→Vals vs us→t vs σ H Q→
  wpAny (model X.prog X.w) X.A (assignInOrder ((assignEach ts X.env).map (·.2)) us) (fun _ s'=>∃σ' H',Inv X pins σ' H' s'∧Q σ' H') X.xe s
noncomputable abbrev Dh:=V→V→V→Hp→(Hp→Prop)→Prop
noncomputable def JX(X:Cx)(t:Dh):Prop:=
 ∀(pins:List (Addr×Obj)) (s:Shared) (σ:St) (H:Hp) (o i v:V) (ov iv u:Value) (Q:Hp→Prop),Inv X pins σ H s→RelV o ov→RelV i iv→RelV v u→t o i v H Q→
  wpAny (model X.prog X.w) X.A (setItem ov iv u) (fun _ s'=>∃H',Inv X pins σ H' s'∧Q H') X.xe s
noncomputable abbrev E1:=V→V→Hp→VK→Prop
noncomputable def Jr(X:Cx)(op:Operator)(t:E1):Prop:=
 ∀(pins:List (Addr×Obj)) (s:Shared) (σ:St) (H:Hp) (x y:V) (v u:Value) (Q:VK),Inv X pins σ H s→RelV x v→RelV y u→t x y H Q→
  wpAny (model X.prog X.w) X.A (inplaceOp op v u) (EP X pins σ Q) X.xe s
section
variable {X:Cx}{pos:Pos}
noncomputable def jy(i:Nat):TG:=fun v σ H Q=>Q (σ.set i (some v)) H
theorem nq{i:Nat}{x:Str}(hN:X.N.Nodup)(hi:X.N[i]?=some x)(hx:Loc X.env.scope x)(hf:X.fn x=true∨X.env.scope.names.lookup x=some .local:=by first|exact .inl rfl|exact .inr rfl|assumption):PG X (.Name x pos) (jy i):=by
 intro pins s σ H v u Q I r h
 exact wpAny_assign_Name (sN I hN hi hx r (fun s' I'=>⟨_,H,I',h⟩) hf)
noncomputable def AD:tw:=fun vs σ H Q=>vs=[]∧Q σ H
noncomputable def nP(t:TG)(u:tw):tw:=fun vs σ H Q=>∃v r,vs=v::r∧t v σ H fun σ' H'=>u r σ' H' Q
theorem uD:zg X [] AD:=by
 intro pins s σ H vs us Q I r h
 obtain⟨e,h⟩:=h
 subst e
 cases r
 exact assignInOrder_nil ⟨σ,H,I,h⟩
theorem j7{e:Expr}{es:List Expr}{t:TG}{u:tw}(h1:PG X e t)(h2:zg X es u)
 (hs:(assignEach (e::es) X.env).map (·.2)=assign e X.env::(assignEach es X.env).map (·.2):=by rfl):zg X (e::es) (nP t u):=by
 intro pins s σ H vs us Q I r h
 obtain⟨v,vr,e1,h⟩:=h
 subst e1
 cases r with
 |cons r rr=>
  rw[hs]
  refine assignInOrder_cons (cv (h1 pins s σ H _ _ _ I r h) fun _ s1 ⟨σ1,H1,I1,q1⟩=>?_)
  exact h2 pins s1 σ1 H1 _ _ Q I1 rr q1
noncomputable def Kb(K:PySem.W.Frag)(n:Nat)(t:tw):TG:=fun v σ H Q=>∃a xs,v= .ref a∧jj K H a xs∧xs.length=n∧t xs σ H Q
theorem C3{es:List Expr}{k:Nat}{t:tw}{n:Nat}(hc:X.calm=true)(h:zg X es t)
 (hn:(assignEach es X.env).length=n:=by rfl) (hst:(assignEach es X.env).findIdx? (·.1)=none:=by rfl):PG X (.Tuple es k pos) (Kb X.K n t):=by
 intro pins s σ H v u Q I r hw
 obtain⟨a,xs,e1,hq,hl,hw⟩:=hw
 subst e1
 cases r
 obtain⟨its,rv,ht,hz⟩:=I.tuple hq
 refine assign_Tuple_tuple (I.ok.hd hc) ht (by simp[hn,←hl,rv.length]) hst fun h' hx=>?_
 have I1:Inv X pins σ H {s with heap:=h'}:=I.kept (t':=s.toks) fun b o e=>hx b o (Nat.ne_of_lt (Heap.lt_size e)) e
 exact h pins _ σ H xs _ Q I1 (by simpa using rv) hw
noncomputable def uJ(to ti:TE)(t:Dh):TG:=fun v σ H Q=>to σ H fun o H1=>ti σ H1 fun i H2=>t o i v H2 fun H3=>Q σ H3
theorem tG{o i:Expr}{to ti:TE}{t:Dh}(ho:PE X o to)(hi:PE X i ti)(hs:JX X t)
 (ha:∀v,assign (.Subscript o i pos) X.env v=(do
   let ov ←holding [v] (eval o X.env)
   let iv ←holding [v,ov] (eval i X.env)
   standAt pos
   holding [v,ov,iv] (setItem ov iv v)
   release [v,ov,iv] []):=by intro _;rfl):PG X (.Subscript o i pos) (uJ to ti t):=by
 intro pins s σ H v u Q I r h
 rw[ha]
 refine wpAny_bind (wpAny_holding (cv (ho pins s σ H _ I h) fun ov s1 ⟨x,H1,I1,r1,q1⟩=>?_))
 refine wpAny_bind (wpAny_holding (cv (hi pins s1 σ H1 _ I1 q1) fun iv s2 ⟨y,H2,I2,r2,q2⟩=>?_))
 refine wpAny_bind (wpAny_standAt (wpAny_bind (wpAny_holding (cv (hs pins s2 σ H2 x y v ov iv u _ I2 r1 r2 r q2) fun _ s3 ⟨H3,I3,q3⟩=>?_))))
 exact wpAny_release ⟨σ,H3,I3,q3⟩
noncomputable def kR(te:TE)(g:TG):TS:=fun D σ H=>te σ H fun x H1=>g x σ H1 D.nx
theorem tV{tg e:Expr}{te:TE}{g:TG}(he:PE X e te)(hg:PG X tg g)(hs:swapsWithSole [tg] e pos.line X.env=pure false:=by rfl)(hw:swappedStores [tg] e X.env=pure none:=by rfl)
 (h1:(assignEach [tg] X.env).map (·.2)=[assign tg X.env]:=by rfl):PS X (.Assign [tg] e pos) (kR te g):=by
 intro pins s σ H D I h
 refine wpAny_Assign_stores (cv (he pins s σ H _ I h) fun v s1 ⟨x,H1,I1,r1,q1⟩=>?_) hs hw
 rw[h1]
 exact cv (hg pins s1 σ H1 x v _ I1 r1 q1) fun _ s2 q=>q
theorem Jz{i:Nat}{x:Str}{e:Expr}{te:TE}{pos':Pos}(hN:X.N.Nodup)(hi:X.N[i]?=some x)(hx:Loc X.env.scope x)(he:PE X e te)(hs:swapsWith e (some (.Name x pos')) pos.line X.env=pure false:=by rfl)(hf:X.fn x=true∨X.env.scope.names.lookup x=some .local:=by first|exact .inl rfl|exact .inr rfl|assumption):
 PS X (.Assign [.Name x pos'] e pos) (kR te (jy i)):=by
 intro pins s σ H D I h
 refine wpAny_Assign_Name (cv (he pins s σ H _ I h) fun v s1 ⟨y,H1,I1,r1,q1⟩=>?_) hs
 exact sN I1 hN hi hx r1 (fun s2 I2=>⟨_,H1,I2,q1⟩) hf
noncomputable def Ka(i:Nat)(te:TE)(ti:E1):TS:=fun D σ H=>∃x,σ[i]?=some (some x)∧te σ H fun y H1=>ti x y H1 fun z H2=>D.nx (σ.set i (some z)) H2
theorem Jq{i:Nat}{x:Str}{e:Expr}{te:TE}{op:Operator}{ti:E1}{pos':Pos}(hN:X.N.Nodup)(hi:X.N[i]?=some x)(hx:Loc X.env.scope x)(he:PE X e te)(ho:Jr X op ti)(hf:X.fn x=true∨X.env.scope.names.lookup x=some .local:=by first|exact .inl rfl|exact .inr rfl|assumption):
 PS X (.AugAssign (.Name x pos') op e pos) (Ka i te ti):=by
 intro pins s σ H D I h
 obtain⟨v,e1,h⟩:=h
 obtain⟨m,hn,hl⟩:=I.loc
 have vis:wV X.env.scope x:=by rcases hx with k|k;exact .inl k;exact .inr (.inl k)
 obtain⟨u,r,l⟩:=hl i x v hi e1 vis
 refine wpAny_AugAssign_Name ?_
 have go:wpAny (model X.prog X.w) X.A (eval e X.env) (fun w s₂=>wpAny (model X.prog X.w) X.A (inplaceOp op u w) (fun r s₃=>wpAny (model X.prog X.w) X.A (storeName X.env x r) (fun _=>SP X pins D .next) X.xe s₃) X.xe s₂) X.xe s:=by
  refine cv (he pins s σ H _ I h) fun w s1 ⟨y,H1,I1,r1,q1⟩=>?_
  refine cv (ho pins s1 σ H1 v y u w _ I1 r r1 q1) fun z s2 ⟨zv,H2,I2,r2,q2⟩=>?_
  exact sN I2 hN hi hx r2 (fun s3 I3=>⟨_,H2,I3,q2⟩) hf
 rcases l with⟨hk,hm⟩|⟨hk,c,hc,hcell⟩
 · exact wpAny_loadName_local I.ok.kind hk hn hm go
 · rcases hk with hk|hk
   · exact wpAny_loadName_cell I.ok.kind hk hc hcell go
   · rcases hx with k|k
     · have:X.env.scope.names.lookup x=some .free:=hk
       rw[k]at this;cases this
     · have:X.env.scope.names.lookup x=some .free:=hk
       rw[k]at this;cases this
noncomputable def Jy(f:Int→Int→Int):E1:=fun x y H Q=>∃i j,x= .int i∧y= .int j∧Q (.int (f i j)) H
theorem Ir:Jr X .Add (Jy fun i j=>i+j):=by
 intro pins s σ H x y v u Q I r1 r2 h
 obtain⟨i,j,e1,e2,q⟩:=h
 subst e1;subst e2
 obtain⟨t,rfl⟩:=r1
 obtain⟨t',rfl⟩:=r2
 exact iadd_int ⟨.int _,H,I.tok _,⟨_,rfl⟩,q⟩
end
section
variable {X:Cx}{pos:Pos}
noncomputable def CG(c:TT)(tb:TS):TS:=fun D σ H=>∃W:Nat→St→Hp→Prop,(∃m,W m σ H)∧∀m σ H,W m σ H→
 c σ H fun b H1=>if b=true then∃N:St→Hp→Prop,(∀σ' H',N σ' H'→∃m',m'<m∧W m' σ' H')∧tb {D with nx:=N,ct:=N,bk:=D.nx} σ H1 else D.nx σ H1
theorem DL{c:Expr}{body:List Stmt}{tc:TT}{tb:TS}(hp:PassesOwn (model X.prog X.w) X.A X.env X.xe)(hc:PT X c tc)(hb:iA X body tb):PS X (.While c body [] pos) (CG tc tb):=by
 intro pins s σ H D I h
 obtain⟨W,⟨m0,w0⟩,turn⟩:=h
 refine wpAny_While (codeAny_whileLoop (fun n s'=>∃σ' H',Inv X pins σ' H' s'∧W n σ' H') ?_ m0 ⟨σ,H,I,w0⟩)
 rintro n s1 ⟨σ1,H1,I1,w1⟩
 refine wpAny_passesOwn hp (cv (hc pins s1 σ1 H1 _ I1 (turn n σ1 H1 w1)) fun b s2 ⟨H2,I2,q2⟩=>?_)
 cases b with
 |true=>
  obtain⟨N,hN,q2⟩:=q2
  rw[if_pos rfl]
  refine wpAny_passesOwn hp (cv (hb pins s2 σ1 H2 _ I2 q2) fun f s3 q3=>?_)
  cases f with
  |next=>
   obtain⟨σ3,H3,I3,n3⟩:=q3
   obtain⟨m',hm,w3⟩:=hN σ3 H3 n3
   exact⟨m',hm,σ3,H3,I3,w3⟩
  |cont=>
   obtain⟨σ3,H3,I3,n3⟩:=q3
   obtain⟨m',hm,w3⟩:=hN σ3 H3 n3
   exact⟨m',hm,σ3,H3,I3,w3⟩
  |brk=>exact q3
  |ret v=>exact q3
 |false=>
  rw[if_neg Bool.false_ne_true]
  exact wpAny_execs_nil ⟨σ1,H2,I2,q2⟩
end
structure It where
 go:Nat→Hp→Prop
 oo:Nat→Hp→V→Hp→Prop
 stop:Nat→Hp→Prop
noncomputable def lb(X:Cx)(pins:List (Addr×Obj))(H:Hp)(b:Addr):Prop:=
 H b=none∧b≠X.env.locals∧b∉X.fs∧(b∈X.ex∨X.s₀.heap.objs.size≤b)∧(∀x c,X.env.cells.lookup x=some c→c≠b)∧∀p∈X.pn++pins,p.1≠b
theorem Inv.sQ{X:Cx}{pins:List (Addr×Obj)}{σ:St}{H H':Hp}{s:Shared}{b:Addr}(I:Inv X pins σ H s)(hb:s.heap.objs.size≤b)(hn:H' b=none):lb X pins H' b:=by
 refine⟨hn,Nat.ne_of_gt (Nat.lt_of_lt_of_le I.lt hb),I.H0 hb,.inr (Nat.le_trans I.sz hb),fun x c e z=>?_,fun p hp z=>?_⟩
 · obtain⟨v,q⟩:=I.cell x c e
   exact absurd (Nat.lt_of_lt_of_le q.lt (by rw[z];exact hb)) (Nat.lt_irrefl _)
 · exact absurd (Nat.lt_of_lt_of_le (Heap.lt_size (I.pin p hp).1) (by rw[z];exact hb)) (Nat.lt_irrefl _)
structure Turn(P:Program)(w:World)(K:PySem.W.Frag)(tg:Expr)(J:It)(fp:List Addr)(it:Addr)(tn:Nat→Heap→Prop):Prop where
 mem:it∈fp
 obj:∀i h,tn i h→∀b∈fp,∃o,h.get? b=some o∧∀v,o.data≠ .cell v
 keep:∀i h h',tn i h→(∀b∈fp,∀o,h.get? b=some o→h'.get? b=some o)→tn i h'
 item:∀(X:Cx),X.prog=P→X.w=w→X.K=K→X.calm=true→∀(i:Nat) (pins:List (Addr×Obj)) (s:Shared) (σ:St) (H:Hp) (E:Value→Shared→Prop),Inv X pins σ H s→(∀b∈fp,lb X pins H b)→tn i s.heap→J.go i H→
  wpAny (model P w) X.A (pyNext (.ref it)) (fun r s1=>∃u,r=some u∧
   wpAny (model P w) X.A (letOwnedTupleGo tg (.ref it) u) (fun _ s2=>∃x H',Inv X pins σ H' s2∧RelV x u∧J.oo i H x H'∧tn (i+1) s2.heap∧∀b∈fp,H' b=none) E s1) E s
 done:∀(X:Cx),X.prog=P→X.w=w→X.K=K→X.calm=true→∀(i:Nat) (pins:List (Addr×Obj)) (s:Shared) (σ:St) (H:Hp) (E:Value→Shared→Prop),Inv X pins σ H s→(∀b∈fp,lb X pins H b)→tn i s.heap→J.stop i H→
  wpAny (model P w) X.A (pyNext (.ref it)) (fun r s1=>r=none∧Inv X pins σ H s1) E s
 self:∀(A:Around) (i:Nat) (s:Shared) (Q:Value→Shared→Prop) (E:Value→Shared→Prop),tn i s.heap→Q (.ref it) s→wpAny (model P w) A (pyIter (.ref it)) Q E s
noncomputable abbrev TI:=St→Hp→(It→Hp→Prop)→Prop
noncomputable def Fq(X:Cx)(pins:List (Addr×Obj))(σ:St)(tg:Expr)(R:It→Hp→Prop)(itv:Value)(s2:Shared):Prop:=
 ∃(it:Addr) (fp:List Addr) (tn:Nat→Heap→Prop) (J:It) (H':Hp),itv= .ref it∧Inv X pins σ H' s2∧Turn X.prog X.w X.K tg J fp it tn∧tn 0 s2.heap∧(∀b∈fp,lb X pins H' b)∧R J H'
noncomputable def PI(X:Cx)(tg iter:Expr)(wi:TI):Prop:=
 ∀(pins:List (Addr×Obj)) (s:Shared) (σ:St) (H:Hp) (R:It→Hp→Prop),Inv X pins σ H s→wi σ H R→
  wpAny (model X.prog X.w) X.A (eval iter X.env) (fun v s1=>wpAny (model X.prog X.w) X.A (pyIter v) (Fq X pins σ tg R) X.xe s1) X.xe s
theorem vZ{M:Model}{A:Around}{E:Value→Shared→Prop}{s:Shared}{tg:Expr}{it:Addr}{u:Value}{o:Obj}{n:String}{vs:Array Value}{Q:Unit→Shared→Prop}(ho:s.heap.get? it=some o)(hc:o.cls= .type n)(hd:o.data= .fields vs)
 (hn: ["enumerate","zip","dict_itemiterator","dict_reverseitemiterator","odict_iterator","itertools.zip_longest","itertools.pairwise"].contains n=false) (hQ:Q () s):wpAny M A (letOwnedTupleGo tg (.ref it) u) Q E s:=by
 unfold letOwnedTupleGo
 cases tg<;>first
  |exact wpAny_pure hQ
  |(cases u<;>first
     |exact wpAny_pure hQ
     |(refine wpAny_bind (wpAny_load ho ?_)
       rw[hc,hd]
       show wpAny M A (if(["enumerate","zip","dict_itemiterator","dict_reverseitemiterator","odict_iterator","itertools.zip_longest","itertools.pairwise"].contains n&&vs[0]?==some (rawInt _))=true then _ else _) Q E s
       rw[if_neg (by intro h;rw[hn,Bool.false_and]at h;cases h)]
       exact wpAny_pure hQ))
noncomputable def Jf(K:PySem.W.Frag)(a:Addr):It:=
 ⟨fun i H=>∃xs x,mr K H a xs∧xs[i]?=some x,fun i H x H'=>H'=H∧∀xs,mr K H a xs→xs[i]?=some x,fun i H=>∃xs,mr K H a xs∧xs.length≤i⟩
noncomputable def KR(K:PySem.W.Frag)(a:Addr):It:=
 ⟨fun i H=>∃xs x,jj K H a xs∧xs[i]?=some x,fun i H x H'=>H'=H∧∀xs,jj K H a xs→xs[i]?=some x,fun i H=>∃xs,jj K H a xs∧xs.length≤i⟩
noncomputable def vw(lo:Int)(n:Nat):It:=⟨fun i _=>i<n,fun i H x H'=>H'=H∧x= .int (lo+i),fun i _=>n≤i⟩
theorem BX{P:Program}{w:World}{K:PySem.W.Frag}{tg:Expr}(a it:Addr):Turn P w K tg (Jf K a) [it] it (fun i h=>h.IsListIter it a i) where
 mem:=by simp
 obj:=fun i h st b hb=>by
  have e:b=it:=by simpa using hb
  subst e
  obtain⟨o,e,c,d⟩:=st
  exact⟨o,e,fun v z=>by rw[d]at z;cases z⟩
 keep:=fun i h h' st k=>st.at fun o e=>k it (by simp) o e
 item:=by
  intro X hP hw hK hc i pins s σ H E I hf st hg
  subst hP hw hK
  obtain⟨xs,x,hq,hx⟩:=hg
  obtain⟨its,rv,p,hz⟩:=I.list hq
  obtain⟨u,hu,ru⟩:=rv.get hx
  obtain⟨f0,f1,f2,f3,f4,f5⟩:=hf it (by simp)
  refine wpAny_pyNext_list_item st p.isList (x:=u) (by simpa using hu) fun h' st' sb=>?_
  have I1:Inv X pins σ H {s with heap:=h'}:=I.turned (t':=s.toks) (fun b o hb e=>(sb.2 b hb).trans e) f0 f1 f3 f4 f5
  obtain⟨o,e,c,d⟩:=id st'
  exact⟨u,rfl,vZ (s:={s with heap:=h'}) e c d (by decide) ⟨x,H,I1,ru,⟨rfl,fun ys hy=>by rw[I.w6 hy hq];exact hx⟩,st',fun b hb=>(hf b hb).1⟩⟩
 done:=by
  intro X hP hw hK hc i pins s σ H E I hf st hg
  subst hP hw hK
  obtain⟨xs,hq,hx⟩:=hg
  obtain⟨its,rv,p,hz⟩:=I.list hq
  obtain⟨f0,f1,f2,f3,f4,f5⟩:=hf it (by simp)
  have hl:=rv.length
  exact wpAny_pyNext_list_end (I.ok.hd hc) st p.isList (by simp;omega) fun h' eb=>⟨rfl,I.turned (t':=s.toks) (fun b o hb e=>eb b o hb e) f0 f1 f3 f4 f5⟩
 self:=fun _ _ _ _ _ st h=>wpAny_pyIter_listiter st h
theorem Ay{P:Program}{w:World}{K:PySem.W.Frag}{tg:Expr}(a it:Addr):Turn P w K tg (KR K a) [it] it (fun i h=>h.IsTupleIter it a i) where
 mem:=by simp
 obj:=fun i h st b hb=>by
  have e:b=it:=by simpa using hb
  subst e
  obtain⟨o,e,c,d⟩:=st
  exact⟨o,e,fun v z=>by rw[d]at z;cases z⟩
 keep:=fun i h h' st k=>st.at fun o e=>k it (by simp) o e
 item:=by
  intro X hP hw hK hc i pins s σ H E I hf st hg
  subst hP hw hK
  obtain⟨xs,x,hq,hx⟩:=hg
  obtain⟨its,rv,p,hz⟩:=I.tuple hq
  obtain⟨u,hu,ru⟩:=rv.get hx
  obtain⟨f0,f1,f2,f3,f4,f5⟩:=hf it (by simp)
  refine wpAny_pyNext_tuple_item st (show s.heap.IsTuple a its.toArray from p) (x:=u) (by simpa using hu) fun h' st' sb=>?_
  have I1:Inv X pins σ H {s with heap:=h'}:=I.turned (t':=s.toks) (fun b o hb e=>(sb.2 b hb).trans e) f0 f1 f3 f4 f5
  obtain⟨o,e,c,d⟩:=id st'
  exact⟨u,rfl,vZ (s:={s with heap:=h'}) e c d (by decide) ⟨x,H,I1,ru,⟨rfl,fun ys hy=>by rw[I.vd hy hq];exact hx⟩,st',fun b hb=>(hf b hb).1⟩⟩
 done:=by
  intro X hP hw hK hc i pins s σ H E I hf st hg
  subst hP hw hK
  obtain⟨xs,hq,hx⟩:=hg
  obtain⟨its,rv,p,hz⟩:=I.tuple hq
  obtain⟨f0,f1,f2,f3,f4,f5⟩:=hf it (by simp)
  have hl:=rv.length
  exact wpAny_pyNext_tuple_end (I.ok.hd hc) st (show s.heap.IsTuple a its.toArray from p) (by simp;omega) fun h' eb=>⟨rfl,I.turned (t':=s.toks) (fun b o hb e=>eb b o hb e) f0 f1 f3 f4 f5⟩
 self:=fun _ _ _ _ _ st h=>wpAny_pyIter_tupleiter st h
theorem Ai{P:Program}{w:World}{K:PySem.W.Frag}{tg:Expr}(it:Addr)(lo:Int)(n:Nat):Turn P w K tg (vw lo n) [it] it (fun i h=>IsRangeIter h it (lo+(i:Nat)*1) ((n:Int)-(i:Nat)) 1) where
 mem:=by simp
 obj:=fun i h st b hb=>by
  have e:b=it:=by simpa using hb
  subst e
  exact⟨_,st,fun v z=>by
   have z':Data.fields _=Data.cell v:=z
   cases z'⟩
 keep:=fun i h h' st k=>k it (by simp) _ st
 item:=by
  intro X hP hw hK hc i pins s σ H E I hf st hg
  subst hP hw hK
  obtain⟨f0,f1,f2,f3,f4,f5⟩:=hf it (by simp)
  have W:=Walks.range (prog:=X.prog) (w:=X.w) (I.ok.hd hc) it lo 1 n
  refine W.item i s _ _ hg st fun v h' tk hv st' kk=>?_
  obtain⟨t,rfl⟩:=hv
  have I1:Inv X pins σ H {s with heap:=h',toks:=tk}:=I.turned (fun b o hb e=>kk b o (by simpa using hb) e) f0 f1 f3 f4 f5
  refine⟨_,rfl,vZ (s:={s with heap:=h',toks:=tk}) (n:="range_iterator") st' rfl rfl (by decide) ⟨.int (lo+i),H,I1,⟨t,?_⟩,⟨rfl,rfl⟩,st',fun b hb=>(hf b hb).1⟩⟩
  rw[Int.mul_one]
 done:=by
  intro X hP hw hK hc i pins s σ H E I hf st hg
  subst hP hw hK
  obtain⟨f0,f1,f2,f3,f4,f5⟩:=hf it (by simp)
  exact wpAny_pyNext_range_end (I.ok.hd hc) st (by have:n≤i:=hg;omega) fun h' eb=>⟨rfl,I.turned (t':=s.toks) (fun b o hb e=>eb b o hb e) f0 f1 f3 f4 f5⟩
 self:=fun _ _ _ _ _ st h=>wpAny_pyIter_rangeiter st h
end L2
namespace L2
open PySem PySem.Spec PyProof.Rows
section
variable {X:Cx}{tg:Expr}
theorem yn{pins:List (Addr×Obj)}{σ:St}{H:Hp}{s:Shared}{R:It→Hp→Prop}{E:Value→Shared→Prop}{lo hi:Int}{t u v:Tok}{tk:Nat}(I:Inv X pins σ H s)(h1: -(2^62)≤lo)(h2:lo<2^62)(h3: -(2^62)≤hi)(h4:hi<2^62)
 (q:R (vw lo (hi-lo).toNat) H):wpAny (model X.prog X.w) X.A (pyIter (.ref s.heap.objs.size)) (Fq X pins σ tg R) E {s with heap:=s.heap.push {cls:= .type "range",data:= .fields #[.int lo t,.int hi u,.int 1 v]},toks:=tk}:=by
 refine wpAny_pyIter_range (IsRange.new ..) (small_one h1 h2 h3 h4) ?_
 have I1:Inv X pins σ H {s with heap:=s.heap.push {cls:= .type "range",data:= .fields #[.int lo t,.int hi u,.int 1 v]},toks:=tk}:=I.kept fun b o e=>Heap.get?_push_of_some _ e
 refine⟨(s.heap.push {cls:= .type "range",data:= .fields #[.int lo t,.int hi u,.int 1 v]}).objs.size,[(s.heap.push {cls:= .type "range",data:= .fields #[.int lo t,.int hi u,.int 1 v]}).objs.size],_,_,H,rfl,
  I1.kept (t':=tk) fun b o e=>Heap.get?_push_of_some _ e,Ai _ lo (hi-lo).toNat,?_,fun b hb=>?_,q⟩
 · have e1:lo+((0:Nat):Int)*1=lo:=by simp
   have e2:(((hi-lo).toNat:Nat):Int)-((0:Nat):Int)=Builtin.Range.rangeSize lo hi 1:=by rw[rangeSize_one];split<;>omega
   show IsRangeIter _ _ (lo+((0:Nat):Int)*1) ((((hi-lo).toNat:Nat):Int)-((0:Nat):Int)) 1
   rw[e1,e2]
   exact Heap.get?_push_size _ rfl
 · have e:b=(s.heap.push {cls:= .type "range",data:= .fields #[.int lo t,.int hi u,.int 1 v]}).objs.size:=by simpa using hb
   subst e
   exact I1.sQ (Nat.le_refl _) (I1.aM.fresh (Nat.le_refl _))
noncomputable def zU(ta:TA):TI:=fun σ H R=>ta σ H fun vs H1=>∃j:Int,vs=[.int j]∧ -(2^62)≤j∧j<2^62∧R (vw 0 j.toNat) H1
noncomputable def AL(ta:TA):TI:=fun σ H R=>ta σ H fun vs H1=>∃i j:Int,vs=[.int i,.int j]∧(-(2^62)≤i∧i<2^62∧ -(2^62)≤j∧j<2^62)∧R (vw i (j-i).toNat) H1
theorem BJ{a:Expr}{ta:TA}{p pos:Pos}(hg:Gl X "range")(hm:X.mg "range"=none)(ha:PA X [a] ta)(hs:starEach [a] X.env=[(false,eval a X.env)]:=by rfl):PI X tg (.Call (.Name "range" p) [a] [] pos) (zU ta):=by
 intro pins s σ H R I h
 refine Call_ (kG I hg hm boot_range (PyProof.Rows.callWith_type1 (cv (ha pos pins s σ H _ I h) fun us s1 ⟨vs,H1,I1,r1,q1⟩=>?_) hs rfl))
 obtain⟨j,e,q1,q2,q⟩:=q1
 subst e
 cases r1 with
 |cons r rr=>
  cases rr
  obtain⟨t,rfl⟩:=r
  exact call_range_1 (yn I1 (by omega) (by omega) q1 q2 (by simpa using q))
theorem CS{a b:Expr}{ta:TA}{p pos:Pos}(hg:Gl X "range")(hm:X.mg "range"=none)(ha:PA X [a,b] ta)(hs:starEach [a,b] X.env=[(false,eval a X.env),(false,eval b X.env)]:=by rfl)(hs2:starEach [b] X.env=[(false,eval b X.env)]:=by rfl):
 PI X tg (.Call (.Name "range" p) [a,b] [] pos) (AL ta):=by
 intro pins s σ H R I h
 refine Call_ (kG I hg hm boot_range (PyProof.Rows.callWith_type1 (cv (ha pos pins s σ H _ I h) fun us s1 ⟨vs,H1,I1,r1,q1⟩=>?_) (by rw[hs,hs2]) (by rw[hs2];rfl)))
 obtain⟨i,j,e,⟨q1,q2,q3,q4⟩,q⟩:=q1
 subst e
 cases r1 with
 |cons r rr=>
  cases rr with
  |cons r' rr=>
   cases rr
   obtain⟨t,rfl⟩:=r
   obtain⟨t',rfl⟩:=r'
   exact call_range_2 (yn I1 q1 q2 q3 q4 q)
noncomputable def Ih(wi:TI)(g:TG)(tb:TS):TS:=fun D σ H=>wi σ H fun J H1=>∃W:Nat→Nat→St→Hp→Prop,(∃m,W 0 m σ H1)∧∀i m σ H,W i m σ H→
 (J.stop i H∧D.nx σ H)∨(J.go i H∧∃N:St→Hp→Prop,(∀σ' H',N σ' H'→∃m',m'<m∧W (i+1) m' σ' H')∧∀x H',J.oo i H x H'→g x σ H' fun σ2 H2=>tb {D with nx:=N,ct:=N,bk:=D.nx} σ2 H2)
noncomputable def qi(fp:List Addr)(h:Heap):List (Addr×Obj):=fp.filterMap fun b=>(h.get? b).map fun o=>(b,o)
theorem mV{fp:List Addr}{h:Heap}{b:Addr}{o:Obj}(hb:b∈fp)(e:h.get? b=some o):(b,o)∈qi fp h:=List.mem_filterMap.mpr ⟨b,hb,by rw[e];rfl⟩
theorem B9{fp:List Addr}{h:Heap}{p:Addr×Obj}(hp:p∈qi fp h):p.1∈fp∧h.get? p.1=some p.2:=by
 obtain⟨b,hb,e⟩:=List.mem_filterMap.mp hp
 cases q:h.get? b with
 |none=>rw[q]at e;cases e
 |some o=>
  rw[q]at e
  have e':(b,o)=p:=Option.some.inj e
  subst e'
  exact⟨hb,q⟩
theorem Inv.pinned{pins:List (Addr×Obj)}{σ:St}{H:Hp}{s:Shared}{fp:List Addr}(I:Inv X pins σ H s)(hf:∀b∈fp,lb X pins H b)(ho:∀b∈fp,∃o,s.heap.get? b=some o∧∀v,o.data≠ .cell v):Inv X (pins++qi fp s.heap) σ H s:=
 I.rD fun p hp=>(List.mem_append.mp hp).elim (fun z=>I.pin p (List.mem_append_right _ z)) fun z=>by
  obtain⟨hb,e⟩:=B9 z
  obtain⟨f0,f1,f2,_⟩:=hf p.1 hb
  obtain⟨o,e',d⟩:=ho p.1 hb
  rw[e]at e';cases e'
  exact⟨e,f0,f1,f2,d⟩
theorem Inv.iJ{pins pl:List (Addr×Obj)}{σ:St}{H:Hp}{s:Shared}(I:Inv X (pins++pl) σ H s):Inv X pins σ H s:=I.rD fun p hp=>I.pin p (List.mem_append_right _ (List.mem_append_left _ hp))
theorem J9{iter:Expr}{body:List Stmt}{wi:TI}{g:TG}{tb:TS}{pos:Pos}(hp:PassesOwn (model X.prog X.w) X.A X.env X.xe)(hc:X.calm=true)(hi:PI X tg iter wi)(hg:PG X tg g)(hb:iA X body tb)
 (hs:∀x,foldedSetIterable iter X.env x=pure x:=by intro _;rfl):PS X (.For tg iter body [] pos) (Ih wi g tb):=by
 intro pins s σ H D I h
 refine wpAny_For (cv (hi pins s σ H _ I h) fun v s1 h1=>cv h1 fun itv s2 h2=>?_) hs
 obtain⟨it,fp,tn,J,H2,e,I2,T,st2,f2,W,⟨m0,w0⟩,turn⟩:=h2
 subst e
 have stat:∀ {H':Hp},(∀b∈fp,H' b=none)→∀b∈fp,lb X pins H' b:=fun hn b hb=>⟨hn b hb,(f2 b hb).2⟩
 refine codeAny_forLoop_any (fun n s'=>∃i σ' H',Inv X pins σ' H' s'∧tn i s'.heap∧(∀b∈fp,H' b=none)∧W i n σ' H') ?_ m0 ⟨0,σ,H2,I2,st2,fun b hb=>(f2 b hb).1,w0⟩
 rintro n s3 ⟨i,σ3,H3,I3,st3,fr3,w3⟩
 rcases turn i n σ3 H3 w3 with⟨stop,qn⟩|⟨go,N,hN,step⟩
 · refine wpAny_passesOwn hp (cv (T.done X rfl rfl rfl hc i pins s3 σ3 H3 X.xe I3 (stat fr3) st3 stop) fun r s4 ⟨hr,I4⟩=>?_)
   subst hr
   exact wpAny_execs_nil ⟨σ3,H3,I4,qn⟩
 · refine wpAny_passesOwn hp (cv (T.item X rfl rfl rfl hc i pins s3 σ3 H3 X.xe I3 (stat fr3) st3 go) fun r s4 ⟨u,hr,h4⟩=>?_)
   subst hr
   refine wpAny_passesOwn hp (cv h4 fun _ s5 ⟨x,H5,I5,r5,y5,st5,fr5⟩=>?_)
   have I5':=I5.pinned (stat fr5) (T.obj _ _ st5)
   refine wpAny_passesOwn hp (cv (hg _ s5 σ3 H5 x u _ I5' r5 (step x H5 y5)) fun _ s6 ⟨σ6,H6,I6,q6⟩=>?_)
   refine wpAny_passesOwn hp (cv (hb _ s6 σ6 H6 _ I6 q6) fun f s7 q7=>?_)
   have again:∀ {σ7:St} {H7:Hp},Inv X (pins++qi fp s5.heap) σ7 H7 s7→N σ7 H7→∃m,m<n∧∃i σ' H',Inv X pins σ' H' s7∧tn i s7.heap∧(∀b∈fp,H' b=none)∧W i m σ' H':=fun{σ7 H7} I7 n7=>by
    obtain⟨m',hm,w7⟩:=hN σ7 H7 n7
    refine⟨m',hm,i+1,σ7,H7,I7.iJ,T.keep _ _ _ st5 fun b hb o e=>(I7.pin (b,o) (List.mem_append_right _ (List.mem_append_right _ (mV hb e)))).1,fun b hb=>?_,w7⟩
    obtain⟨o,e,d⟩:=T.obj _ _ st5 b hb
    exact(I7.pin (b,o) (List.mem_append_right _ (List.mem_append_right _ (mV hb e)))).2.1
   cases f with
   |next=>obtain⟨σ7,H7,I7,n7⟩:=q7;exact again I7 n7
   |cont=>obtain⟨σ7,H7,I7,n7⟩:=q7;exact again I7 n7
   |brk=>obtain⟨σ7,H7,I7,q7⟩:=q7;exact⟨σ7,H7,I7.iJ,q7⟩
   |ret v=>obtain⟨x7,σ7,H7,I7,r7,q7⟩:=q7;exact⟨x7,σ7,H7,I7.iJ,r7,q7⟩
end
theorem jf{lo:Int}{n:Nat}{g:TG}{tb:TS}{D:Ends}{σ:St}{H:Hp}(Pv:Nat→St→Hp→Prop)(h0:Pv 0 σ H)
 (hs:∀i σ H,i<n→Pv i σ H→g (.int (lo+i)) σ H fun σ2 H2=>tb {D with nx:=Pv (i+1),ct:=Pv (i+1),bk:=D.nx} σ2 H2) (hd:∀σ H,Pv n σ H→D.nx σ H):
 ∃W:Nat→Nat→St→Hp→Prop,(∃m,W 0 m σ H)∧∀i m σ H,W i m σ H→
  ((vw lo n).stop i H∧D.nx σ H)∨((vw lo n).go i H∧∃N:St→Hp→Prop,(∀σ' H',N σ' H'→∃m',m'<m∧W (i+1) m' σ' H')∧∀x H',(vw lo n).oo i H x H'→g x σ H' fun σ2 H2=>tb {D with nx:=N,ct:=N,bk:=D.nx} σ2 H2):=by
 refine⟨fun i m σ H=>m=n-i∧i≤n∧Pv i σ H,⟨n,by simp,Nat.zero_le _,h0⟩,?_⟩
 rintro i m σ H ⟨rfl,hi,p⟩
 by_cases hlt:i<n
 · refine .inr ⟨hlt,Pv (i+1),fun σ' H' p'=>⟨n-(i+1),by omega,rfl,hlt,p'⟩,fun x H' y=>?_⟩
   obtain⟨e,y⟩:=y
   subst e y
   exact hs i σ _ hlt p
 · have e:i=n:=by omega
   subst e
   exact .inl ⟨Nat.le_refl _,hd σ H p⟩
end L2
namespace L2
open PySem PySem.Spec PyProof.Rows
noncomputable abbrev R2:=V→V→Hp→VK→Prop
noncomputable def cx(X:Cx)(f:Value→Value→Sem Value)(r:R2):Prop:=
 ∀(pins:List (Addr×Obj)) (s:Shared) (σ:St) (H:Hp) (x y:V) (v u:Value) (Q:VK),Inv X pins σ H s→RelV x v→RelV y u→r x y H Q→
  wpAny (model X.prog X.w) X.A (f v u) (EP X pins σ Q) X.xe s
noncomputable def zu(X:Cx)(f:Value→Sem Value)(r:V→Hp→VK→Prop):Prop:=
 ∀(pins:List (Addr×Obj)) (s:Shared) (σ:St) (H:Hp) (x:V) (v:Value) (Q:VK),Inv X pins σ H s→RelV x v→r x H Q→
  wpAny (model X.prog X.w) X.A (f v) (EP X pins σ Q) X.xe s
noncomputable def b_(X:Cx)(f:Value)(r:List V→Hp→VK→Prop):Prop:=
 ∀(pins:List (Addr×Obj)) (s:Shared) (σ:St) (H:Hp) (xs:List V) (us:List Value) (Q:VK),Inv X pins σ H s→Vals xs us→r xs H Q→
  wpAny (model X.prog X.w) X.A (call f us) (EP X pins σ Q) X.xe s
noncomputable def CW(r:R2)(ta tb:TE):TE:=fun σ H Q=>ta σ H fun x H1=>tb σ H1 fun y H2=>r x y H2 Q
noncomputable def MK(r:V→Hp→VK→Prop)(ta:TE):TE:=fun σ H Q=>ta σ H fun x H1=>r x H1 Q
noncomputable def rI(C:Int→Int→Prop)(g:Int→Int→V):R2:=fun x y H Q=>∃i j,x= .int i∧y= .int j∧C i j∧Q (g i j) H
noncomputable def vI(g:Int→Int→V):R2:=fun x y H Q=>∃i j,x= .int i∧y= .int j∧Q (g i j) H
noncomputable def rU(g:Int→V):V→Hp→VK→Prop:=fun x H Q=>∃i,x= .int i∧Q (g i) H
section
variable {X:Cx}{a b c:Expr}{ta tb tc:TE}{pos:Pos}
theorem Ec(ha:PE X a ta)(hb:PE X b tb){pins:List (Addr×Obj)}{s:Shared}{σ:St}{H:Hp}{R:V→V→Hp→Prop}(I:Inv X pins σ H s)
 (h:ta σ H fun x H1=>tb σ H1 fun y H2=>R x y H2) {Q:Value→Shared→Prop} {f:Value→Value→Sem Value}
 (hf:∀v u s2 x y H2,Inv X pins σ H2 s2→RelV x v→RelV y u→R x y H2→wpAny (model X.prog X.w) X.A (f v u) Q X.xe s2):
 wpAny (model X.prog X.w) X.A (eval a X.env) (fun v s₁=>wpAny (model X.prog X.w) X.A (eval b X.env) (fun u s₂=>wpAny (model X.prog X.w) X.A (f v u) Q X.xe s₂) X.xe s₁) X.xe s:=by
 refine cv (ha pins s σ H _ I h) fun v s1 ⟨x,H1,I1,r1,q1⟩=>?_
 refine cv (hb pins s1 σ H1 _ I1 q1) fun u s2 ⟨y,H2,I2,r2,q2⟩=>?_
 exact hf v u s2 x y H2 I2 r1 r2 q2
theorem Lb{op:Operator}{r:R2}(ho:cx X (binaryOp op) r)(ha:PE X a ta)(hb:PE X b tb):PE X (.BinOp a op b pos) (CW r ta tb):=by
 intro pins s σ H Q I h
 exact wpAny_BinOp (Ec ha hb I h fun v u s2 x y H2 I2 rx ry q=>ho pins s2 σ H2 x y v u Q I2 rx ry q)
theorem Mj{op:UnaryOp}{r:V→Hp→VK→Prop}(ho:zu X (unaryOp op) r)(ha:PE X a ta):PE X (.UnaryOp op a pos) (MK r ta):=by
 intro pins s σ H Q I h
 exact UnaryOp_ (cv (ha pins s σ H _ I h) fun v s1 ⟨x,H1,I1,r1,q1⟩=>ho pins s1 σ H1 x v Q I1 r1 q1)
theorem FD{f:Value→Value→Sem Value}{C:Int→Int→Prop}{g:Int→Int→Int}
 (rule:∀(i j:Int) (t u:Tok) (s:Shared) (Q:Value→Shared→Prop) (E:Value→Shared→Prop),C i j→Q (.int (g i j) s.toks) {s with toks:=s.toks+1}→wpAny (model X.prog X.w) X.A (f (.int i t) (.int j u)) Q E s):
 cx X f (rI C fun i j=> .int (g i j)):=by
 intro pins s σ H x y v u Q I rx ry h
 obtain⟨i,j,rfl,rfl,hc,q⟩:=h
 obtain⟨t,rfl⟩:=rx
 obtain⟨t',rfl⟩:=ry
 exact rule i j t t' s _ _ hc ⟨.int (g i j),H,I.tok _,⟨_,rfl⟩,q⟩
theorem JN{f:Value→Value→Sem Value}{g:Int→Int→Int}
 (rule:∀(i j:Int) (t u:Tok) (s:Shared) (Q:Value→Shared→Prop) (E:Value→Shared→Prop),Q (.int (g i j) s.toks) {s with toks:=s.toks+1}→wpAny (model X.prog X.w) X.A (f (.int i t) (.int j u)) Q E s):
 cx X f (vI fun i j=> .int (g i j)):=by
 intro pins s σ H x y v u Q I rx ry h
 obtain⟨i,j,rfl,rfl,q⟩:=h
 obtain⟨t,rfl⟩:=rx
 obtain⟨t',rfl⟩:=ry
 exact rule i j t t' s _ _ ⟨.int (g i j),H,I.tok _,⟨_,rfl⟩,q⟩
theorem EL{f:Value→Value→Sem Value}{g:Int→Int→Bool}
 (rule:∀(i j:Int) (t u:Tok) (s:Shared) (Q:Value→Shared→Prop) (E:Value→Shared→Prop),Q (.bool (g i j)) s→wpAny (model X.prog X.w) X.A (f (.int i t) (.int j u)) Q E s):
 cx X f (vI fun i j=> .bl (g i j)):=by
 intro pins s σ H x y v u Q I rx ry h
 obtain⟨i,j,rfl,rfl,q⟩:=h
 obtain⟨t,rfl⟩:=rx
 obtain⟨t',rfl⟩:=ry
 exact rule i j t t' s _ _ ⟨.bl (g i j),H,I,rfl,q⟩
noncomputable def EG(i j:Int):Prop:=0≤j∧j≤1000000∧i.natAbs<2^64
theorem Km:cx X (binaryOp .Add) (vI fun i j=> .int (i+j)):=JN fun _ _ _ _ _ _ _ q=>add_int q
theorem Kj:cx X (binaryOp .Sub) (vI fun i j=> .int (i-j)):=JN fun _ _ _ _ _ _ _ q=>sub_int q
theorem HV:cx X (binaryOp .Mod) (rI (fun _ j=>j≠0) fun i j=> .int (i.fmod j)):=FD fun _ _ _ _ _ _ _ hc q=>mod_int' hc q
theorem JR:cx X (binaryOp .Pow) (rI EG fun i j=> .int (i^j.toNat)):=FD fun _ _ _ _ _ _ _ hc q=>pow_int_small hc.1 hc.2.1 hc.2.2 q
theorem NT{f:Value→Sem Value}{g:Int→Int}
 (rule:∀(i:Int) (t:Tok) (s:Shared) (Q:Value→Shared→Prop) (E:Value→Shared→Prop),Q (.int (g i) s.toks) {s with toks:=s.toks+1}→wpAny (model X.prog X.w) X.A (f (.int i t)) Q E s):
 zu X f (rU fun i=> .int (g i)):=by
 intro pins s σ H x v Q I rx h
 obtain⟨i,rfl,q⟩:=h
 obtain⟨t,rfl⟩:=rx
 exact rule i t s _ _ ⟨.int (g i),H,I.tok _,⟨_,rfl⟩,q⟩
theorem JP:zu X (unaryOp .USub) (rU fun i=> .int (-i)):=NT fun _ _ _ _ _ q=>neg_int q
end
noncomputable def MS:V→V→Bool
 | .aH,.aH=>true| .aH,.int _=>true| .int _,.aH=>true| .aH,.bl _=>true| .bl _,.aH=>true| .aH,.str _=>true| .str _,.aH=>true
 | .int _,.int _=>true| .bl _,.bl _=>true| .str _,.str _=>true| .sf _,.sf _=>true
 | .int _,.str _=>true| .str _,.int _=>true| .bl _,.str _=>true| .str _,.bl _=>true
 |_,_=>false
noncomputable def ND:R2:=fun x y H Q=>MS x y=true∧Q (.bl (!decide (x=y))) H
theorem Hi{i j:Int}:decide (V.int i=V.int j)=(i==j):=by
 rw[Bool.eq_iff_iff]
 simp
theorem Jb{i j:Bool}:decide (V.bl i=V.bl j)=(i==j):=by
 rw[Bool.eq_iff_iff]
 simp
theorem Gg{i j:Str}:decide (V.str i=V.str j)=(i==j):=by
 rw[Bool.eq_iff_iff]
 simp
theorem GL{i j:Array UInt8}:decide (V.sf i=V.sf j)=(i.toList==j.toList):=by
 rw[Bool.eq_iff_iff]
 cases i
 cases j
 simp
section
variable {X:Cx}{a b c:Expr}{ta tb tc:TE}{pos:Pos}
theorem fN{pins:List (Addr×Obj)}{σ:St}{H:Hp}{s:Shared}{Q:VK}{k k':Bool}(I:Inv X pins σ H s)(q:Q (.bl k) H)(e:k=k'):EP X pins σ Q (.bool k') s:=by
 subst e
 exact⟨.bl k,H,I,rfl,q⟩
theorem Ms:cx X (compareOp .NotEq) ND:=by
 intro pins s σ H x y v u Q I rx ry h
 obtain⟨hs,q⟩:=h
 cases x with
 |aH=>
  cases rx
  cases y with
  |aH=>cases ry;exact PySem.EqNone.ne_none_none (fN I q (by simp))
  |bl j=>cases ry;exact PySem.EqNone.ne_none_bool (fN I q (by simp))
  |int j=>obtain⟨t',rfl⟩:=ry;exact PySem.EqNone.ne_none_int (fN I q (by simp))
  |str j=>obtain⟨t',rfl⟩:=ry;exact PySem.EqNone.ne_none_str (fN I q (by simp))
  |_=>exact absurd (show false=true from hs) Bool.false_ne_true
 |bl i=>
  cases rx
  cases y with
  |aH=>cases ry;exact PySem.EqNone.ne_bool_none (fN I q (by simp))
  |bl j=>cases ry;exact ne_bool (fN I q (congrArg not Jb))
  |str j=>obtain⟨t',rfl⟩:=ry;exact PySem.EqMixed.ne_bool_str (fN I q (by simp))
  |_=>exact absurd (show false=true from hs) Bool.false_ne_true
 |int i=>
  obtain⟨t,rfl⟩:=rx
  cases y with
  |aH=>cases ry;exact PySem.EqNone.ne_int_none (fN I q (by simp))
  |int j=>obtain⟨t',rfl⟩:=ry;exact ne_int (fN I q (congrArg not Hi))
  |str j=>obtain⟨t',rfl⟩:=ry;exact PySem.EqMixed.ne_int_str (fN I q (by simp))
  |_=>exact absurd (show false=true from hs) Bool.false_ne_true
 |str i=>
  obtain⟨t,rfl⟩:=rx
  cases y with
  |aH=>cases ry;exact PySem.EqNone.ne_str_none (fN I q (by simp))
  |bl j=>cases ry;exact PySem.EqMixed.ne_str_bool (fN I q (by simp))
  |int j=>obtain⟨t',rfl⟩:=ry;exact PySem.EqMixed.ne_str_int (fN I q (by simp))
  |str j=>obtain⟨t',rfl⟩:=ry;exact ne_str (fN I q (congrArg not Gg))
  |_=>exact absurd (show false=true from hs) Bool.false_ne_true
 |sf i=>
  obtain⟨t,rfl⟩:=rx
  cases y with
  |sf j=>obtain⟨t',rfl⟩:=ry;exact PySem.W.ne_bytes (fN I q (congrArg not GL))
  |_=>exact absurd (show false=true from hs) Bool.false_ne_true
 |_=>cases y<;>exact absurd (show false=true from hs) Bool.false_ne_true
theorem L6:cx X (compareOp .Lt) (vI fun i j=> .bl (decide (i<j))):=EL fun _ _ _ _ _ _ _ q=>lt_int q
theorem Mb:cx X (compareOp .Gt) (vI fun i j=> .bl (decide (j<i))):=EL fun _ _ _ _ _ _ _ q=>gt_int q
theorem Mo:cx X (compareOp .GtE) (vI fun i j=> .bl (decide (j≤i))):=EL fun _ _ _ _ _ _ _ q=>ge_int q
theorem GZ:cx X (compareOp .IsNot) (fun x y H Q=>y= .aH∧Q (.bl (!decide (x= .aH))) H):=by
 intro pins s σ H x y v u Q I rx ry h
 obtain⟨rfl,q⟩:=h
 cases ry
 refine isnot_none_gen (fN I q ?_)
 cases x<;>first
  |(cases rx;rfl)
  |(obtain⟨t,rfl⟩:=rx;rfl)
theorem cw(b:Expr){op:CmpOp}(h:op≠ .In:=by decide)(h2:op≠ .NotIn:=by decide):behindInMarks op b=false:=by
 have e1:(op==CmpOp.In)=false:=by cases op<;>first|rfl|exact absurd rfl h
 have e2:(op==CmpOp.NotIn)=false:=by cases op<;>first|rfl|exact absurd rfl h2
 cases b<;>simp[behindInMarks,e1,e2]
theorem Hl{op:CmpOp}{r:R2}(ho:cx X (compareOp op) r)(ha:PE X a ta)(hb:PE X b tb)(hm:behindInMarks op b=false):PE X (.Compare a [op] [b] pos) (CW r ta tb):=by
 intro pins s σ H Q I h
 exact wpAny_Compare1 (Ec ha hb I h fun v u s2 x y H2 I2 rx ry q=>ho pins s2 σ H2 x y v u Q I2 rx ry q) hm
noncomputable def L4(t:TE):TT:=fun σ H Q=>t σ H fun x H'=>∃k,x= .bl k∧Q k H'
theorem G_{op:CmpOp}{r:R2}(ho:cx X (compareOp op) r)(ha:PE X a ta)(hb:PE X b tb)(hm:behindInMarks op b=false):PT X (.Compare a [op] [b] pos) (L4 (CW r ta tb)):=by
 intro pins s σ H Q I h
 refine wpAny_isTrue_Compare1 (cv (ha pins s σ H _ I h) fun v s1 ⟨x,H1,I1,r1,q1⟩=>cv (hb pins s1 σ H1 _ I1 q1) fun u s2 ⟨y,H2,I2,r2,q2⟩=>
  cv (ho pins s2 σ H2 x y v u _ I2 r1 r2 q2) fun c s3 ⟨z,H3,I3,r3,k,e,q3⟩=>?_) hm
 subst e
 cases r3
 exact wpAny_truthy_bool ⟨H3,I3,q3⟩
theorem qw:(sizeLine:Nat)<2^63:=by rw[sizeLine_eq];decide
theorem zZ:cx X (binaryOp .Add) (fun x y H Q=>∃i j,x= .str i∧y= .str j∧i.length+j.length≤sizeLine∧Q (.str (i++j)) H):=by
 intro pins s σ H x y v u Q I rx ry h
 obtain⟨i,j,rfl,rfl,hz,q⟩:=h
 obtain⟨t,rfl⟩:=rx
 obtain⟨t',rfl⟩:=ry
 exact add_str (fun t' tk=>⟨.str (i++j),H,I.tok _,⟨_,rfl⟩,q⟩) hz
theorem vals1{x:V}{us:List Value}(r:Vals [x] us):∃u,us=[u]∧RelV x u:=by
 cases r with
 |cons r1 r2=>cases r2;exact⟨_,rfl,r1⟩
theorem vals2{x y:V}{us:List Value}(r:Vals [x,y] us):∃u w',us=[u,w']∧RelV x u∧RelV y w':=by
 cases r with
 |cons r1 r2=>
  cases r2 with
  |cons r3 r4=>cases r4;exact⟨_,_,rfl,r1,r3⟩
theorem EM:b_ X (.builtin "abs") (fun xs H Q=>∃i,xs=[.int i]∧Q (.int (if i<0 then-i else i)) H):=by
 intro pins s σ H xs us Q I r h
 obtain⟨i,rfl,q⟩:=h
 obtain⟨u,rfl,t,rfl⟩:=vals1 r
 exact call_abs_int fun u tk=>⟨.int (if i<0 then-i else i),H,I.tok _,⟨_,rfl⟩,q⟩
theorem CD(hc:X.calm=true):b_ X (.builtin "max") (fun xs H Q=>∃i j,xs=[.int i,.int j]∧Q (.int (if j>i then j else i)) H):=by
 intro pins s σ H xs us Q I r h
 obtain⟨i,j,rfl,q⟩:=h
 obtain⟨u,w',rfl,⟨t,rfl⟩,⟨t',rfl⟩⟩:=vals2 r
 refine max_two_ints (I.ok.hd hc) fun h' tk k=>⟨_,H,I.kept k,?_,q⟩
 by_cases hj:j>i
 · rw[if_pos hj,if_pos hj];exact⟨_,rfl⟩
 · rw[if_neg hj,if_neg hj];exact⟨_,rfl⟩
theorem C0(hc:X.calm=true):b_ X (.builtin "min") (fun xs H Q=>∃i j,xs=[.int i,.int j]∧Q (.int (if j<i then j else i)) H):=by
 intro pins s σ H xs us Q I r h
 obtain⟨i,j,rfl,q⟩:=h
 obtain⟨u,w',rfl,⟨t,rfl⟩,⟨t',rfl⟩⟩:=vals2 r
 refine min_two_ints (I.ok.hd hc) fun h' tk k=>⟨_,H,I.kept k,?_,q⟩
 by_cases hj:j<i
 · rw[if_pos hj,if_pos hj];exact⟨_,rfl⟩
 · rw[if_neg hj,if_neg hj];exact⟨_,rfl⟩
theorem Bq:b_ X (.type "int") (fun xs H Q=>(∃i,xs=[.int i]∧Q (.int i) H)∨∃k,xs=[.bl k]∧Q (.int (if k then 1 else 0)) H):=by
 intro pins s σ H xs us Q I r h
 rcases h with⟨i,rfl,q⟩|⟨k,rfl,q⟩
 · obtain⟨u,rfl,t,rfl⟩:=vals1 r
   exact call_int_int ⟨.int i,H,I,⟨_,rfl⟩,q⟩
 · obtain⟨u,rfl,r1⟩:=vals1 r
   cases r1
   exact call_int_bool ⟨.int (if k then 1 else 0),H,I.tok _,⟨_,rfl⟩,q⟩
end
end L2
namespace L2
open PySem PySem.Spec PyProof.Rows
structure sO(h:Heap)(x dx C:Addr)(mA:Str→Option Value):Prop where
 obj:h.get? x=some (PySem.W.instObj C dx)
 ns:h.Ns1 dx mA
 ne:dx≠x
theorem Cs{h:Heap}{dx:Addr}{mA:Str→Option Value}(n:h.Ns1 dx mA):∃od,h.get? dx=some od∧∀name,PySem.W.lookIn name od=some (mA name):=by
 obtain⟨o,es,ep,ho,hd,hk,_,hm⟩:=n
 refine⟨o,ho,fun name=>?_⟩
 have e:=hm name
 unfold nsFind findBy at e
 rw[←Array.find?_toList]at e
 unfold PySem.W.lookIn
 rw[hd]
 dsimp only
 split
 · rename_i y q
   rw[q]at e
   exact congrArg some e
 · rename_i q
   rw[q]at e
   have a:es.toList.any (·.refKey)=false:=by
    rw[List.any_eq_false]
    intro y hy
    obtain⟨z,t,hkey⟩:=hk y (Array.mem_toList_iff.mp hy)
    simp[DictEntry.refKey,hkey]
   have a':¬es.toList.any (·.refKey)=true:=by rw[a];exact Bool.false_ne_true
   rw[if_neg a']
   exact congrArg some e
theorem sO.look{h:Heap}{x dx C:Addr}{mA:Str→Option Value}(I:sO h x dx C mA):∃od,PySem.W.InstAt h x (PySem.W.instObj C dx) C (some od)∧∀name,PySem.W.lookIn name od=some (mA name):=
 let⟨od,ho,hl⟩:=Cs I.ns
 ⟨od,⟨I.obj,rfl,rfl,ho⟩,hl⟩
section
variable {prog:Program}{w:World}{A:Around}{E:Value→Shared→Prop}{s:Shared}{K:PySem.W.Frag}{x dx C f:Addr}{mA:Str→Option Value}{name:Str}{v:Value}
theorem get_map{expr:Bool}{Q:Value→Shared→Prop}(X:K.In s.heap)(I:sO s.heap x dx C mA)(hg:PySem.W.plainGet K C name=true)(hh:PySem.W.hasDictIn K C=true)
 (ha:PySem.W.findIn K (.ref C) name=some none) (hv:mA name=some v) (hv':PySem.W.handedIn v=true) (h:Q v {s with toks:=s.toks+1}):
 wpAny (model prog w) A (getAttr (.ref x) name expr) Q E s:=by
 obtain⟨od,J,hl⟩:=I.look
 exact PySem.W.get_value X J (PySem.W.plainGet_of hg).1 (PySem.W.findObj_own hh ha rfl (by rw[hl,hv])) hv' h
theorem ER{pl:Sem Bool}{Q:Value×List Value→Shared→Prop}(X:K.In s.heap)(I:sO s.heap x dx C mA)(hg:PySem.W.plainGet K C name=true)
 (hf:PySem.W.findIn K (.ref C) name=some (some (.ref f))) (ht:PySem.W.isFn K (.ref f)=true) (hv:mA name=none) (h:Q (.ref f,[.ref x]) s):
 wpAny (model prog w) A (getMethod (.ref x) name pl) Q E s:=by
 obtain⟨od,J,hl⟩:=I.look
 exact PySem.W.method_fn X J (PySem.W.plainGet_of hg).1 (PySem.W.plainGet_of hg).2 hf (beq_iff_eq.mp ht) (by show(PySem.W.lookIn name od).map (·.isSome)=some false;rw[hl,hv];rfl) h
theorem iZ{ns:List Str}{Q:Unit→Shared→Prop}(X:K.In s.heap)(I:sO s.heap x dx C mA)
 (hs:PySem.W.findIn K (.ref C) "__setattr__"=some (some (.builtin "object.__setattr__"))) (hp:PySem.W.plainOver K C=true) (ht:PySem.W.takerIn K C name=some none) (hh:PySem.W.hasDictIn K C=true)
 (hw:PySem.Within mA ns) (hsz:ns.length≤sizeLine)
 (h:∀h',sO h' x dx C (fun y=>if y=name then some v else mA y)→Heap.SameBut dx s.heap h'→Q () {s with heap:=h',toks:=s.toks+2}):
 wpAny (model prog w) A (setAttr (.ref x) name v) Q E s:=by
 obtain⟨od,J,hl⟩:=I.look
 refine PySem.W.set_plain X J hs (PySem.W.osa_open (s:={s with toks:=s.toks+1}) (r:=none) X J hp ht fun b=>?_)
 obtain⟨cd,hc,hd'⟩:=PySem.W.any_some hh
 have hx:s.heap.get? x=some ⟨.ref C,some dx,.plain,#[]⟩:=I.obj
 refine wpAny_bind (wpAny_pure (wpAny_bind (wpAny_bind (wpAny_loadPart hx (wpAny_bind (PySem.W.Looks.here (s:={s with toks:=s.toks+1}) (PySem.W.looks_clsIn X hc) ?_))))))
 rw[hd']
 refine wpAny_pure (a:=some dx) (wpAny_bind (wpAny_pure (wpAny_bind ?_)))
 refine wpAny_nsSet1 (s:={s with toks:=s.toks+1}) I.ns fun h' hn2 hs2=>?_
 obtain⟨oD,esD,epD,hoD,hdD,hcD⟩:=hn2.count (PySem.Within.cons name v hw)
 refine wpAny_bind (wpAny_lookBehind hoD (by rw[hdD];exact pastItsLine_dict (Nat.le_trans hcD (by rw[List.length_cons];omega))) ?_)
 exact wpAny_pure (h _ ⟨(hs2.2 _ (Ne.symm I.ne)).trans I.obj,hn2,I.ne⟩ hs2)
theorem ES{R:Result→Shared→Prop}{vs:List Value}{kw:List (Str×Value)}(X:K.In s.heap)(hm:PySem.W.makesIn K C=true)
 (hi:PySem.W.findIn K (.ref C) "__init__"=some (some (.ref f))) (hf:PySem.W.typeIn K (.ref f)=some (.type "function"))
 (h:codeAny (model prog w) (A.under (.builtin "type.__call__" ⟨.ref C::vs,kw⟩)) (.call (.ref f) ⟨.ref (s.heap.objs.size+1)::vs,kw⟩) (PySem.W.InitBack (s.heap.objs.size+1) R)
   {s with heap:=(s.heap.push PySem.W.emptyDict).push (PySem.W.instObj C s.heap.objs.size)}):
 codeAny (model prog w) A (.call (.ref C) ⟨vs,kw⟩) R s:=by
 obtain⟨hh,g,d,t,os⟩:=s
 exact PySem.W.make_core (PySem.W.makes_of X hm) (PySem.W.looks_findIn X hi) (fun self=>PySem.W.bind_fn X self hf) (.inl rfl) h
end
noncomputable def h7(f:Str)(v:V):List (Str×V)→List (Str×V)
 | []=>[(f,v)]
 |(g,x)::r=>if g=f then(g,v)::r else(g,x)::h7 f v r
theorem r_(f g:Str)(v:V):∀fs:List (Str×V),(h7 f v fs).lookup g=if g=f then some v else fs.lookup g
 | []=>by
   show List.lookup g [(f,v)]=_
   by_cases h:g=f
   · have hb:(g==f)=true:=beq_iff_eq.mpr h
     simp only[List.lookup,hb,if_pos h]
   · have hb:(g==f)=false:=beq_eq_false_iff_ne.mpr h
     simp only[List.lookup,hb,if_neg h]
 |(k,x)::r=>by
  have ih:=r_ f g v r
  rw[show h7 f v ((k,x)::r)=(if k=f then(k,v)::r else(k,x)::h7 f v r)from rfl]
  by_cases hk:k=f
  · rw[if_pos hk]
    by_cases h:g=k
    · have hb:(g==k)=true:=beq_iff_eq.mpr h
      simp only[List.lookup,hb,if_pos (h.trans hk)]
    · have hb:(g==k)=false:=beq_eq_false_iff_ne.mpr h
      simp only[List.lookup,hb,if_neg (fun e:g=f=>h (e.trans hk.symm))]
  · rw[if_neg hk]
    by_cases h:g=k
    · have hb:(g==k)=true:=beq_iff_eq.mpr h
      simp only[List.lookup,hb,if_neg (fun e:g=f=>hk (h.symm.trans e))]
    · have hb:(g==k)=false:=beq_eq_false_iff_ne.mpr h
      simp only[List.lookup,hb]
      exact ih
theorem p_(f:Str)(v:V):∀fs:List (Str×V),f∈(h7 f v fs).map (·.1)∧∀g,g∈fs.map (·.1)→g∈(h7 f v fs).map (·.1)
 | []=>⟨by simp[h7],fun g h=>by simp at h⟩
 |(k,x)::r=>by
  obtain⟨i1,i2⟩:=p_ f v r
  rw[show h7 f v ((k,x)::r)=(if k=f then(k,v)::r else(k,x)::h7 f v r)from rfl]
  by_cases hk:k=f
  · rw[if_pos hk]
    subst hk
    exact⟨by simp,fun g h=>by simpa using h⟩
  · rw[if_neg hk]
    refine⟨?_,fun g h=>?_⟩
    · rw[List.map_cons]
      exact List.mem_cons_of_mem _ i1
    · rw[List.map_cons]at h⊢
      rcases List.mem_cons.mp h with e|e
      · exact List.mem_cons.mpr (.inl e)
      · exact List.mem_cons_of_mem _ (i2 g e)
theorem rW(f:Str)(v:V):∀fs:List (Str×V),(h7 f v fs).length≤fs.length+1
 | []=>by simp[h7]
 |(k,x)::r=>by
  have ih:=rW f v r
  rw[show h7 f v ((k,x)::r)=(if k=f then(k,v)::r else(k,x)::h7 f v r)from rfl]
  by_cases hk:k=f
  · rw[if_pos hk,List.length_cons,List.length_cons];omega
  · rw[if_neg hk,List.length_cons,List.length_cons];omega
theorem oB.some_of{v:V}{o:Option Value}(r:oB (some v) o):∃u,o=some u∧RelV v u:=by
 cases o with
 |none=>exact(show False from r).elim
 |some u=>exact⟨u,rfl,r⟩
theorem oB.none_of{o:Option Value}(r:oB none o):o=none:=by
 cases o with
 |none=>rfl
 |some u=>exact(show False from r).elim
theorem C1{v:V}{u:Value}(r:RelV v u):PySem.W.handedIn u=true:=by
 cases v with
 |aH=>cases (show u=Value.none from r);rfl
 |bl b=>cases (show u=Value.bool b from r);rfl
 |int i=>obtain⟨t,e⟩:=(show∃t,u=Value.int i t from r);cases e;rfl
 |str x=>obtain⟨t,e⟩:=(show∃t,u=Value.str x t from r);cases e;rfl
 |sf b=>obtain⟨t,e⟩:=(show∃t,u=Value.bytes b t from r);cases e;rfl
 |rV b=>obtain⟨t,e⟩:=(show∃t,u=Value.float b t from r);cases e;rfl
 |ref a=>cases (show u=Value.ref a from r);rfl
 |ty n=>cases (show u=Value.type n from r);rfl
section
variable {P:Program}{w:World}{H H':Hp}{h h':Heap}{a C dx:Addr}{fs fs':List (Str×V)}
theorem oW(aM:iP P w H h)(e:H a=some (.ins C dx fs)):∃mA,sO h a dx C mA∧(∀f,oB (fs.lookup f) (mA f))∧PySem.Within mA (fs.map (·.1))∧fs.length≤1000∧H dx=some (.own a):=by
 obtain⟨d,z,ne,ob,mA,n,r,q⟩:=(show dO P w H h a (.ins C dx fs)from aM a _ e)
 exact⟨mA,⟨ob,n,ne⟩,r,q,z,d⟩
end
structure ny(K:PySem.W.Frag)(C:Addr):Prop where
 pg:PySem.W.plainGet K C Str.empty=true
 hd:PySem.W.hasDictIn K C=true
 po:PySem.W.plainOver K C=true
 sa:PySem.W.findIn K (.ref C) "__setattr__"=some (some (.builtin "object.__setattr__"))
theorem ny.get{K:PySem.W.Frag}{C:Addr}(c:ny K C)(f:Str):PySem.W.plainGet K C f=true:=c.pg
noncomputable def ia(K:PySem.W.Frag)(C:Addr)(f:Str):Prop:=PySem.W.findIn K (.ref C) f=some none
theorem ia.Le{K:PySem.W.Frag}{C:Addr}{f:Str}(n:ia K C f):PySem.W.takerIn K C f=some none:=by
 unfold PySem.W.takerIn
 rw[show PySem.W.findIn K (.ref C) f=some none from n]
 rfl
structure Meth(K:PySem.W.Frag)(C:Addr)(m:Str)(f:Addr):Prop where
 at_:PySem.W.findIn K (.ref C) m=some (some (.ref f))
 fn:PySem.W.isFn K (.ref f)=true
 kp:PySem.W.keepIn K (.ref f)=true
section
variable {X:Cx}{pins:List (Addr×Obj)}{σ:St}{H:Hp}{s:Shared}{a C dx:Addr}{fs:List (Str×V)}{f:Str}{v:V}{A:Around}{E:Value→Shared→Prop}
theorem Bb{b:Bool}{Q:Value→Shared→Prop}(I:Inv X pins σ H s)(e:H a=some (.ins C dx fs))(c:ny X.K C)(n:ia X.K C f)(l:fs.lookup f=some v)
 (h:∀u s',Inv X pins σ H s'→RelV v u→Q u s'):wpAny (model X.prog X.w) A (getAttr (.ref a) f b) Q E s:=by
 obtain⟨mA,O,r,_,_,_⟩:=oW I.aM e
 obtain⟨u,hu,ru⟩:=oB.some_of (v:=v) (o:=mA f) (by rw[←l];exact r f)
 exact get_map I.iz O (c.get f) c.hd n hu (C1 ru) (h u _ (I.tok _) ru)
theorem Ah{m:Str}{g:Addr}{pl:Sem Bool}{Q:Value×List Value→Shared→Prop}(I:Inv X pins σ H s)(e:H a=some (.ins C dx fs))(c:ny X.K C)(k:Meth X.K C m g)(l:fs.lookup m=none)
 (h:Q (.ref g,[.ref a]) s):wpAny (model X.prog X.w) A (getMethod (.ref a) m pl) Q E s:=by
 obtain⟨mA,O,r,_,_,_⟩:=oW I.aM e
 have hn:mA m=none:=oB.none_of (by rw[←l];exact r m)
 exact ER I.iz O (c.get m) k.at_ k.fn hn h
theorem z9{y:V}{u:Value}{Q:Unit→Shared→Prop}(I:Inv X pins σ H s)(e:H a=some (.ins C dx fs))(c:ny X.K C)(n:ia X.K C f)(hl:fs.length<1000)(ry:RelV y u)
 (h:∀s',Inv X pins σ (upd H a (.ins C dx (h7 f y fs))) s'→Q () s'):wpAny (model X.prog X.w) A (setAttr (.ref a) f u) Q E s:=by
 obtain⟨mA,O,r,wi,_,ho⟩:=oW I.aM e
 have hz:(fs.map (·.1)).length≤sizeLine:=by rw[List.length_map,sizeLine_eq];omega
 refine iZ I.iz O c.sa c.po n.Le c.hd wi hz fun h' O' sb=>h _ ?_
 have hd:∃o,h'.get? dx=some o:=let⟨o,_,_,e',_⟩:=O'.ns;⟨o,e'⟩
 refine I.write (x:=a) (e:=dx) (by rw[e];exact True.intro) (.inr ho) (fun b q hb z=>(sb.2 b hb).trans z) hd ?_
 refine⟨by rw[aP O.ne];exact ho,?_,O.ne,O'.obj,_,O'.ns,fun g=>?_,fun g hg=>?_⟩
 · have:=rW f y fs;omega
 · show oB ((h7 f y fs).lookup g) (if g=f then some u else mA g)
   rw[r_]
   by_cases q:g=f
   · rw[if_pos q,if_pos q];exact ry
   · rw[if_neg q,if_neg q];exact r g
 · by_cases q:g=f
   · rw[q];exact(p_ f y fs).1
   · refine(p_ f y fs).2 g (wi g fun z=>hg ?_)
     show(if g=f then some u else mA g)=none
     rw[if_neg q];exact z
theorem Inv.made(I:Inv X pins σ H s):Inv X pins σ (upd (upd H s.heap.objs.size (.own (s.heap.objs.size+1))) (s.heap.objs.size+1) (.ins C s.heap.objs.size []))
 {s with heap:=(s.heap.push PySem.W.emptyDict).push (PySem.W.instObj C s.heap.objs.size)}:=by
 have e1:(s.heap.push PySem.W.emptyDict).get? s.heap.objs.size=some PySem.W.emptyDict:=Heap.get?_push_size s.heap rfl
 have e2:((s.heap.push PySem.W.emptyDict).push (PySem.W.instObj C s.heap.objs.size)).get? (s.heap.objs.size+1)=some (PySem.W.instObj C s.heap.objs.size):=by
  have:=Heap.get?_push_size (s.heap.push PySem.W.emptyDict) (o:=PySem.W.instObj C s.heap.objs.size) rfl
  rwa [Heap.size_push]at this
 have e3:(s.heap.push PySem.W.emptyDict).Ns s.heap.objs.size (fun _=>none):=⟨PySem.W.emptyDict,#[],_,e1,rfl,(fun e he=>absurd he (by simp)),fun _=>rfl⟩
 have I1:=I.laid (a:=s.heap.objs.size) (o:= .own (s.heap.objs.size+1)) (h':=s.heap.push PySem.W.emptyDict) (t':=s.toks) (fun b u q=>Heap.get?_push_of_some _ q) (Nat.le_refl _) ⟨_,e1⟩
 refine I1.laid (a:=s.heap.objs.size+1) (o:= .ins C s.heap.objs.size []) (t':=s.toks) (fun b u q=>Heap.get?_push_of_some _ q) (Nat.le_of_eq (Heap.size_push _ _)) ?_
 have ne:s.heap.objs.size≠s.heap.objs.size+1:=Nat.ne_of_lt (Nat.lt_succ_self _)
 refine⟨by rw[aP ne,aY],Nat.zero_le _,ne,e2,fun _=>none,(Heap.Ns1.of_empty e3).at fun o q=>Heap.get?_push_of_some _ q,fun _=>True.intro,fun y hy=>absurd rfl hy⟩
theorem HB{prog:Program}{w:World}{env:Env}{e:Expr}{f:Str}{pos:Pos}{s:Shared}{Q:Value→Shared→Prop}(hb:attributeBase e f env (eval e env)=eval e env)
 (h:wpAny (model prog w) A (eval e env) (fun o s₁=>wpAny (model prog w) A (getAttr o f true) Q E s₁) E s):wpAny (model prog w) A (eval (.Attribute e f pos) env) Q E s:=
 Attribute_any_ h (by rw[arm_eval_Attribute,hb])
end
noncomputable def Nv(K:PySem.W.Frag)(ta:TE)(f:Str):TE:=fun σ H Q=>ta σ H fun x H1=>∃a C dx fs v,x= .ref a∧H1 a=some (.ins C dx fs)∧ny K C∧ia K C f∧fs.lookup f=some v∧Q v H1
noncomputable def Nd(K:PySem.W.Frag)(ta tv:TE)(f:Str):TS:=fun D σ H=>tv σ H fun y H1=>ta σ H1 fun x H2=>∃a C dx fs,x= .ref a∧H2 a=some (.ins C dx fs)∧ny K C∧ia K C f∧fs.length<1000∧
 D.nx σ (upd H2 a (.ins C dx (h7 f y fs)))
section
variable {X:Cx}{o e value:Expr}{f:Str}{pos pos' tpos:Pos}{ta tv:TE}
theorem Ii(he:PE X e ta)(hb:attributeBase e f X.env (eval e X.env)=eval e X.env):PE X (.Attribute e f pos) (Nv X.K ta f):=by
 intro pins s σ H Q I h
 refine HB hb (cv (he pins s σ H _ I h) fun u s1 ⟨x,H1,I1,rx,a,C,dx,fs,v,ex,ea,c,n,l,q⟩=>?_)
 subst ex
 obtain rfl:u=Value.ref a:=rx
 exact Bb I1 ea c n l fun u' s2 I2 ru=>⟨v,H1,I2,ru,q⟩
theorem Je(ha:PE X o ta)(hv:PE X value tv)(hs:swapsWith value (some (.Attribute o f pos')) pos.line X.env=pure false):PS X (.Assign [.Attribute o f pos'] value pos) (Nd X.K ta tv f):=by
 intro pins s σ H D I h
 refine plainObj_wpAny_Assign_Attribute (cv (hv pins s σ H _ I h) fun u s1 ⟨y,H1,I1,ry,q⟩=>cv (ha pins s1 σ H1 _ I1 q) fun ov s2 ⟨x,H2,I2,rx,a,C,dx,fs,ex,ea,c,n,l,q2⟩=>?_) hs
 subst ex
 obtain rfl:ov=Value.ref a:=rx
 exact z9 I2 ea c n l ry fun s3 I3=>⟨σ,_,I3,q2⟩
end
section
variable {X:Cx}{pins:List (Addr×Obj)}{σ:St}{H:Hp}{s:Shared}{A:Around}{E:Value→Shared→Prop}{Q:Value→Shared→Prop}{c:Value}{b:Bool}
inductive jG(K:PySem.W.Frag)(H:Hp):V→Value→Prop where
 |aH:jG K H .aH (.type "NoneType")
 |bl (x:Bool):jG K H (.bl x) (.type "bool")
 |int (i:Int):jG K H (.int i) (.type "int")
 |str (x:Str):jG K H (.str x) (.type "str")
 |rV (x:UInt64):jG K H (.rV x) (.type "float")
 |lst {a:Addr} {xs:List V} (e:H a=some (.lst xs)):jG K H (.ref a) (.type "list")
 |g9 {a:Addr} {o:Obj} {xs:List V} (e:H a=some (.g9 o (.lst xs))):jG K H (.ref a) (.type "list")
 |tup {a:Addr} {xs:List V} (e:H a=some (.tup xs)):jG K H (.ref a) (.type "tuple")
 |dK {a:Addr} {kvs:List (Key×V)} (e:H a=some (.dK kvs)):jG K H (.ref a) (.type "dict")
 |dT {a:Addr} {kvs:List (List Key×V)} (e:H a=some (.dT kvs)):jG K H (.ref a) (.type "dict")
 |ins {a C dx:Addr} {fs:List (Str×V)} (e:H a=some (.ins C dx fs)) (cl:ny K C) (ha:PySem.W.findIn K (.ref C) "__class__"=some (some (.builtin "object.__class__")))
   (hn:PySem.W.specialIn K (.builtin "object.__class__") "__get__"=some (some (.builtin "getset_descriptor.__get__"))) (htk:PySem.W.takesIn K (.builtin "object.__class__")=some true)
   (hm:PySem.W.mroIn K C (.type "object")=some true):jG K H (.ref a) (.ref C)
theorem BH{x:V}{u t:Value}(I:Inv X pins σ H s)(rx:RelV x u)(ty:jG X.K H x t)(e:PySem.W.kitOne X.K t c=some b)(h:∀tk,Q (.bool b) {s with toks:=tk}):
 wpAny (model X.prog X.w) A (call (.builtin "isinstance") [u,c]) Q E s:=by
 cases ty with
 |aH=>cases (show u=Value.none from rx);exact PySem.W.kia_one PySem.W.kitx_none I.iz True.intro e (fun z=>nomatch z) h
 |bl y=>cases (show u=Value.bool y from rx);exact PySem.W.kia_one PySem.W.kitx_bool I.iz True.intro e (fun z=>nomatch z) h
 |int i=>obtain⟨t,q⟩:=(show∃t,u=Value.int i t from rx);cases q;exact PySem.W.kia_one PySem.W.kitx_int I.iz True.intro e (fun z=>nomatch z) h
 |str y=>obtain⟨t,q⟩:=(show∃t,u=Value.str y t from rx);cases q;exact PySem.W.kia_one PySem.W.kitx_str I.iz True.intro e (fun z=>nomatch z) h
 |rV y=>obtain⟨t,q⟩:=(show∃t,u=Value.float y t from rx);cases q;exact PySem.W.kia_one PySem.W.kitx_float I.iz True.intro e (fun z=>nomatch z) h
 | @lst a xs ea=>
   cases (show u=Value.ref a from rx)
   obtain⟨_,_,n,_,h1⟩:=(show dO X.prog X.w H s.heap a (.lst xs)from I.aM a _ ea)
   exact PySem.W.kia_one PySem.W.kitx_list I.iz ⟨_,h1,rfl⟩ e (fun z=>nomatch z) h
 | @g9 a ob xs ea=>
   cases (show u=Value.ref a from rx)
   obtain⟨_,_,_,n,_,h1⟩:=(show dO X.prog X.w H s.heap a (.g9 ob (.lst xs))from I.aM a _ ea)
   exact PySem.W.kia_one PySem.W.kitx_list I.iz ⟨_,h1,rfl⟩ e (fun z=>nomatch z) h
 | @tup a xs ea=>
   cases (show u=Value.ref a from rx)
   obtain⟨_,_,_,p⟩:=(show dO X.prog X.w H s.heap a (.tup xs)from I.aM a _ ea)
   obtain⟨o,h1,h2,_⟩:=p
   exact PySem.W.kia_one PySem.W.kitx_tuple I.iz ⟨o,h1,h2⟩ e (fun z=>nomatch z) h
 | @dK a kvs ea=>
   cases (show u=Value.ref a from rx)
   obtain⟨_,_,vs,_,p⟩:=(show dO X.prog X.w H s.heap a (.dK kvs)from I.aM a _ ea)
   obtain⟨o,es,ep,h1,h2,_⟩:=p
   exact PySem.W.kia_one PySem.W.kitx_dict I.iz ⟨o,h1,h2.1⟩ e (fun z=>nomatch z) h
 | @dT a kvs ea=>
   cases (show u=Value.ref a from rx)
   obtain⟨_,_,xs,_,o,es,ep,h1,h2,_⟩:=(show dO X.prog X.w H s.heap a (.dT kvs)from I.aM a _ ea)
   exact PySem.W.kia_one PySem.W.kitx_dict I.iz ⟨o,h1,h2.1⟩ e (fun z=>nomatch z) h
 | @ins a C dx fs ea cl ha hn htk hm=>
   cases (show u=Value.ref a from rx)
   obtain⟨mA,O,_⟩:=oW I.aM ea
   obtain⟨od,J,_⟩:=O.look
   exact PySem.W.kia_one (PySem.W.kitx_own (cl.get _) cl.hd ha hn htk hm) I.iz J e (fun z=>nomatch z) h
end
end L2
namespace L2
open PySem PySem.Spec PyProof.Rows
structure dg(k:Nat)(A:Around):Prop where
 hd:A.handled=none
 dp:A.depth+3*k+105<recursionLimit
 un:A.units+16*k+200<cLine
theorem dg.mono{j k:Nat}{A:Around}(r:dg k A)(h:j≤k):dg j A:=⟨r.hd,by have:=r.dp;omega,by have:=r.un;omega⟩
theorem dg.deeper{k:Nat}{A:Around}(r:dg (k+1) A)(env:Env):dg k (A.deeper env):=
 ⟨r.hd,by have:=r.dp;show A.depth+1+3*k+105<_;omega,by have:=r.un;show A.units+3+16*k+200<_;omega⟩
theorem AI{A:Around}{C:Addr}{us:List Value}{kw:List (Str×Value)}:(A.under (.builtin "type.__call__" ⟨.ref C::us,kw⟩)).depth=A.depth+1:=by
 first|rfl|simp[Around.under,Code.weight,Code.isCreation,Code.isGuard,Code.isCaller,Code.frames,Code.isFrame,guardIds]
theorem AW{A:Around}{C:Addr}{us:List Value}{kw:List (Str×Value)}:(A.under (.builtin "type.__call__" ⟨.ref C::us,kw⟩)).units=A.units+1:=by
 first|rfl|simp[Around.under,Code.cUnits,Code.frames,Code.isFrame]
theorem dg.make{k:Nat}{A:Around}(r:dg (k+1) A)(C:Addr)(us:List Value)(kw:List (Str×Value)):dg k (A.under (.builtin "type.__call__" ⟨.ref C::us,kw⟩)):=
 ⟨r.hd,by have:=r.dp;rw[AI];omega,by have:=r.un;rw[AW];omega⟩
theorem dg.depth{k:Nat}{A:Around}(r:dg k A):A.depth<recursionLimit:=by have:=r.dp;omega
theorem dg.units{k:Nat}{A:Around}(r:dg k A):A.units+64<cLine:=by have:=r.un;omega
noncomputable def MT:TA:=fun _ H Q=>Q [] H
noncomputable def L_(ta:TE)(tr:TA):TA:=fun σ H Q=>ta σ H fun x H1=>tr σ H1 fun xs H2=>Q (x::xs) H2
section
variable {X:Cx}{e:Expr}{es:List Expr}{te:TE}{t:TA}{pos:Pos}
theorem JV:PA X [] MT:=fun _ _ _ _ H Q I h=>Calls.spliced_nil ⟨[],H,I,.nil,h⟩
theorem HX(ha:PE X e te)(hr:PA X es t)(hs:starEach (e::es) X.env=(false,eval e X.env)::starEach es X.env:=by rfl):PA X (e::es) (L_ te t):=by
 intro pos pins s σ H Q I h
 rw[hs]
 show wpAny _ _ (spliced ((false,eval e X.env)::backTo pos (starEach es X.env))) _ _ s
 refine Calls.spliced_cons (cv (ha pins s σ H _ I h) fun u s1 ⟨x,H1,I1,r1,q1⟩=>?_)
 exact cv (hr pos pins s1 σ H1 _ I1 q1) fun us s2 ⟨xs,H2,I2,r2,q2⟩=>⟨x::xs,H2,I2,.cons r1 r2,q2⟩
noncomputable def Nu(t:TA):TE:=fun σ H Q=>t σ H fun xs H1=>xs.length≤sizeLine∧∀p,H1 p=none→Q (.ref p) (upd H1 p (.tup xs))
noncomputable def M3(t:TA):TE:=fun σ H Q=>t σ H fun xs H1=>xs.length≤sizeLine∧∀p,H1 p=none→Q (.ref p) (upd H1 p (.lst xs))
theorem Iu{x1}(h:PA X es t):PE X (.Tuple es x1 pos) (Nu t):=by
 intro pins s σ H Q I hq
 refine wpAny_Tuple_spliced (cv (h pos pins s σ H _ I hq) fun us s1 ⟨xs,H1,I1,r,z,q⟩=>⟨by rw[←r.length];exact z,?_⟩)
 have hf:H1 s1.heap.objs.size=none:=I1.aM.fresh (Nat.le_refl _)
 refine⟨.ref s1.heap.objs.size,upd H1 s1.heap.objs.size (.tup xs),I1.laid (t':=s1.toks) (fun b u e=>Heap.get?_push_of_some _ e) (Nat.le_refl _) ?_,rfl,q _ hf⟩
 exact⟨z,us,r,⟨_,Heap.get?_push_size _ rfl,rfl,_,rfl⟩⟩
theorem Bw(h:PA X es t):PE X (.List es pos) (M3 t):=by
 intro pins s σ H Q I hq
 refine wpAny_List_spliced (cv (h pos pins s σ H _ I hq) fun us s1 ⟨xs,H1,I1,r,z,q⟩=>⟨by rw[←r.length];exact z,?_⟩)
 have hf:H1 s1.heap.objs.size=none:=I1.aM.fresh (Nat.le_refl _)
 refine⟨.ref s1.heap.objs.size,upd H1 s1.heap.objs.size (.lst xs),I1.laid (t':=s1.toks) (fun b u e=>Heap.get?_push_of_some _ e) (Nat.le_refl _) ?_,rfl,q _ hf⟩
 exact⟨z,us,0,r,Heap.get?_push_size _ rfl⟩
end
noncomputable abbrev Sp:=List V→Hp→VK→XK→Prop
noncomputable abbrev r9:=List Env→Hp→Shared→XK→Value→Shared→Prop
structure s_(P:Program)(w:World)(K:PySem.W.Frag)(mg:Str→Option Value)(base:Heap)(A:Around)(outer:List Env)(s:Shared)(H:Hp):Prop where
 frames:A.frames=some outer
 mod:Mod K mg base
 bs:∀b o,base.get? b=some o→s.heap.get? b=some o∧H b=none
 qp:base.objs.size≤s.heap.objs.size
 kB:s.heap.FunFrames base outer
 tJ:∀b∈oN outer,H b=none
 aM:iP P w H s.heap
 bare:AllBare s.gens
 gt:P.given.tree=none
noncomputable def CE(outer:List Env)(P:Program)(w:World)(H:Hp)(s:Shared)(Q:VK)(u:Value)(s':Shared):Prop:=
 ∃v H',s'.os=s.os∧AllBare s'.gens∧Un (oN outer) [] H H' s.heap s'.heap∧iP P w H' s'.heap∧RelV v u∧Q v H'
noncomputable def CR(CX:r9)(outer:List Env)(P:Program)(w:World)(H:Hp)(s:Shared)(Q:VK)(E:XK)(r:Result)(s':Shared):Prop:=
 match r with
 | .ok (.ret u)=>CE outer P w H s Q u s'
 | .ok _=>False
 | .error e=>CX outer H s E e s'
structure au(P:Program)(w:World)(K:PySem.W.Frag)(mg:Str→Option Value)(base:Heap)(CX:r9)(k:Nat)(f:Addr)(fd:FuncData)(ps:List Str)(sp:Sp):Prop where
 len:∀vs H Q E,sp vs H Q E→vs.length=ps.length
 run:∀(A:Around) (outer:List Env) (s:Shared) (H:Hp) (args:Args) (us:List Value) (vs:List V) (Q:VK) (E:XK),dg k A→s_ P w K mg base A outer s H→BindsTo s fd args (ps.zip us)→Vals vs us→sp vs H Q E→
  codeAny (model P w) A (.call (.ref f) args) (CR CX outer P w H s Q E) s
theorem au.imp{P:Program}{w:World}{K:PySem.W.Frag}{mg:Str→Option Value}{base:Heap}{CX:r9}{k:Nat}{f:Addr}{fd:FuncData}{ps:List Str}{sp sp':Sp}(F:au P w K mg base CX k f fd ps sp)
 (h:∀vs H Q E,sp' vs H Q E→sp vs H Q E):au P w K mg base CX k f fd ps sp':=
 ⟨fun vs H Q E q=>F.len vs H Q E (h _ _ _ _ q),fun A outer s H args us vs Q E hr he hb hv hs=>F.run A outer s H args us vs Q E hr he hb hv (h _ _ _ _ hs)⟩
theorem s_.make{P:Program}{w:World}{K:PySem.W.Frag}{mg:Str→Option Value}{base:Heap}{A:Around}{outer:List Env}{s:Shared}{H:Hp}(e:s_ P w K mg base A outer s H)(C:Addr)(us:List Value)(kw:List (Str×Value)):
 s_ P w K mg base (A.under (.builtin "type.__call__" ⟨.ref C::us,kw⟩)) outer s H:=⟨by first|exact e.frames|(simpa[Around.under,Code.envs,Code.isFrame,pushEnvs]using e.frames),e.mod,e.bs,e.qp,e.kB,e.tJ,e.aM,e.bare,e.gt⟩
section
variable {X:Cx}{pins:List (Addr×Obj)}{σ:St}{H:Hp}{s s':Shared}
theorem Inv.Io(I:Inv X pins σ H s):s_ X.prog X.w X.K X.mg X.base X.A X.stack s H:=
 ⟨I.ok.frames,I.ok.mod,I.bs,Nat.le_trans I.ok.qp I.sz,I.stack,I.uC,I.aM,I.bare,I.ok.gt⟩
theorem Inv.after{Q:VK}{u:Value}(I:Inv X pins σ H s)(h:CE X.stack X.prog X.w H s Q u s'):EP X pins σ Q u s':=by
 obtain⟨v,H',os,bare,un,aM,r,q⟩:=h
 obtain⟨hh,g,d,t,os'⟩:=s'
 obtain rfl:os'=s.os:=os
 exact⟨v,H',I.call (h':=hh) (g':=g) (d':=d) (t':=t) (ch:=[]) un aM bare (fun b z=>absurd z (by simp)),r,q⟩
end
noncomputable def Fd(sp:Sp)(dvs:List V)(E:XK)(t:TA):TE:=fun σ H Q=>t σ H fun vs H1=>sp (vs++dvs) H1 Q E
noncomputable def Fb(C:Addr)(m:Str)(sp:Sp)(dvs:List V)(E:XK)(ta:TE)(t:TA):TE:=fun σ H Q=>ta σ H fun x H1=>∃a dx fs,x= .ref a∧H1 a=some (.ins C dx fs)∧fs.lookup m=none∧
 t σ H1 fun vs H2=>sp (x::(vs++dvs)) H2 Q E
noncomputable def E2(C:Addr)(sp:Sp)(dvs:List V)(E:XK)(t:TA):TE:=fun σ H Q=>t σ H fun vs H1=>∀x dx,H1 x=none→H1 dx=none→dx≠x→
 sp (.ref x::(vs++dvs)) (upd (upd H1 dx (.own x)) x (.ins C dx [])) (fun v H2=>v= .aH∧Q (.ref x) H2) E
noncomputable def Binds(K:PySem.W.Frag)(fd:FuncData)(ps:List Str)(ds:List Value):Prop:=
 ∀(s:Shared) (us:List Value),K.In s.heap→(us++ds).length=ps.length→BindsTo s fd ⟨us,[]⟩ (ps.zip (us++ds))
theorem Binds.all{K:PySem.W.Frag}{fd:FuncData}{ps:List Str}(h:∀us:List Value,us.length=ps.length→bindArgs fd ⟨us,[]⟩=pure (ps.zip us)):Binds K fd ps []:=fun s us _ hl=>by
 rw[List.append_nil]at hl⊢
 exact .of_eq (h us hl)
noncomputable def Passes(CX:r9)(X:Cx)(E:XK):Prop:=∀(pins:List (Addr×Obj)) (σ:St) (H:Hp) (s:Shared) (e:Value) (s':Shared),Inv X pins σ H s→CX X.stack H s E e s'→X.xe e s'
section
variable {X:Cx}{CX:r9}{k:Nat}{f C:Addr}{fd:FuncData}{ps:List Str}{sp:Sp}{dvs:List V}{ds:List Value}{E:XK}{x m:Str}{p pos apos:Pos}{e o:Expr}{es:List Expr}{ta:TE}{t:TA}
theorem CC{pins:List (Addr×Obj)}{σ:St}{H:Hp}{s:Shared}{Q:VK}{us:List Value}{vs:List V}(F:au X.prog X.w X.K X.mg X.base CX k f fd ps sp)(hr:dg k X.A)(hb:Binds X.K fd ps ds)(hd:Vals dvs ds)(hx:Passes CX X E)
 (I:Inv X pins σ H s) (r:Vals vs us) (h:sp (vs++dvs) H Q E):wpAny (model X.prog X.w) X.A (call (.ref f) us) (EP X pins σ Q) X.xe s:=by
 have r2:Vals (vs++dvs) (us++ds):=r.append hd
 have hl:(us++ds).length=ps.length:=by rw[←r2.length];exact F.len _ _ _ _ h
 refine wpAny_call (codeAny_mono (F.run X.A X.stack s H ⟨us,[]⟩ (us++ds) (vs++dvs) Q E hr I.Io (hb s us I.iz hl) r2 h) fun r s' hq=>?_)
 cases r with
 |error e=>exact hx pins σ H s e s' I hq
 |ok fl=>
  cases fl with
  |ret u=>exact I.after hq
  |next=>exact False.elim hq
  |brk=>exact False.elim hq
  |cont=>exact False.elim hq
theorem HS(F:au X.prog X.w X.K X.mg X.base CX k f fd ps sp)(hr:dg k X.A)(hg:Gl X x)(hm:X.mg x=some (.ref f))(hk:PySem.W.keepIn X.K (.ref f)=true)(hb:Binds X.K fd ps ds)(hd:Vals dvs ds)(hx:Passes CX X E)
 (ha:PA X (e::es) t) (hdb:(x==("__debug__":Str))=false:=by decide) (he:starEach (e::es) X.env=(false,eval e X.env)::starEach es X.env:=by rfl) (hpl:(backTo pos (starEach es X.env)).any (·.1)=false:=by rfl):
 PE X (.Call (.Name x p) (e::es) [] pos) (Fd sp dvs E t):=by
 intro pins s σ H Q I h
 refine wpAny_Call_Name_kw (zo I hg hm ?_ hdb)
 refine PySem.W.callWith_K (h₀:=X.base) I.ok.mod.Cg hk (cv (ha pos pins s σ H _ I h) fun us s1 ⟨vs,H1,I1,r,q⟩=>⟨I1.iz,?_⟩) he hpl
 exact CC F hr hb hd hx I1 r q
theorem GD{pl:Sem Bool}(he:PE X o ta)(c:ny X.K C)(hm:Meth X.K C m f)(F:au X.prog X.w X.K X.mg X.base CX k f fd ps sp)(hr:dg k X.A)(hb:Binds X.K fd ps ds)(hd:Vals dvs ds)(hx:Passes CX X E)(ha:PA X (e::es) t)
 (hst:starEach (e::es) X.env=(false,eval e X.env)::starEach es X.env:=by rfl) (hpl:(backTo pos (starEach es X.env)).any (·.1)=false:=by rfl)
 (ht:eval (.Call (.Attribute o m apos) (e::es) [] pos) X.env=(do
   let ov ←eval o X.env
   standAt apos.atName
   let(f,first) ←holding [ov] (getMethod ov m pl)
   callWith pos f first (backTo pos (starEach (e::es) X.env)) (backToKw pos (keywordEach [] X.env))):=by rfl):
 PE X (.Call (.Attribute o m apos) (e::es) [] pos) (Fb C m sp dvs E ta t):=by
 intro pins s σ H Q I h
 refine PySem.W.methodCall_KW (pl:=pl) (cv (he pins s σ H _ I h) fun u s1 ⟨x,H1,I1,rx,a,dx,fs,ex,ea,l,q⟩=>?_) ht
 subst ex
 obtain rfl:u=Value.ref a:=rx
 refine Ah I1 ea c hm l ?_
 refine PySem.W.callWith_K (first:=[.ref a]) (h₀:=X.base) I.ok.mod.Cg hm.kp (cv (ha pos pins s1 σ H1 _ I1 q) fun us s2 ⟨vs,H2,I2,r,q2⟩=>⟨I2.iz,?_⟩) hst hpl
 exact CC (us:= .ref a::us) (vs:= .ref a::vs) F hr hb hd hx I2 (.cons rfl r) q2
structure Mk(K:PySem.W.Frag)(C f:Addr):Prop where
 makes:PySem.W.makesIn K C=true
 init:PySem.W.findIn K (.ref C) "__init__"=some (some (.ref f))
 fn:PySem.W.isFn K (.ref f)=true
 kp:PySem.W.keepIn K (.ref C)=true
theorem Er{pins:List (Addr×Obj)}{σ:St}{H:Hp}{s:Shared}{Q:VK}{us:List Value}{vs:List V}(M:Mk X.K C f)(F:au X.prog X.w X.K X.mg X.base CX k f fd ps sp)(hr:dg (k+1) X.A)(hb:Binds X.K fd ps ds)(hd:Vals dvs ds)
 (hx:Passes CX X E) (I:Inv X pins σ H s) (r:Vals vs us)
 (h:∀x dx,H x=none→H dx=none→dx≠x→sp (.ref x::(vs++dvs)) (upd (upd H dx (.own x)) x (.ins C dx [])) (fun v H2=>v= .aH∧Q (.ref x) H2) E):
 wpAny (model X.prog X.w) X.A (call (.ref C) us) (EP X pins σ Q) X.xe s:=by
 have hq:=h (s.heap.objs.size+1) s.heap.objs.size (I.aM.fresh (Nat.le_succ _)) (I.aM.fresh (Nat.le_refl _)) (Nat.ne_of_lt (Nat.lt_succ_self _))
 have I2:=Inv.made (C:=C) I
 have r2:Vals (V.ref (s.heap.objs.size+1)::(vs++dvs)) (Value.ref (s.heap.objs.size+1)::(us++ds)):= .cons rfl (r.append hd)
 have hl:(Value.ref (s.heap.objs.size+1)::us++ds).length=ps.length:=by
  have e:=r2.length
  rw[F.len _ _ _ _ hq]at e
  exact e.symm
 refine wpAny_call (ES (f:=f) I.iz M.makes M.init (beq_iff_eq.mp M.fn) (codeAny_mono (F.run _ X.stack _ _ ⟨Value.ref (s.heap.objs.size+1)::us,[]⟩ (Value.ref (s.heap.objs.size+1)::(us++ds)) _ _ E (hr.make C us [])
  (I2.Io.make C us []) (hb _ (Value.ref (s.heap.objs.size+1)::us) I2.iz hl) r2 hq) fun r s' hq'=>?_))
 cases r with
 |error e=>exact hx pins σ _ _ e s' I2 hq'
 |ok fl=>
  cases fl with
  |ret u=>
   obtain⟨v,H',I3,rv,ev,q3⟩:=I2.after hq'
   subst ev
   exact⟨rv,⟨V.ref (s.heap.objs.size+1),H',I3,rfl,q3⟩⟩
  |next=>exact False.elim hq'
  |brk=>exact False.elim hq'
  |cont=>exact False.elim hq'
theorem Hv(M:Mk X.K C f)(F:au X.prog X.w X.K X.mg X.base CX k f fd ps sp)(hr:dg (k+1) X.A)(hg:Gl X x)(hm:X.mg x=some (.ref C))(hb:Binds X.K fd ps ds)(hd:Vals dvs ds)(hx:Passes CX X E)
 (ha:PA X (e::es) t) (hdb:(x==("__debug__":Str))=false:=by decide) (he:starEach (e::es) X.env=(false,eval e X.env)::starEach es X.env:=by rfl) (hpl:(backTo pos (starEach es X.env)).any (·.1)=false:=by rfl):
 PE X (.Call (.Name x p) (e::es) [] pos) (E2 C sp dvs E t):=by
 intro pins s σ H Q I h
 refine wpAny_Call_Name_kw (zo I hg hm ?_ hdb)
 refine PySem.W.callWith_K (h₀:=X.base) I.ok.mod.Cg M.kp (cv (ha pos pins s σ H _ I h) fun us s1 ⟨vs,H1,I1,r,q⟩=>⟨I1.iz,?_⟩) he hpl
 exact Er M F hr hb hd hx I1 r q
end
section
variable {X:Cx}{CX:r9}{k:Nat}{f C:Addr}{fd:FuncData}{ps ks:List Str}{sp:Sp}{E:XK}{x m:Str}{p pos apos kpos:Pos}{e o:Expr}{es:List Expr}{kws:List Keyword}{te ta:TE}{t tk:TA}{nm:Option Str}
variable {g:List Value→List Value→List Value}{gV:List V→List V→List V}
end
structure aU(N P:List Str)(sc:Scope):Prop where
 kind:sc.kind= .function
 co:sc.isCoroutine=false
 gen:sc.isGenerator=false
 nd:N.Nodup
 pre:N.take P.length=P
 par:∀x∈P,sc.names.lookup x=some .local∨sc.names.lookup x=some .cell
 JD:∀y∈sc.names,y.2≠ .free
theorem vp{kindOf:Str→Option NameKind}{x:Str}:∀ {binds:List (Str×Value)} {m:Str→Option Value},(∀v,(x,v)∉binds)→bindL kindOf binds m x=m x
 | [],_,_=>rfl
 |(n,v)::r,m,h=>by
  unfold bindL
  rw[vp fun w hw=>h w (List.mem_cons_of_mem _ hw)]
  split
  · have:x≠n:=by rintro rfl;exact h v List.mem_cons_self
    simp[this]
  · rfl
theorem vc{kindOf:Str→Option NameKind}{x:Str}:∀ {binds:List (Str×Value)} {m:Str→Option Value},(∀v,(x,v)∉binds)→bindC kindOf binds m x=m x
 | [],_,_=>rfl
 |(n,v)::r,m,h=>by
  unfold bindC
  rw[vc fun w hw=>h w (List.mem_cons_of_mem _ hw)]
  split
  · rfl
  · have:x≠n:=by rintro rfl;exact h v List.mem_cons_self
    simp[this]
theorem vf{kindOf:Str→Option NameKind}{x:Str}{v:Value}:∀ {P:List Str} {vs:List Value} {i:Nat} {m:Str→Option Value},P.Nodup→P[i]?=some x→vs[i]?=some v→kindOf x=some .local→
 bindL kindOf (P.zip vs) m x=some v
 | [],_,_,_,_,h,_,_=>by simp at h
 |_::_,[],_,_,_,_,h,_=>by simp at h
 |p::P,w::vs,0,m,nd,h1,h2,hk=>by
  simp at h1 h2;subst h1;subst h2
  show bindL kindOf ((p,w)::P.zip vs) m p=_
  unfold bindL
  rw[vp fun v hv=>(List.nodup_cons.mp nd).1 (List.of_mem_zip hv).1,if_pos hk]
  simp
 |p::P,w::vs,i+1,m,nd,h1,h2,hk=>by
  show bindL kindOf ((p,w)::P.zip vs) m x=_
  unfold bindL
  exact vf (i:=i) (List.nodup_cons.mp nd).2 (by simpa using h1) (by simpa using h2) hk
theorem vq{kindOf:Str→Option NameKind}{x:Str}{v:Value}:∀ {P:List Str} {vs:List Value} {i:Nat} {m:Str→Option Value},P.Nodup→P[i]?=some x→vs[i]?=some v→kindOf x≠some .local→
 bindC kindOf (P.zip vs) m x=some v
 | [],_,_,_,_,h,_,_=>by simp at h
 |_::_,[],_,_,_,_,h,_=>by simp at h
 |p::P,w::vs,0,m,nd,h1,h2,hk=>by
  simp at h1 h2;subst h1;subst h2
  show bindC kindOf ((p,w)::P.zip vs) m p=_
  unfold bindC
  rw[vc fun v hv=>(List.nodup_cons.mp nd).1 (List.of_mem_zip hv).1,if_neg hk]
  simp
 |p::P,w::vs,i+1,m,nd,h1,h2,hk=>by
  show bindC kindOf ((p,w)::P.zip vs) m x=_
  unfold bindC
  exact vq (i:=i) (List.nodup_cons.mp nd).2 (by simpa using h1) (by simpa using h2) hk
noncomputable def start(N:List Str)(vs:List V):St:=vs.map some++List.replicate (N.length-vs.length) none
noncomputable def pA(CX:r9)(P:Program)(w:World)(K:PySem.W.Frag)(mg:Str→Option Value)(base:Heap)(N:List Str)(qual:Str)(scope:Scope)(f:Addr)(cd:Value)(A:Around)(outer:List Env)(s:Shared)(H:Hp)(E:XK):Cx where
 prog:=P
 w:=w
 K:=K
 mg:=mg
 base:=base
 A:=A.deeper (envOfC qual scope s.heap.objs.size f cd)
 N:=N
 s₀:=s
 H₀:=H
 env:=envOfC qual scope s.heap.objs.size f cd
 outer:=outer
 stack:=envOfC qual scope s.heap.objs.size f cd::outer
 ex:=[]
 calm:=true
 fn:=fun _=>true
 pn:=[]
 xe:=fun e s'=>wpAny (model P w) (A.deeper (envOfC qual scope s.heap.objs.size f cd)) (leaving (envOfC qual scope s.heap.objs.size f cd) e) (fun _ s''=>CX outer H s E e s'') (fun e' s''=>CX outer H s E e' s'') s'
theorem x3{sc:Scope}{n:Nat}{x:Str}(h:sc.names.lookup x=some .cell):∃c,(cellsFrom n sc.names []).lookup x=some c:=by
 have q:=PySem.W.cellsFrom_some sc.names n [] (.inl h)
 exact Option.isSome_iff_exists.mp q
theorem BU{CX:r9}{P:Program}{w:World}{K:PySem.W.Frag}{mg:Str→Option Value}{base:Heap}{N ps:List Str}{qual:Str}{scope:Scope}{f:Addr}{cd:Value}{A:Around}{outer:List Env}{s s1:Shared}{H:Hp}{E:XK}{us:List Value}{vs:List V}
 (S:aU N ps scope) (hd:A.handled=none) (e0:s_ P w K mg base A outer s H) (hl:vs.length=ps.length) (r:Vals vs us)
 (x:InCallC s s.heap.objs.size (bindL (envOfC qual scope s.heap.objs.size f cd).kindOf (ps.zip us) fun _=>none) (cellsFrom (s.heap.objs.size+1) scope.names []) (bindC (envOfC qual scope s.heap.objs.size f cd).kindOf (ps.zip us) fun _=>none) s1):
 Inv (pA CX P w K mg base N qual scope f cd A outer s H E) [] (start N vs) H s1:=by
 have hpl:ps.length≤N.length:=by have:=congrArg List.length S.pre;rw[List.length_take]at this;omega
 obtain⟨h1,tk,rfl,hk⟩:=x.done
 have noA:∀b:Addr,b∉(pA CX P w K mg base N qual scope f cd A outer s H E).ex:=fun b z=>absurd (show b∈([]:List Addr)from z) (by simp)
 refine⟨⟨e0.mod,S.kind,rfl,rfl,Nat.le_refl _,fun y z c h1 h2=>?_,fun y hy=>?_,fun y c _ h=>?_,fun _=>hd,Around.frames_deeper e0.frames,.inr ⟨rfl,rfl⟩,fun b z=>absurd z (noA b),e0.bs,e0.qp,fun b _ _=>noA b,fun b z=>absurd z (noA b),e0.kB,e0.tJ,e0.gt⟩,
  rfl,e0.bare,Un.kept hk,⟨_,x.toInCall.ns,fun i y v h1 h2 h3=>?_⟩,fun y c h=>⟨_,x.cell y c h⟩,e0.aM.fresh (Nat.le_refl _),fun y c h=>?_,fun p hp=>absurd (show p∈([]:List (Addr×Obj))from hp) (by simp),e0.aM.kept hk,?_⟩
 · exact name_of_addr x.apart (PySem.mem_of_lookup h1) (PySem.mem_of_lookup h2)
 · have hy:scope.names.lookup y=some .cell∨scope.names.lookup y=some .free:=hy
   rcases hy with hy|hy
   · exact x3 hy
   · exact absurd rfl (S.JD _ (PySem.mem_of_lookup hy))
 · exact Nat.le_of_lt (x.above y c (PySem.mem_of_lookup h))
 · have hi:i<vs.length:=by
    unfold start at h2
    by_cases hi:i<vs.length
    · exact hi
    · rw[List.getElem?_append_right (by simpa using hi)]at h2
      rw[List.getElem?_replicate]at h2
      split at h2<;>cases h2
   have ha:vs[i]?=some v:=by
    unfold start at h2
    rw[List.getElem?_append_left (by simpa using hi),List.getElem?_map]at h2
    cases e:vs[i]? with
    |none=>rw[e]at h2;cases h2
    |some a=>rw[e]at h2;cases h2;rfl
   obtain⟨u,hu,rv⟩:=r.get ha
   have hp:ps[i]?=some y:=by
    rw[←S.pre,List.getElem?_take_of_lt (by omega)];exact h1
   have ndP:ps.Nodup:=by rw[←S.pre];exact S.nd.sublist (List.take_sublist _ _)
   refine⟨u,rv,?_⟩
   rcases S.par y (List.mem_of_getElem? hp)with k|k
   · exact .inl ⟨k,vf ndP hp hu k⟩
   · obtain⟨c,e⟩:=x3 (n:=s.heap.objs.size+1) k
     refine .inr ⟨.inl k,c,e,?_⟩
     have q:=x.cell y c e
     rw[vq ndP hp hu (by show scope.names.lookup y≠_;rw[k];decide)]at q
     exact q
 · exact e0.aM.fresh (Nat.le_of_lt (x.above y c (PySem.mem_of_lookup h)))
 · unfold start
   show _=N.length
   rw[List.length_append,List.length_map,List.length_replicate]
   omega
theorem E6{CX:r9}{P:Program}{w:World}{K:PySem.W.Frag}{mg:Str→Option Value}{base:Heap}{k:Nat}{f:Addr}{name qual:Str}{params:Arguments}{body:List Stmt}{scope:Scope}{dV kV doc pm cdv ct oc:Value}{an od:Option Addr}
 {osl:Array (Option Value)} {N ps:List Str} {sp:Sp} (lk:K.lookup f=some ⟨oc,od,.func (PySem.W.fnOf name qual params body scope dV kV doc pm an cdv ct),osl⟩) (hcd:PySem.W.codeIn K cdv qual=true) (S:aU N ps scope)
 (len:∀vs H Q E,sp vs H Q E→vs.length=ps.length)
 (hbody:∀(A:Around) (outer:List Env) (s:Shared) (H:Hp) (vs:List V) (Q:VK) (E:XK),dg k (A.deeper (envOfC qual scope s.heap.objs.size f cdv))→sp vs H Q E→
   ∃t,iA (pA CX P w K mg base N qual scope f cdv A outer s H E) body t∧t {nx:=fun _ H'=>Q .aH H',rt:=Q} (start N vs) H):
 au P w K mg base CX (k+1) f (PySem.W.fnOf name qual params body scope dV kV doc pm an cdv ct) ps sp:=by
 refine⟨len,fun A outer s H args us vs Q E hr e0 hb r hsp=>?_⟩
 have hl:=len _ _ _ _ hsp
 have KX:K.In s.heap:=e0.mod.Cg.keeps fun b o e=>(e0.bs b o e).1
 have lim:s.heap.NoLimit:=e0.mod.nolimit.keeps fun b o e=>(e0.bs b o e).1
 have hkind:∀y∈ps.zip us,scope.names.lookup y.1=some .local∨(scope.names.lookup y.1=some .cell∧((cellsFrom (s.heap.objs.size+1) scope.names []).lookup y.1).isSome=true):=fun⟨n,v⟩ hy=>by
  rcases S.par n (List.of_mem_zip hy).1 with q|q
  · exact .inl q
  · exact .inr ⟨q,PySem.W.cellsFrom_some _ _ _ (.inl q)⟩
 refine codeAny_call_function hr.depth (KX _ _ lk) rfl S.co S.gen rfl (PySem.W.codeRec_of KX hcd) (hb _ _ _ _ ?_)
 refine wpAny_newFunctionEnv_cells S.kind hkind fun env he s1 x=>?_
 subst he
 refine⟨lim.keeps x.toInCall.keep,codeAny_func ?_⟩
 obtain⟨t,ht,hq⟩:=hbody A outer s H vs Q E (hr.deeper _) hsp
 have I:Inv (pA CX P w K mg base N qual scope f cdv A outer s H E) [] (start N vs) H s1:=BU S hr.hd e0 hl r x
 refine wpAny_mono (ht [] s1 (start N vs) H _ I hq) (fun fl s' hs=>?_) fun e s' hs=>hs
 have fin:∀ {σ':St} {H':Hp} {v:V} {u:Value},Inv (pA CX P w K mg base N qual scope f cdv A outer s H E) [] σ' H' s'→RelV v u→Q v H'→CE outer P w H s Q u s':=
  fun{σ' H' v u} J rv q=>⟨v,H',J.os,J.bare,J.base,J.aM,rv,q⟩
 cases fl with
 |ret u=>
  obtain⟨v,σ',H',J,rv,q⟩:=hs
  exact fin J rv q
 |next=>
  obtain⟨σ',H',J,q⟩:=hs
  exact fin (v:=V.aH) (u:=Value.none) J rfl q
 |brk=>
  obtain⟨_,_,_,q⟩:=hs
  exact False.elim q
 |cont=>
  obtain⟨_,_,_,q⟩:=hs
  exact False.elim q
end L2
namespace L2
open PySem PySem.Spec PyProof.Rows
section
variable {X:Cx}{x:Str}{p pos:Pos}{e:Expr}{es:List Expr}{t:TA}{id T:String}{r:List V→Hp→VK→Prop}
noncomputable def IT(r:List V→Hp→VK→Prop)(t:TA):TE:=fun σ H Q=>t σ H fun vs H1=>r vs H1 Q
theorem Ei(hc:b_ X (.builtin id) r)(hg:Gl X x)(hm:X.mg x=none)(hv:bootBuiltins x=some (.builtin id))(ha:PA X (e::es) t)(hn:x≠"__name__":=by decide)(hdb:(x==("__debug__":Str))=false:=by decide)
 (he:starEach (e::es) X.env=(false,eval e X.env)::starEach es X.env:=by rfl) (hpl:(backTo pos (starEach es X.env)).any (·.1)=false:=by rfl):PE X (.Call (.Name x p) (e::es) [] pos) (IT r t):=by
 intro pins s σ H Q I h
 refine wpAny_Call_Name_kw (kG I hg hm hv ?_ hn hdb)
 exact PyProof.Rows.callWith_builtin1 (cv (ha pos pins s σ H _ I h) fun us s1 ⟨vs,H1,I1,r1,q1⟩=>hc pins s1 σ H1 vs us Q I1 r1 q1) he hpl
theorem CI(hc:b_ X (.type T) r)(hg:Gl X x)(hm:X.mg x=none)(hv:bootBuiltins x=some (.type T))(ha:PA X (e::es) t)(hn:x≠"__name__":=by decide)(hdb:(x==("__debug__":Str))=false:=by decide)
 (he:starEach (e::es) X.env=(false,eval e X.env)::starEach es X.env:=by rfl) (hpl:(backTo pos (starEach es X.env)).any (·.1)=false:=by rfl):PE X (.Call (.Name x p) (e::es) [] pos) (IT r t):=by
 intro pins s σ H Q I h
 refine wpAny_Call_Name_kw (kG I hg hm hv ?_ hn hdb)
 exact PyProof.Rows.callWith_type1 (cv (ha pos pins s σ H _ I h) fun us s1 ⟨vs,H1,I1,r1,q1⟩=>hc pins s1 σ H1 vs us Q I1 r1 q1) he hpl
end
end L2
namespace HT
open PySem PyProof.Rows
section
open PySem.SeqAt
open PySem.AutoSeq1 (wpAny_loadPart')
open PySem.MeetsSeq PySem.MeetsSeq2 PySem.MeetsSeq3
end
section
variable {prog:Program}{w:World}{A:Around}{E:Value→Shared→Prop}{s:Shared}
theorem Gi{t b:Addr}{vs ws:List Value}{Q:Value→Shared→Prop}(ht:IsTup s.heap t vs.toArray)(hb:IsTup s.heap b ws.toArray)(hv:vs≠ [])
 (h1:ws=[]→Q (.ref t) s) (h2:ws≠ []→Q (.ref s.heap.objs.size) {s with heap:=s.heap.push {cls:= .type "tuple",data:= .seq (vs++ws).toArray}})
 (hsz:vs.length+ws.length≤sizeLine):wpAny (model prog w) A (binaryOp .Add (.ref t) (.ref b)) Q E s:=by
 obtain⟨⟨cls,dd,data,sl⟩,ho,hc,n,hd⟩:=id ht
 obtain⟨⟨cls2,dd2,data2,sl2⟩,ho2,hc2,n2,hd2⟩:=id hb
 simp only at hc hd hc2 hd2
 subst hc hd hc2 hd2
 have e:vs.toArray++ws.toArray=(vs++ws).toArray:=by simp
 by_cases hw:ws=[]
 · exact concat_meets ⟨_,ho,rfl⟩ ⟨_,ho2,rfl⟩ noFill_tuple_add seq_tuple_add PySem.F.slot_tuple_add PySem.F.entry_tuple_add (PySem.F.args_tuple_add_2 _ _)
    (tuple_addW1 t b vs.toArray ws.toArray n n2 dd dd2 sl sl2 (by simpa using hv) (by simp[hw])) ⟨ho,ho2,h1 hw⟩
 · refine concat_meets ⟨_,ho,rfl⟩ ⟨_,ho2,rfl⟩ noFill_tuple_add seq_tuple_add PySem.F.slot_tuple_add PySem.F.entry_tuple_add (PySem.F.args_tuple_add_2 _ _)
    (tuple_addW2 t b vs.toArray ws.toArray n n2 dd dd2 sl sl2 (by simpa using hv) (by simpa using hw) (by rw[List.size_toArray,List.size_toArray];exact hsz)) ⟨ho,ho2,?_⟩
   rw[e]
   exact h2 hw
noncomputable def cu(n d:Nat):Option Int→Nat
 |none=>d
 |some v=>if v<0 then(v+(n:Int)).toNat else min v.toNat n
theorem Ew(n d:Nat):cu n d none=d:=rfl
theorem Gu(n d k:Nat):cu n d (some (k:Int))=min k n:=by
 show(if(k:Int)<0 then((k:Int)+(n:Int)).toNat else min (k:Int).toNat n)=min k n
 rw[if_neg (by omega),Int.toNat_natCast]
theorem Kx(n d:Nat)(hd:d≤n)(o:Option Int):cu n d o≤n:=by
 cases o with
 |none=>exact hd
 |some v=>
  show(if v<0 then(v+(n:Int)).toNat else min v.toNat n)≤n
  by_cases hv:v<0
  · rw[if_pos hv];omega
  · rw[if_neg hv];exact Nat.min_le_right _ _
theorem y6(v:Int)(n d:Nat):(if v<0 then max (v+(n:Int)) 0 else min v (n:Int))=((cu n d (some v):Nat):Int):=by
 show(if v<0 then max (v+(n:Int)) 0 else min v (n:Int))=(((if v<0 then(v+(n:Int)).toNat else min v.toNat n):Nat):Int)
 by_cases hv:v<0
 · simp only[if_pos hv];omega
 · simp only[if_neg hv];omega
theorem Ae(lo hi:Option Int)(n:Nat):Builtin.Slice.sliceAdjust lo hi 1 (n:Int)=(((cu n 0 lo:Nat):Int),((cu n n hi:Nat):Int)):=by
 have h1:¬((1:Int)<0):=by omega
 unfold Builtin.Slice.sliceAdjust
 simp only[h1,if_false]
 refine Prod.ext ?_ ?_
 · cases lo with
   |none=>rfl
   |some v=>exact y6 v n 0
 · cases hi with
   |none=>rfl
   |some v=>exact y6 v n n
theorem Az(i j:Nat):Builtin.Slice.slicePlaces (i:Int) (j:Int) 1=j-i:=by
 unfold Builtin.Slice.slicePlaces
 have h1:(1:Int)>0:=by omega
 simp only[h1,if_true,Int.ediv_one]
 split<;>omega
theorem tQ{v:Value}{o:Option Int}{Q:Option Int→Shared→Prop}(p:IsPart v o)(h:Q o s):wpAny (model prog w) A (Builtin.Slice.slicePartIndex v) Q E s:=by
 cases p with
 |none=>exact slicePart_none h
 |int i t=>exact slicePart_int h
theorem nv{sl:Addr}{vl vu:Value}{lo hi:Option Int}{n:Nat}{Q:Int×Int×Nat→Shared→Prop}(hs:s.heap.IsSliceOf sl vl vu .none)(pl:IsPart vl lo)(pu:IsPart vu hi)
 (h:Q (((cu n 0 lo:Nat):Int),1,cu n n hi-cu n 0 lo) s):wpAny (model prog w) A (Builtin.Slice.sliceApplied (.ref sl) (pure (n:Int))) Q E s:=by
 obtain⟨os,hos,hcs,hds⟩:=id hs
 unfold Builtin.Slice.sliceApplied Builtin.Slice.sliceFields
 refine wpAny_bind (wpAny_bind (wpAny_field hos hds (x:=vl) rfl (wpAny_bind (wpAny_field hos hds (x:=vu) rfl (wpAny_bind (wpAny_field hos hds (x:= .none) rfl (wpAny_pure ?_)))))))
 refine wpAny_bind (slicePart_none ?_)
 show wpAny _ _ (if((1:Int)==0)=true then _ else _) _ _ s
 rw[if_neg (by decide)]
 refine wpAny_bind (tQ pl (wpAny_bind (tQ pu (wpAny_bind (wpAny_pure ?_)))))
 show wpAny _ _ (match Builtin.Slice.sliceAdjust lo hi 1 (n:Int)with|(lo,hi)=>pure (lo,(1:Int),Builtin.Slice.slicePlaces lo hi 1)) _ _ s
 rw[Ae lo hi n]
 show wpAny _ _ (pure (((cu n 0 lo:Nat):Int),(1:Int),Builtin.Slice.slicePlaces ((cu n 0 lo:Nat):Int) ((cu n n hi:Nat):Int) 1)) _ _ s
 rw[Az]
 exact wpAny_pure h
theorem Ej(xs:Array Value)(i k:Nat):((List.range k).filterMap fun(m:Nat)=>xs[((i:Int)+(m:Int)*1).toNat]?).toArray=((xs.toList.drop i).take k).toArray:=by
 have e:(fun(m:Nat)=>xs[((i:Int)+(m:Int)*1).toNat]?)=fun m=>xs[i+m]?:=by
  funext m
  have:((i:Int)+(m:Int)*1).toNat=i+m:=by omega
  rw[this]
 rw[e]
 have:=pick_run xs i k
 rw[List.filterMap_map]at this
 have e2:((fun x=>xs[x]?)∘fun x=>i+x)=fun m=>xs[i+m]?:=rfl
 rw[e2]at this
 rw[this]
theorem rO{t sl:Addr}{items:Array Value}{vl vu:Value}{lo hi:Option Int}{Q:Value→Shared→Prop}(ht:IsTup s.heap t items)(hs:s.heap.IsSliceOf sl vl vu .none)(pl:IsPart vl lo)(pu:IsPart vu hi)
 (hw:¬(cu items.size 0 lo=0∧cu items.size items.size hi=items.size))
 (h:Q (.ref s.heap.objs.size) {s with heap:=s.heap.push {cls:= .type "tuple",data:= .seq ((items.toList.drop (cu items.size 0 lo)).take (cu items.size items.size hi-cu items.size 0 lo)).toArray}})
 (hsz:items.size≤sizeLine):wpAny (model prog w) A (getItem (.ref t) (.ref sl)) Q E s:=by
 have htake:sizeOk (.seq ((items.toList.drop (cu items.size 0 lo)).take (cu items.size items.size hi-cu items.size 0 lo)).toArray):=by
  show((items.toList.drop (cu items.size 0 lo)).take (cu items.size items.size hi-cu items.size 0 lo)).toArray.size≤sizeLine
  rw[List.size_toArray,List.length_take,List.length_drop,Array.length_toList]
  omega
 have hj:cu items.size items.size hi≤items.size:=Kx _ _ (Nat.le_refl _) hi
 obtain⟨os,hos,hcs,hds⟩:=id hs
 have hTs:s.TypeIs (.ref sl) "slice":=⟨os,hos,hcs⟩
 unfold getItem
 try with_reducible refine wpAny_holding ?_
 first|refine wpAny_bind (wpAny_pure ?_)|skip
 refine wpAny_bind (wpAny_sequenceKey ht.typeIs (by decide) ?_)
 refine wpAny_bind (wpAny_callSpecial?_slot (name:=Str.ofString "__getitem__") ht.typeIs PyProof.Rows.slot_tuple_getitem
  (wpAny_call_entry PyProof.Rows.slot_tuple_getitem ht.typeIs entry_tuple_getitem ?_ (args_tuple_getitem _ _)))
 show wpAny _ _ (Builtin.Tuple.tupleItemsOf (.ref t) >>= _) _ _ s
 refine wpAny_bind (tupleItemsOf_ ht ?_)
 refine wpAny_bind (wpAny_typeOf hTs ?_)
 rw[if_pos (by decide)]
 refine wpAny_bind (nv hs pl pu ?_)
 have hno:¬((((cu items.size 0 lo:Nat):Int)==0&&(1:Int)==1&&(cu items.size items.size hi-cu items.size 0 lo)==items.size)=true):=by
  intro q
  rw[Bool.and_eq_true,Bool.and_eq_true]at q
  have q1:((cu items.size 0 lo:Nat):Int)=0:=eq_of_beq q.1.1
  have q2:cu items.size items.size hi-cu items.size 0 lo=items.size:=eq_of_beq q.2
  exact hw ⟨by omega,by omega⟩
 show wpAny _ _ (if(((cu items.size 0 lo:Nat):Int)==0&&(1:Int)==1&&(cu items.size items.size hi-cu items.size 0 lo)==items.size)=true then _ else _) _ _ s
 rw[if_neg hno,Ej]
 first
  |exact wpAny_bind (m:=Builtin.Tuple.tupleExact _) (wpAny_newObj_type (wpAny_pure ⟨_,rfl,wpAny_pure h⟩) htake)
  |exact wpAny_bind (m:=Builtin.Tuple.tupleExact _) (wpAny_newObj_type (wpAny_bind (wpAny_pure (wpAny_pure ⟨_,rfl,wpAny_pure h⟩))) htake)
  |exact wpAny_bind (wpAny_bind (m:=Builtin.Tuple.tupleExact _) (wpAny_newObj_type (wpAny_pure (wpAny_pure ⟨_,rfl,wpAny_pure h⟩)) htake))
  |exact wpAny_bind (wpAny_bind (m:=Builtin.Tuple.tupleExact _) (wpAny_newObj_type (wpAny_pure ⟨_,rfl,wpAny_pure h⟩) htake))
end
end HT
namespace L2
open PySem PySem.Spec PyProof.Rows
noncomputable abbrev TO:=St→Hp→(Option Int→Hp→Prop)→Prop
noncomputable def PO(X:Cx)(e:Option Expr)(t:TO):Prop:=
 ∀(pins:List (Addr×Obj)) (s:Shared) (σ:St) (H:Hp) (Q:Option Int→Hp→Prop),Inv X pins σ H s→t σ H Q→
  wpAny (model X.prog X.w) X.A (evalPart e X.env) (fun u s'=>∃o H',Inv X pins σ H' s'∧IsPart u o∧Q o H') X.xe s
noncomputable def Hg:TO:=fun _ H Q=>Q none H
noncomputable def L5(t:TE):TO:=fun σ H Q=>t σ H fun x H1=>∃i,x= .int i∧Q (some i) H1
section
variable {X:Cx}{e:Expr}{te:TE}{lo hi:Option Expr}{tl th:TO}{pos p2:Pos}
theorem Ga:PO X none Hg:=by
 intro pins s σ H Q I h
 rw[evalPart_none]
 exact wpAny_pure ⟨none,H,I,.none,h⟩
theorem He(h:PE X e te):PO X (some e) (L5 te):=by
 intro pins s σ H Q I hw
 rw[evalPart_some]
 refine cv (h pins s σ H _ I hw) fun u s1 ⟨x,H1,I1,r1,q1⟩=>?_
 obtain⟨i,rfl,q⟩:=q1
 obtain⟨t,rfl⟩:=r1
 exact⟨some i,H1,I1,.int i t,q⟩
noncomputable def CA(X:Cx)(r:V→Option Int→Option Int→Hp→VK→Prop):Prop:=
 ∀(pins:List (Addr×Obj)) (s:Shared) (σ:St) (H:Hp) (x:V) (v vl vu:Value) (lo hi:Option Int) (sl:Addr) (Q:VK),Inv X pins σ H s→RelV x v→s.heap.IsSliceOf sl vl vu .none→IsPart vl lo→IsPart vu hi→r x lo hi H Q→
  ∃T id,typeLookup (.type T) "__getitem__"=pure (some (.builtin id))∧s.TypeIs v T∧wpAny (model X.prog X.w) X.A (getItem v (.ref sl)) (EP X pins σ Q) X.xe s
noncomputable def NU(r:V→Option Int→Option Int→Hp→VK→Prop)(te:TE)(tl th:TO):TE:=fun σ H Q=>te σ H fun x H1=>tl σ H1 fun l H2=>th σ H2 fun u H3=>r x l u H3 Q
theorem Ea{r:V→Option Int→Option Int→Hp→VK→Prop}(hr:CA X r)(he:PE X e te)(hl:PO X lo tl)(hu:PO X hi th):PE X (.Subscript e (.Slice lo hi none p2) pos) (NU r te tl th):=by
 intro pins s σ H Q I h
 refine Subscript_ (cv (he pins s σ H _ I h) fun v s1 ⟨x,H1,I1,r1,q1⟩=>?_)
 refine wpAny_Slice (cv (hl pins s1 σ H1 _ I1 q1) fun vl s2 ⟨l,H2,I2,pl,q2⟩=>cv (hu pins s2 σ H2 _ I2 q2) fun vu s3 ⟨u,H3,I3,pu,q3⟩=>?_)
 rw[evalPart_none]
 refine wpAny_pure ?_
 have I4:Inv X pins σ H3 {s3 with heap:=s3.heap.push {cls:= .type "slice",data:= .fields #[vl,vu,.none]}}:=I3.kept (t':=s3.toks) fun b ob q=>Heap.get?_push_of_some _ q
 obtain⟨T,id,hT,ht,hg⟩:=hr pins {s3 with heap:=s3.heap.push {cls:= .type "slice",data:= .fields #[vl,vu,.none]}} σ H3 x v vl vu l u s3.heap.objs.size Q I4 r1 (Heap.IsSliceOf.new ..) pl pu q3
 show wpAny (model X.prog X.w) X.A (subscriptTail e (.Slice lo hi none p2) v (.ref s3.heap.objs.size)) (EP X pins σ Q) X.xe {s3 with heap:=s3.heap.push {cls:= .type "slice",data:= .fields #[vl,vu,.none]}}
 exact tail_any (ops:=[.ref s3.heap.objs.size,v]) ht hT hg (by with_unfolding_all rfl)
noncomputable def pD(xs:List V)(lo hi:Option Int):List V:=(xs.drop (HT.cu xs.length 0 lo)).take (HT.cu xs.length xs.length hi-HT.cu xs.length 0 lo)
theorem sq(xs:List V)(lo hi:Option Int):(pD xs lo hi).length≤xs.length:=by
 unfold pD
 rw[List.length_take,List.length_drop]
 omega
noncomputable def M7(K:PySem.W.Frag):V→Option Int→Option Int→Hp→VK→Prop:=fun x lo hi H Q=>∃a xs,x= .ref a∧jj K H a xs∧
 ¬(HT.cu xs.length 0 lo=0∧HT.cu xs.length xs.length hi=xs.length)∧∀p,H p=none→Q (.ref p) (upd H p (.tup (pD xs lo hi)))
theorem JJ:CA X (M7 X.K):=by
 intro pins s σ H x v vl vu lo hi sl Q I rx hs pl pu h
 obtain⟨a,xs,rfl,hx,hw,q⟩:=h
 cases rx
 obtain⟨its,r,ht,hz⟩:=I.tuple hx
 have hlen:its.toArray.size=xs.length:=by rw[List.size_toArray];exact r.length.symm
 refine⟨"tuple",_,PyProof.Rows.slot_tuple_getitem.lookup,ht.typeIs,?_⟩
 refine HT.rO ht hs pl pu (by rw[hlen];exact hw) ?_ (by rw[hlen];exact hz)
 rw[hlen]
 refine⟨.ref s.heap.objs.size,_,I.laid (t':=s.toks) (o:= .tup (pD xs lo hi)) (fun b ob q=>Heap.get?_push_of_some _ q) (Nat.le_refl _) ?_,rfl,q _ (I.aM.fresh (Nat.le_refl _))⟩
 exact⟨Nat.le_trans (sq xs lo hi) hz,_,(r.drop (HT.cu xs.length 0 lo)).take (HT.cu xs.length xs.length hi-HT.cu xs.length 0 lo),IsTup.new _ _⟩
noncomputable def K6(K:PySem.W.Frag):R2:=fun x y H Q=>∃a b xs ys,x= .ref a∧y= .ref b∧jj K H a xs∧jj K H b ys∧xs≠ []∧xs.length+ys.length≤sizeLine∧
 (ys=[]→Q (.ref a) H)∧(ys≠ []→∀p,H p=none→Q (.ref p) (upd H p (.tup (xs++ys))))
theorem Vals.qV{xs:List V}{us:List Value}(r:Vals xs us):us=[]↔xs=[]:=by
 cases r with
 |nil=>simp
 |cons _ _=>simp
theorem Gm:cx X (binaryOp .Add) (K6 X.K):=by
 intro pins s σ H x y v u Q I rx ry h
 obtain⟨a,b,xs,ys,rfl,rfl,ha,hb,hx,hz,q1,q2⟩:=h
 cases rx
 cases ry
 obtain⟨its,r1,p1,_⟩:=I.tuple ha
 obtain⟨pv,r2,p2,_⟩:=I.tuple hb
 refine HT.Gi p1 p2 (fun z=>hx (r1.qV.mp z)) (fun z=>⟨.ref a,H,I,rfl,q1 (r2.qV.mp z)⟩) (fun z=>?_) (by rw[←r1.length,←r2.length];exact hz)
 refine⟨.ref s.heap.objs.size,_,I.laid (t':=s.toks) (o:= .tup (xs++ys)) (fun b ob q=>Heap.get?_push_of_some _ q) (Nat.le_refl _) ?_,rfl,q2 (fun w=>z (r2.qV.mpr w)) _ (I.aM.fresh (Nat.le_refl _))⟩
 exact⟨by rw[List.length_append];exact hz,_,r1.append r2,IsTup.new _ _⟩
end
end L2
namespace L2
open PySem PySem.Spec PyProof.Rows
noncomputable def kM(n:Nat)(i:Int):Option Nat:=if 0≤i then(if i<n then some i.toNat else none)else if-(n:Int)≤i then some (i+n).toNat else none
noncomputable def eh{α:Type}(xs:List α)(i:Int):Option α:=(kM xs.length i).bind fun j=>xs[j]?
theorem uF{n:Nat}{i:Int}{j:Nat}(h:kM n i=some j):seqIndex? i n=some j∧j<n∧ -(n:Int)≤i∧i<n:=by
 unfold kM at h
 by_cases h0:0≤i
 · rw[if_pos h0]at h
   by_cases h1:i<n
   · rw[if_pos h1]at h
     have e:i.toNat=j:=Option.some.inj h
     exact⟨by rw[seqIndex_of h0 h1,e],by omega,by omega,h1⟩
   · rw[if_neg h1]at h;cases h
 · rw[if_neg h0]at h
   by_cases h1: -(n:Int)≤i
   · rw[if_pos h1]at h
     have e:(i+n).toNat=j:=Option.some.inj h
     exact⟨by rw[seqIndex_neg (by omega) h1,e],by omega,h1,by omega⟩
   · rw[if_neg h1]at h;cases h
theorem u7{α:Type}{xs:List α}{i:Int}{v:α}(h:eh xs i=some v):∃j,seqIndex? i xs.length=some j∧xs[j]?=some v∧j<xs.length∧ -(xs.length:Int)≤i∧i<xs.length:=by
 unfold eh at h
 cases e:kM xs.length i with
 |none=>rw[e]at h;cases h
 |some j=>
  rw[e]at h
  obtain⟨h1,h2,h3,h4⟩:=uF e
  exact⟨j,h1,h,h2,h3,h4⟩
theorem iX{α:Type}{xs:List α}{j:Nat}{v:α}(h:xs[j]?=some v):eh xs (j:Int)=some v:=by
 have hj:j<xs.length:=(List.getElem?_eq_some_iff.mp h).1
 have e:kM xs.length (j:Int)=some j:=by
  unfold kM
  rw[if_pos (by omega),if_pos (by omega)];simp
 unfold eh;rw[e];exact h
noncomputable def qZ(b:Expr):Prop:=∀o i,subscripted b false o i=operate [o,i] (getItem o i)
noncomputable def FG(X:Cx)(r:R2):Prop:=
 ∀(value slice:Expr) (pins:List (Addr×Obj)) (s:Shared) (σ:St) (H:Hp) (x y:V) (v u:Value) (Q:VK),Inv X pins σ H s→RelV x v→RelV y u→r x y H Q→
  subscripted slice false v u=operate [v,u] (getItem v u)→wpAny (model X.prog X.w) X.A (subscriptTail value slice v u) (EP X pins σ Q) X.xe s
noncomputable def JL(X:Cx)(id:String)(r:V→List V→Hp→VK→Prop):Prop:=
 ∀(pins:List (Addr×Obj)) (s:Shared) (σ:St) (H:Hp) (x:V) (xs:List V) (v:Value) (us:List Value) (Q:VK),Inv X pins σ H s→RelV x v→Vals xs us→r x xs H Q→
  wpAny (model X.prog X.w) X.A (call (.builtin id) (v::us)) (EP X pins σ Q) X.xe s
section
variable {X:Cx}{a b:Expr}{ta tb:TE}{pos:Pos}
theorem Ls{r:R2}(hr:FG X r)(ha:PE X a ta)(hb:PE X b tb)(hs:qZ b):PE X (.Subscript a b pos) (CW r ta tb):=by
 intro pins s σ H Q I h
 exact Subscript_ (Ec ha hb I h fun v u s2 x y H2 I2 rx ry q=>hr a b pins s2 σ H2 x y v u Q I2 rx ry q (hs _ _))
noncomputable def Nh(K:PySem.W.Frag):R2:=fun x y H Q=>∃p xs i v,x= .ref p∧y= .int i∧mr K H p xs∧eh xs i=some v∧Q v H
noncomputable def MX(K:PySem.W.Frag):R2:=fun x y H Q=>∃p xs i v,x= .ref p∧y= .int i∧jj K H p xs∧eh xs i=some v∧Q v H
theorem zG:FG X (Nh X.K):=by
 intro value slice pins s σ H x y v u Q I rx ry h hs
 obtain⟨p,xs,i,z,rfl,rfl,hq,he,q⟩:=h
 cases rx
 obtain⟨t,rfl⟩:=ry
 obtain⟨its,r,pl,hz⟩:=I.list hq
 obtain⟨j,h1,h2,h3,h4,h5⟩:=u7 he
 obtain⟨w,ew,rw'⟩:=r.get h2
 have hl:=r.length
 have hn:=qw
 have fin:EP X pins σ Q w s:=⟨z,H,I,rw',q⟩
 by_cases h0:0≤i
 · have hj:i.toNat=j:=by
    rw[seqIndex_of h0 h5]at h1
    exact Option.some.inj h1
   exact item_listR pl.isList h0 (by omega) (by rw[hj];simpa using ew) fin hs
 · have hj:(i+(its.toArray.size:Int)).toNat=j:=by
    rw[seqIndex_neg (by omega) h4]at h1
    rw[List.size_toArray,←hl]
    exact Option.some.inj h1
   exact subscriptTail_builtinR (x:=w) pl.isList.typeIs slot_list_getitem.lookup
    (wpAny_getItem_list_neg (Q:=fun r s'=>r=w∧EP X pins σ Q r s') pl.isList (by omega) (by rw[List.size_toArray]<;>omega) (by omega) (by rw[hj];simpa using ew) ⟨rfl,fin⟩) hs
theorem Kd:FG X (MX X.K):=by
 intro value slice pins s σ H x y v u Q I rx ry h hs
 obtain⟨p,xs,i,z,rfl,rfl,hq,he,q⟩:=h
 cases rx
 obtain⟨t,rfl⟩:=ry
 obtain⟨its,r,pl,hz⟩:=I.tuple hq
 obtain⟨j,h1,h2,h3,h4,h5⟩:=u7 he
 obtain⟨w,ew,rw'⟩:=r.get h2
 have hl:=r.length
 have hn:=qw
 have fin:EP X pins σ Q w s:=⟨z,H,I,rw',q⟩
 exact subscriptTail_builtinR (x:=w) pl.typeIs slot_tuple_getitem.lookup
  (getItem_tuple (j:=j) (Q:=fun r s'=>r=w∧EP X pins σ Q r s') pl (by omega) (by omega) (by rw[List.size_toArray,←hl];exact h1) (by simpa using ew) ⟨rfl,fin⟩) hs
theorem zV(its:List Value)(n j:Nat)(u:Value):Obj.mapSeq (·.setIfInBounds j u) {cls:= .type "list",data:= .seq its.toArray n}= {cls:= .type "list",data:= .seq (its.set j u).toArray n}:=by
 simp[Obj.mapSeq]
theorem Inv.lst{pins:List (Addr×Obj)}{σ:St}{H:Hp}{s:Shared}{p:Addr}{xs:List V}(I:Inv X pins σ H s)(h:H p=some (.lst xs)):
 ∃(its:List Value) (n:Nat),Vals xs its∧s.heap.get? p=some {cls:= .type "list",data:= .seq its.toArray n}∧xs.length≤sizeLine:=by
 obtain⟨z,its,n,r,e⟩:=I.aM p _ h
 exact⟨its,n,r,e,z⟩
theorem Inv.IB{pins:List (Addr×Obj)}{σ:St}{H:Hp}{s:Shared}{p:Addr}{xs ys:List V}{its its':List Value}{n n':Nat}{f:Obj→Obj}(I:Inv X pins σ H s)(h:H p=some (.lst xs))
 (ho:s.heap.get? p=some {cls:= .type "list",data:= .seq its.toArray n}) (hf:f {cls:= .type "list",data:= .seq its.toArray n}= {cls:= .type "list",data:= .seq its'.toArray n'}) (r:Vals ys its') (hz:ys.length≤sizeLine) (t:Nat):
 Inv X pins σ (upd H p (.lst ys)) {s with heap:=s.heap.update p f,toks:=t}:=by
 have e:(s.heap.update p f).get? p=some {cls:= .type "list",data:= .seq its'.toArray n'}:=by
  rw[Heap.get?_update_self f ho (by rw[hf]<;>rfl),hf]
 refine I.write (x:=p) (e:=p) (by rw[h];trivial) (.inl rfl) (fun b u hb q=>(Heap.get?_update_other _ _ (Ne.symm hb)).trans q) ⟨_,e⟩ ?_
 exact⟨hz,its',n',r,e⟩
noncomputable def rh:V→V→V→Hp→(Hp→Prop)→Prop:=fun o i v H Q=>∃p xs k j,o= .ref p∧i= .int k∧H p=some (.lst xs)∧kM xs.length k=some j∧Q (upd H p (.lst (xs.set j v)))
theorem set_list:JX X rh:=by
 intro pins s σ H o i v ov iv u Q I ro ri rv h
 obtain⟨p,xs,k,j,rfl,rfl,hp,hj,q⟩:=h
 cases ro
 obtain⟨t,rfl⟩:=ri
 obtain⟨its,n,r,ho,hz⟩:=I.lst hp
 obtain⟨h1,h2,h3,h4⟩:=uF hj
 have hl:=r.length
 have hn:=qw
 have I':Inv X pins σ (upd H p (.lst (xs.set j v))) {s with heap:=s.heap.update p (Obj.mapSeq (·.setIfInBounds j u))}:=
  I.IB hp ho (zV its n j u) (r.set rv j) (by rw[List.length_set];exact hz) s.toks
 by_cases h0:0≤k
 · have hk:k.toNat=j:=by
    rw[seqIndex_of h0 h4]at h1
    exact Option.some.inj h1
   exact PySem.W.ki_setAt ho h0 (by omega) (by rw[List.size_toArray,←hl];exact h4) (by rw[hk];exact⟨_,I',q⟩)
 · have hk:(k+(its.toArray.size:Int)).toNat=j:=by
    rw[seqIndex_neg (by omega) h3]at h1
    rw[List.size_toArray,←hl]
    exact Option.some.inj h1
   exact PySem.W.ki_setBack ho (by omega) (by rw[List.size_toArray,←hl];exact h3) (by omega) (by rw[hk];exact⟨_,I',q⟩)
theorem wH(lo hi:Option Int)(n:Nat):(sliceBounds lo hi none n).1=((HT.cu n 0 lo:Nat):Int)∧(sliceBounds lo hi none n).2.1=((HT.cu n n hi:Nat):Int)∧(sliceBounds lo hi none n).2.2=1:=by
 refine⟨?_,?_,rfl⟩
 · cases lo with
   |none=>simp[sliceBounds,HT.cu]
   |some i=>
    simp only[sliceBounds,HT.cu,Option.getD_none,show(1:Int)>0 by decide,if_true]
    by_cases h:i<0
    · simp only[h,if_true]<;>omega
    · simp only[h,if_false]<;>omega
 · cases hi with
   |none=>simp[sliceBounds,HT.cu]
   |some i=>
    simp only[sliceBounds,HT.cu,Option.getD_none,show(1:Int)>0 by decide,if_true]
    by_cases h:i<0
    · simp only[h,if_true]<;>omega
    · simp only[h,if_false]<;>omega
theorem vW(its:List Value)(lo hi:Option Int):slicePick its.toArray lo hi none=((its.drop (HT.cu its.length 0 lo)).take (HT.cu its.length its.length hi-HT.cu its.length 0 lo)).toArray:=by
 obtain⟨h1,h2,h3⟩:=wH lo hi its.toArray.size
 unfold slicePick
 rw[h1,h2,h3]
 simp only[sliceRange_one,pick_run,List.size_toArray]<;>rfl
noncomputable def Nb(K:PySem.W.Frag):V→Option Int→Option Int→Hp→VK→Prop:=fun x lo hi H Q=>∃a xs,x= .ref a∧mr K H a xs∧∀p,H p=none→Q (.ref p) (upd H p (.lst (pD xs lo hi)))
theorem zp:CA X (Nb X.K):=by
 intro pins s σ H x v vl vu lo hi sl Q I rx hs pl pu h
 obtain⟨a,xs,rfl,hx,q⟩:=h
 cases rx
 obtain⟨its,r,ht,hz⟩:=I.list hx
 have hlen:=r.length
 refine⟨"list",_,slot_list_getitem.lookup,ht.isList.typeIs,?_⟩
 refine wpAny_getItem_list_slice ht.isList hs pl pu .none (by simp) ?_ (by rw[List.size_toArray]<;>omega)
 rw[vW,←hlen]
 refine⟨.ref s.heap.objs.size,_,I.laid (t':=s.toks) (o:= .lst (pD xs lo hi)) (fun b ob q=>Heap.get?_push_of_some _ q) (Nat.le_refl _) ?_,rfl,q _ (I.aM.fresh (Nat.le_refl _))⟩
 exact⟨Nat.le_trans (sq xs lo hi) hz,_,0,(r.drop (HT.cu xs.length 0 lo)).take (HT.cu xs.length xs.length hi-HT.cu xs.length 0 lo),Heap.get?_push_size _ rfl⟩
theorem xN:b_ X (.builtin "len") (fun xs H Q=>∃p ys,xs=[.ref p]∧(mr X.K H p ys∨jj X.K H p ys)∧Q (.int ys.length) H):=by
 intro pins s σ H xs us Q I r h
 obtain⟨p,ys,rfl,hq,q⟩:=h
 obtain⟨u,rfl,rx⟩:=vals1 r
 cases rx
 have hn:=qw
 rcases hq with hq|hq
 · obtain⟨its,r',pl,hz⟩:=I.list hq
   have hlen:=r'.length
   exact Calls.call_len_list pl.isList (by simp only[List.size_toArray]<;>omega) ⟨.int ys.length,H,I.tok _,⟨s.toks+1,by rw[List.size_toArray,hlen]⟩,q⟩
 · obtain⟨its,r',pl,hz⟩:=I.tuple hq
   have hlen:=r'.length
   exact len_tuple pl (by simp only[List.size_toArray]<;>omega) ⟨.int ys.length,H,I.tok _,⟨s.toks+1,by rw[List.size_toArray,hlen]⟩,q⟩
theorem xS:b_ X (.builtin "len") (fun xs H Q=>∃z,xs=[.str z]∧z.length≤sizeLine∧Q (.int z.length) H):=by
 intro pins s σ H xs us Q I r h
 obtain⟨z,rfl,hz,q⟩:=h
 obtain⟨u,rfl,t,rfl⟩:=vals1 r
 have hn:=qw
 exact len_str (by omega) ⟨.int z.length,H,I.tok _,⟨_,rfl⟩,q⟩
theorem qf:b_ X (.type "list") (fun xs H Q=>∃p ys,xs=[.ref p]∧(mr X.K H p ys∨jj X.K H p ys)∧∀l,H l=none→Q (.ref l) (upd H l (.lst ys))):=by
 intro pins s σ H xs us Q I r h
 obtain⟨p,ys,rfl,hq,q⟩:=h
 obtain⟨u,rfl,rx⟩:=vals1 r
 cases rx
 have fin:∀(its:List Value),Vals ys its→ys.length≤sizeLine→∀(h':Heap) (c':Nat),(∀b o',s.heap.get? b=some o'→h'.get? b=some o')→
  h'.get? s.heap.objs.size=some {cls:= .type "list",dict:=none,data:= .seq its.toArray c',slots:= #[]}→EP X pins σ Q (.ref s.heap.objs.size) {s with heap:=h'}:=fun its r' hz h' c' kp e=>
  ⟨.ref s.heap.objs.size,_,I.laid (t':=s.toks) kp (Nat.le_refl _) (show dO X.prog X.w _ h' _ (.lst ys)from⟨hz,its,c',r',e⟩),rfl,q _ (I.aM.fresh (Nat.le_refl _))⟩
 rcases hq with hq|hq
 · obtain⟨its,r',pl,hz⟩:=I.list hq
   have hlen:=r'.length
   obtain⟨o,ho,hc,n,hd⟩:=pl.isList
   exact call_list_seq p (.inl rfl) ho hc hd (fun h' c' kp e=>fin its r' hz h' c' kp e) (by simp only[List.size_toArray]<;>omega)
 · obtain⟨its,r',pl,hz⟩:=I.tuple hq
   have hlen:=r'.length
   obtain⟨o,ho,hc,n,hd⟩:=pl
   exact call_list_seq p (.inr rfl) ho hc hd (fun h' c' kp e=>fin its r' hz h' c' kp e) (by simp only[List.size_toArray]<;>omega)
theorem vN:b_ X (.type "tuple") (fun xs H Q=>∃p ys,xs=[.ref p]∧((mr X.K H p ys∧∀l,H l=none→Q (.ref l) (upd H l (.tup ys)))∨(jj X.K H p ys∧Q (.ref p) H))):=by
 intro pins s σ H xs us Q I r h
 obtain⟨p,ys,rfl,h⟩:=h
 obtain⟨u,rfl,rx⟩:=vals1 r
 cases rx
 rcases h with⟨hq,q⟩|⟨hq,q⟩
 · obtain⟨its,r',pl,hz⟩:=I.list hq
   have hlen:=r'.length
   refine call_tuple_list pl.isList (fun h' kp=>?_) (by simp only[List.size_toArray]<;>omega)
   have I1:Inv X pins σ H {s with heap:=h'}:=I.kept (t':=s.toks) kp
   have I2:Inv X pins σ (upd H h'.objs.size (.tup ys)) {s with heap:=h'.push {cls:= .type "tuple",data:= .seq its.toArray}}:=
    I1.laid (t':=s.toks) (fun b o e=>Heap.get?_push_of_some _ e) (Nat.le_refl _) (show dO X.prog X.w _ _ _ (.tup ys)from⟨hz,its,r',IsTup.new _ _⟩)
   exact⟨.ref h'.objs.size,_,I2,rfl,q _ (I1.aM.fresh (Nat.le_refl _))⟩
 · obtain⟨its,r',pl,hz⟩:=I.tuple hq
   exact call_tuple_same pl ⟨.ref p,H,I,rfl,q⟩
noncomputable def MH(K:PySem.W.Frag)(T:String)(x:V)(H:Hp):Prop:=match x with
 | .str _=>T="str"
 | .int _=>T="int"
 | .ref p=>(T="list"∧∃xs,mr K H p xs)∨(T="tuple"∧∃o,K.lookup p=some o∧o.cls= .type "tuple"∧o.dict=none)∨
    (T="dict"∧((∃kvs,H p=some (.dK kvs))∨∃kvs,H p=some (.dT kvs)))∨(T="set"∧∃S n,H p=some (.set S n))
 |_=>False
theorem Kf{pins:List (Addr×Obj)}{σ:St}{H:Hp}{s:Shared}{T:String}{x:V}{v:Value}(I:Inv X pins σ H s)(r:RelV x v)(ty:MH X.K T x H):
 s.TypeIs v T∧∀a,v= .ref a→∃ob,s.heap.get? a=some ob∧ob.dict=none:=by
 cases x with
 |str z=>
  obtain⟨t,rfl⟩:=r
  cases (show T="str" from ty)
  exact⟨typeIs_str s z t,fun _ e=>nomatch e⟩
 |int i=>
  obtain⟨t,rfl⟩:=r
  cases (show T="int" from ty)
  exact⟨typeIs_int s i t,fun _ e=>nomatch e⟩
 |ref p=>
  cases r
  rcases ty with⟨rfl,xs,hq⟩|⟨rfl,o,hk,hc,hd⟩|⟨rfl,hk⟩|⟨rfl,S,n,hk⟩
  · obtain⟨its,_,pl,_⟩:=I.list hq
    refine⟨pl.isList.typeIs,fun a e=>?_⟩
    cases e
    obtain⟨o,n,e,c,hd,_⟩:=pl
    exact⟨o,e,hd⟩
  · refine⟨⟨o,I.iz p o hk,hc⟩,fun a e=>?_⟩
    cases e
    exact⟨o,I.iz _ o hk,hd⟩
  · have z:∃o,s.heap.get? p=some o∧o.ExactDict:=by
     rcases hk with⟨kvs,hk⟩|⟨kvs,hk⟩
     · obtain⟨_,_,_,_,o,_,_,e,ex,_⟩:=I.aM p _ hk
       exact⟨o,e,ex⟩
     · obtain⟨_,_,_,_,o,_,_,e,ex,_⟩:=I.aM p _ hk
       exact⟨o,e,ex⟩
    obtain⟨o,e,ex⟩:=z
    refine⟨⟨o,e,ex.1⟩,fun a e2=>?_⟩
    cases e2
    exact⟨o,e,ex.2.1⟩
  · obtain⟨o,_,_,_,e,ex,_⟩:=I.aM p _ hk
    refine⟨⟨o,e,ex.1⟩,fun a e2=>?_⟩
    cases e2
    exact⟨o,e,ex.2.1⟩
 |_=>exact False.elim ty
noncomputable def KL(K:PySem.W.Frag)(T:String)(r:V→List V→Hp→VK→Prop)(to:TE)(t:TA):TE:=fun σ H Q=>to σ H fun x H1=>MH K T x H1∧t σ H1 fun xs H2=>r x xs H2 Q
variable {o e:Expr}{es:List Expr}{to:TE}{t:TA}{name:Str}{apos cpos:Pos}{T id:String}{r:V→List V→Hp→VK→Prop}
theorem FU(pa:PlainAttrs T)(slot:Slot T name id)(hty:typeOf (.builtin id)=pure (.type "method_descriptor"))(hm:JL X id r)(ho:PE X o to)(ha:PA X (e::es) t)
 (hbase:attributeBase o name X.env (eval o X.env)=eval o X.env:=by rfl)
 (hfew:((backTo cpos (starEach (e::es) X.env)).all (fun x=> !x.1)&&(backToKw cpos (keywordEach [] X.env)).all (fun x=>x.1.isSome)
   &&decide ((e::es).length+([]:List Keyword).length+(if([]:List Keyword).isEmpty then 0 else 1)<30))=true:=by rfl)
 (hline:(apos.endLine==cpos.line)=true:=by rfl) (hs:starEach (e::es) X.env=(false,eval e X.env)::starEach es X.env:=by rfl) (hplain:(backTo cpos (starEach es X.env)).any (·.1)=false:=by rfl):
 PE X (.Call (.Attribute o name apos) (e::es) [] cpos) (KL X.K T r to t):=by
 intro pins s σ H Q I h
 refine wpAny_Call_method_late hbase hfew hline rfl (cv (ho pins s σ H _ I h) fun v s1 ⟨x,H1,I1,r1,ty,q1⟩=>?_)
 obtain⟨h1,h2⟩:=Kf I1 r1 ty
 refine⟨T,id,pa,slot,hty,h1,h2,?_⟩
 have hA:=ha cpos pins s1 σ H1 _ I1 q1
 rw[hs]at hA⊢
 refine Calls.callWith_builtin (by show(false||(backTo cpos (starEach es X.env)).any (·.1))=false;rw[hplain]<;>rfl) (Calls.evalArgs_plain ?_)
 exact cv hA fun us s2 ⟨vs,H2,I2,r2,q2⟩=>hm pins s2 σ H2 x vs v us Q I2 r1 r2 q2
/-xs.append(e),list.index on a module's tuple .. are JL facts of 06m-/
end
end L2
namespace L2
open PySem PySem.Spec PyProof.Rows
noncomputable def MG(X:Cx)(id:String)(r:V→List V→Hp→VK→Prop):Prop:=
 ∀(pins:List (Addr×Obj)) (s:Shared) (σ:St) (H:Hp) (x:V) (xs:List V) (v:Value) (us:List Value) (Q:VK),Inv X pins σ H s→RelV x v→Vals xs us→r x xs H Q→
  wpAny (model X.prog X.w) X.A (call (.builtin id) (v::us)) (EP X pins σ Q) X.xe s
theorem Vals.one:∀ {x:V} {us:List Value},Vals [x] us→∃u,us=[u]∧RelV x u
 |_,_,.cons r .nil=>⟨_,rfl,r⟩
theorem Vals.eraseIdx:∀ {xs:List V} {us:List Value} (i:Nat),Vals xs us→Vals (xs.eraseIdx i) (us.eraseIdx i)
 |_,_,_,.nil=> .nil
 |_,_,0,.cons _ t=>t
 |_,_,i+1,.cons r t=> .cons r (Vals.eraseIdx i t)
theorem Vals.rep{xs:List V}{us:List Value}(h:Vals xs us):∀k:Nat,Vals (List.replicate k xs).flatten (List.replicate k us).flatten
 |0=> .nil
 |k+1=>by
  rw[List.replicate_succ,List.replicate_succ,List.flatten_cons,List.flatten_cons]
  exact Vals.append h (Vals.rep h k)
theorem vh{α:Type}:∀(l:List α) (i:Nat),(l.eraseIdx i).length≤l.length
 | [],_=>Nat.le_refl _
 |_::_,0=>Nat.le_succ _
 |_::r,i+1=>Nat.succ_le_succ (vh r i)
theorem foldl_rep(its:List Value):∀(k:Nat) (acc:List Value),
 List.foldl (fun x1 x2=>x1++x2) acc.toArray (List.replicate k its.toArray)=(acc++(List.replicate k its).flatten).toArray
 |0,acc=>by simp
 |k+1,acc=>by
  have e:acc.toArray++its.toArray=(acc++its).toArray:=by simp
  have e2:(acc++its)++(List.replicate k its).flatten=acc++(List.replicate (k+1) its).flatten:=by
   rw[List.replicate_succ,List.flatten_cons,List.append_assoc]
  rw[←e2,←foldl_rep its k (acc++its),←e,List.replicate_succ,List.foldl_cons]
section
variable {X:Cx}{pins:List (Addr×Obj)}{σ:St}{H:Hp}{s:Shared}{l b:Addr}{xs ys zs:List V}
theorem Inv.J8{its its':List Value}{n:Nat}{f:Array Value→Array Value}{t':Nat}(I:Inv X pins σ H s)(hH:H l=some (.lst xs))
 (e:s.heap.get? l=some {cls:= .type "list",data:= .seq its.toArray n}) (hf:f its.toArray=its'.toArray) (hv:Vals ys its') (hz:ys.length≤sizeLine):
 Inv X pins σ (upd H l (.lst ys)) {s with heap:=s.heap.update l (Obj.mapSeq f),toks:=t'}:=by
 have q:=PySem.IsL.update e f
 rw[hf]at q
 refine I.write (x:=l) (e:=l) (by rw[hH];exact trivial) (.inl rfl) (fun b' u hb hu=>(Heap.get?_update_other s.heap (Obj.mapSeq f) (Ne.symm hb)).trans hu) ⟨_,q⟩ ?_
 exact⟨hz,its',_,hv,q⟩
theorem Inv.ET{its:List Value}{t':Nat}(I:Inv X pins σ H s)(hv:Vals ys its)(hz:ys.length≤sizeLine):
 Inv X pins σ (upd H s.heap.objs.size (.lst ys)) {s with heap:=s.heap.push {cls:= .type "list",data:= .seq its.toArray},toks:=t'}:=
 I.laid (fun _ _ q=>Heap.get?_push_of_some _ q) (Nat.le_refl _) ⟨hz,its,0,hv,Heap.get?_push_size _ rfl⟩
theorem Inv.fresh(I:Inv X pins σ H s):H s.heap.objs.size=none:=I.aM.fresh (Nat.le_refl _)
theorem Inv.KC(I:Inv X pins σ H s)(hH:H l=some (.lst xs)):xs.length≤sizeLine∧∃(its:List Value) (n:Nat),Vals xs its∧xs.length=its.length∧s.heap.get? l=some {cls:= .type "list",data:= .seq its.toArray n}:=by
 obtain⟨z,its,n,r,e⟩:=I.aM l _ hH
 exact⟨z,its,n,r,r.length,e⟩
theorem Et{n:Nat}(h:n≤sizeLine):Builtin.List.listTooLong n=false:=by
 unfold Builtin.List.listTooLong
 exact decide_eq_false (by omega)
end
section
variable {X:Cx}
noncomputable def zF:V→List V→Hp→VK→Prop:=fun x vs H Q=>∃l xs y,x= .ref l∧vs=[y]∧H l=some (.lst xs)∧xs.length<sizeLine∧Q .aH (upd H l (.lst (xs++[y])))
theorem vm:MG X "list.append" zF:=by
 intro pins s σ H x vs v us Q I rx rv h
 obtain⟨l,xs,y,rfl,rfl,hH,hz,q⟩:=h
 cases rx
 obtain⟨u,rfl,ru⟩:=rv.one
 obtain⟨z,its,n,r,hl,e⟩:=I.KC hH
 refine call_meets F.slot_list_append ⟨_,e,rfl⟩ F.entry_list_append (F.args_list_append_2 _ _) (PySem.list_append l its.toArray n u (by rw[List.size_toArray];omega)) ⟨e,?_⟩
 refine⟨.aH,_,I.J8 (its':=its++[u]) hH e (by simp) (r.append (.cons ru .nil)) ?_,rfl,q⟩
 rw[List.length_append,List.length_singleton]
 omega
noncomputable def BV:V→List V→Hp→VK→Prop:=fun x vs H Q=>∃l xs i k y,x= .ref l∧vs=[.int i]∧H l=some (.lst xs)∧ -(2^63)≤i∧i<2^63∧seqIndex? i xs.length=some k∧xs[k]?=some y∧Q y (upd H l (.lst (xs.eraseIdx k)))
theorem Eb:MG X "list.pop" BV:=by
 intro pins s σ H x vs v us Q I rx rv h
 obtain⟨l,xs,i,k,y,rfl,rfl,hH,h1,h2,hk,hy,q⟩:=h
 cases rx
 obtain⟨u,rfl,ru⟩:=rv.one
 obtain⟨t,rfl⟩:=ru
 obtain⟨z,its,n,r,hl,e⟩:=I.KC hH
 obtain⟨w,hw,rw'⟩:=r.get hy
 refine call_meets F.slot_list_pop ⟨_,e,rfl⟩ F.entry_list_pop (F.args_list_pop_2 _ _)
  (MeetsSeq.list_pop_at l its.toArray n i t k w (fitsIndex_both h1 h2) (by rw[List.size_toArray,←hl];exact hk) (by rw[←Array.getElem?_toList];exact hw) (by rw[List.size_toArray];omega)) ⟨e,?_⟩
 refine⟨y,_,I.J8 (its':=its.eraseIdx k) hH e ?_ (r.eraseIdx k) ?_,rw',q⟩
 · show its.toArray.eraseIdxIfInBounds k=(its.eraseIdx k).toArray
   rw[List.eraseIdxIfInBounds_toArray]
 · have:=vh xs k
   omega
theorem len_rep{α:Type}(xs:List α)(k:Nat):(List.replicate k xs).flatten.length=k*xs.length:=by
 induction k with
 |zero=>simp
 |succ k ih=>rw[List.replicate_succ,List.flatten_cons,List.length_append,ih,Nat.succ_mul,Nat.add_comm]
end
section
variable {prog:Program}{w:World}{A:Around}{E:Value→Shared→Prop}{s:Shared}
set_option maxRecDepth 100000 in
end
section
variable {X:Cx}
end
end L2
namespace Att
open PySem PySem.W PySem.Calls PyProof.Rows
theorem tP{P:Params}{h:Heap}:∀(ns:List Int) (vs:List Value),WellAll P h vs (ns.map WData.int)→IntsAre vs ns:=by
 intro ns
 induction ns with
 |nil=>
  intro vs w
  rw[List.map_nil]at w
  cases w
  exact .nil
 |cons n ns ih=>
  intro vs w
  rw[List.map_cons]at w
  cases w with
  |cons a b=>
   cases a
   exact .cons _ _ (ih _ b)
theorem Cv{l:OpenLaw}{n:Nat}(hn:l.most=some n){P:Params}{h:Heap}{args:List WData}{vals:List Value}
 (hpre:l.row.toRowW.claim.pre args=true) (hwl:WellAll P h vals args):
 ∃a vs ns,vals=[Value.ref a]∧args=[WData.list (ns.map WData.int)]∧h.get? a=some {cls:= .type "list",data:= .seq vs.toArray}∧IntsAre vs ns∧ns.length≤n:=by
 have hsh:WShape.hasAll [] args [.list .int]=true:=(pre_splitW hpre).1
 have hc:l.pre.holds [] {args:=args}=true:=(pre_splitW hpre).2
 obtain⟨d,r,rfl,h1,h2⟩:=hasAllW_cons hsh
 obtain rfl:=hasAllW_nil h2
 obtain⟨xs,rfl,h3⟩:=hasW_list h1
 obtain⟨ns,rfl⟩:=items_int h3
 have hlen:ns.length≤n:=by
  unfold OpenLaw.pre at hc
  have h4:(WTm.not (.lt (.lit (.int (n:Int))) (.len (.arg 0)))).holds [] {args:=[.list (ns.map .int)]}=true:=by
   have h4:=(holds_andW hc).1
   rw[hn]at h4
   exact h4
  have h5:=condW_of h4 (w_not (w_lt w_lit (w_len_list (w_arg rfl))))
  rw[List.length_map]at h5
  refine Nat.le_of_not_lt fun q=>?_
  have q':(n:Int)<((ns.length:Nat):Int):=by omega
  first
   |(rw[decide_eq_true q']at h5;exact absurd h5 (by decide))
   |(simp at h5;omega)
 cases hwl with
 |cons w1 w2=>
  cases w2
  cases w1 with
  |list ho hall=>exact⟨_,_,ns,rfl,rfl,ho,tP ns _ hall,hlen⟩
theorem Cm(l:OpenLaw)(args:List WData):l.row.toRowW.claim.post args (.bool true) args=true:=
 postW_of (r:=l.row.toRowW) (X:=(true==true))
  (show WShape.has [] (.bool true) .bool=true by first|rfl|decide|simp[WShape.has,WShape.arms,WShape.armsAll])
  (show(WTm.eq .res (.lit (.bool true))).value [] {args:=args,res:=some (.bool true),after:=args}=some (.bool (true==true))from w_eq_bool (w_res rfl) w_lit) rfl
theorem yE{l:OpenLaw}{n:Nat}{q:Program}{loose:List Str}{XP:(Str→Option Value)→Heap→Prop}{YP:World→Heap→Prop}{d:DefRec}
 (hn:l.most=some n) (hdf:d.params.defaults=[])
 (call:∀(w:World) (s₀ s₁:Shared) (mg mb:Str→Option Value) (fa:Addr) (o:Obj) (pm cd doc:Value) (a:Addr) (vs:List Value) (ns:List Int),
   Ground q loose [] XP w s₀ mg mb s₁.heap→YP w s₁.heap→
   s₁.heap.get? fa=some o→o.data= .func (docDef d.name d.params d.body d.scope pm cd doc)→s₁.heap.CodeRec cd d.name→mg d.name=some (.ref fa)→
   s₁.heap.get? a=some {cls:= .type "list",data:= .seq vs.toArray}→IntsAre vs ns→ns.length≤n→s₁.gens= #[]→
   codeAny (model l.prog w) callerA (.call (.ref fa) ⟨[.ref a],[]⟩) (fun r s'=>r= .ok (.ret (.bool true))∧OldK s₁.heap s'.heap∧s'.os=s₁.os∧AllBare s'.gens) s₁):
 WalkO q loose XP YP l.row.toRowW d [] (fun f vs=>PySem.call f vs):=by
 intro w s₀ s₁ mg mb G Y fa o pm cd doc dV kV ho hd hcd hD hmg hg args vals as hpre hlay hrd hwl hlo
 obtain rfl:dV= .none:=Dflts.none hD hdf
 obtain rfl:kV= .none:=Dflts.noKw hD
 obtain⟨a,vs,ns,rfl,rfl,hobj,hints,hlen⟩:=Cv hn hpre hwl
 refine enter_call (codeAny_mono (call w s₀ s₁ mg mb fa o pm cd doc a vs ns G Y ho (fd_plain hd) hcd hmg hobj hints hlen hg) fun r s' hq=>?_)
 obtain⟨rfl,h2,h3,h4⟩:=hq
 exact⟨.inl ⟨.bool true,.bool true,[],rfl,fun _=>rfl,.bool true,Cm l _,fun _=>⟨List.Pairwise.nil,fun _ hm=>(nomatch hm)⟩⟩,h2,h3,h4⟩
section
variable {prog:Program}{w:World}{A:Around}{E:Value→Shared→Prop}{s:Shared}{K:Frag}
end
end Att
namespace L2
open PySem PySem.Spec PyProof.Rows
end L2
/-THE LAST THEOREM (shape;LID,My.*are yours):
 My.Adr:a structure of the addresses that your layer names (classes,functions);My.Txt K t:a structure (Prop) of the equations over K;
 My.txt_mk:{K} {implicit addresses ..} (e1:nsIn K mainGlobals "law"=some (some (.ref f))) (e2:K.lookup f=some ⟨oc,od,.func (fnOf "law" "law" params body scope dV kV doc pm an cdv ct),sl⟩) (e3:codeIn K cdv "law"=true) .. :∃t,My.Txt K t
set_option maxRecDepth 100000 in
set_option maxHeartbeats 0 in
(the tactic k_is has no namespace:write k_is)-/
namespace L2
open PySem PySem.Spec PyProof.Rows
noncomputable def inClass(s:Stmt)(j:Nat):Stmt:=match s with
 | .ClassDef _ _ _ body _ _ _ _ _ _ _=>body.getD j (.Pass ⟨0,0,0,0⟩)
 |_=> .Pass ⟨0,0,0,0⟩
noncomputable def aR(s:Stmt):Arguments:=match s with
 | .FunctionDef _ a _ _ _ _ _ _ _ _=>a
 |_=>{posonlyargs:=[],args:=[],vararg:=none,kwonlyargs:=[],kw_defaults:=[],kwarg:=none,defaults:=[]}
noncomputable def aN(s:Stmt):List Stmt:=match s with
 | .FunctionDef _ _ b _ _ _ _ _ _ _=>b
 |_=>[]
noncomputable def af(s:Stmt):Scope:=match s with
 | .FunctionDef _ _ _ _ _ _ sc _ _ _=>sc
 |_=>{kind:= .function,names:=[],isGenerator:=false,isCoroutine:=false}
noncomputable abbrev aD:r9:=fun _ _ _ _ _ _=>False
noncomputable abbrev E0:XK:=fun _ _ _=>False
theorem Ab{X:Cx}:Passes aD X E0:=fun _ _ _ _ _ _ _ h=>h.elim
structure oR(K:PySem.W.Frag)(x qual:Str)(st:Stmt)(f:Addr)(fd:FuncData):Prop where
 ex:∃(oc:Value) (od:Option Addr) (kV doc pm:Value) (an:Option Addr) (cdv ct:Value) (osl:Array (Option Value)),
  fd=PySem.W.fnOf x qual (aR st) (aN st) (af st) .none kV doc pm an cdv ct∧K.lookup f=some ⟨oc,od,.func fd,osl⟩∧PySem.W.codeIn K cdv qual=true
 kp:PySem.W.keepIn K (.ref f)=true
section
variable {P:Program}{w:World}{K:PySem.W.Frag}{mg:Str→Option Value}{base:Heap}
theorem oR.ok{x qual:Str}{st:Stmt}{f:Addr}{fd:FuncData}{N ps:List Str}{k:Nat}{sp:Sp}(F:oR K x qual st f fd)(S:aU N ps (af st))(len:∀vs H Q E,sp vs H Q E→vs.length=ps.length)
 (hbody:∀(cdv:Value) (A:Around) (outer:List Env) (s:Shared) (H:Hp) (vs:List V) (Q:VK) (E:XK),dg k (A.deeper (envOfC qual (af st) s.heap.objs.size f cdv))→sp vs H Q E→
   ∃t,iA (pA aD P w K mg base N qual (af st) f cdv A outer s H E).tW (aN st) t∧t {nx:=fun _ H'=>Q .aH H',rt:=Q} (start N vs) H):au P w K mg base aD (k+1) f fd ps sp:=by
 obtain⟨oc,od,kV,doc,pm,an,cdv,ct,osl,rfl,lk,hcd⟩:=F.ex
 refine E6 lk hcd S len fun A outer s H vs Q E hr hsp=>?_
 obtain⟨t,h,q⟩:=hbody cdv A outer s H vs Q E hr hsp
 exact⟨t,h.tW,q⟩
theorem oR.binds{x qual:Str}{st:Stmt}{f:Addr}{fd:FuncData}{ps:List Str}(F:oR K x qual st f fd)
 (h:∀(kV doc pm:Value) (an:Option Addr) (cdv ct:Value) (us:List Value),us.length=ps.length→bindArgs (PySem.W.fnOf x qual (aR st) (aN st) (af st) .none kV doc pm an cdv ct) ⟨us,[]⟩=pure (ps.zip us)):Binds K fd ps []:=by
 obtain⟨oc,od,kV,doc,pm,an,cdv,ct,osl,rfl,lk,hcd⟩:=F.ex
 exact .all (h kV doc pm an cdv ct)
theorem bF{x qual:Str}{st:Stmt}{f:Addr}{oc:Value}{od an:Option Addr}{osl:Array (Option Value)}{kV doc pm cdv ct:Value}(l:K.lookup f=some ⟨oc,od,.func (PySem.W.fnOf x qual (aR st) (aN st) (af st) .none kV doc pm an cdv ct),osl⟩)
 (c:PySem.W.codeIn K cdv qual=true) (k:PySem.W.keepIn K (.ref f)=true):oR K x qual st f (PySem.W.fnOf x qual (aR st) (aN st) (af st) .none kV doc pm an cdv ct):=⟨⟨oc,od,kV,doc,pm,an,cdv,ct,osl,rfl,l,c⟩,k⟩
end
section
variable {X:Cx}
end
theorem gG{A B:Prop}(h:A):if true=true then A else B:=by
 rw[if_pos rfl]
 exact h
noncomputable def Ey(H H':Hp):Prop:=∀b o,H b=some o→H' b=some o
end L2
set_option maxHeartbeats 4000000
namespace Hd
open PySem PySem.W PySem.Calls PyProof.Rows
noncomputable def bt (P:Params):BT:=(.node (boot_o_0 P) (.node (boot_o_1 P) (.node (boot_o_3 P) (.node (boot_o_7 P) .nil .nil) .nil) (.node (boot_o_5 P) (.node (boot_o_9 P) .nil .nil) .nil)) (.node (boot_o_2 P) (.node (boot_o_4 P) (.node (boot_o_8 P) .nil .nil) .nil) (.node (boot_o_6 P) (.node (boot_o_10 P) .nil .nil) .nil)))
theorem IV(P:Params):absHeap (bt P) 11 (boot_heap P).life=boot_heap P:=by kernel_rfl
noncomputable def run (p:Program) (w:World) (n:Nat) (ann:Option Value):Nat→SharedT→Thread→Option SharedT
 |0,_,_=>none
 |k+1,s,t=>match through t with
  |true=>some s
  |false=>match Fast.tw6613529449190102663 n ann t with
   |false=>none
   |true=>match Fast.tw10156331382660048174 (Fast.tw11892475500146522536 Fast.tw14364793385576792824) p w s t with
    |some (s',t')=>run p w n ann k s' t'
    |none=>none
theorem Bj{p:Program}{w:World}{n:Nat}{ann:Option Value}:∀ {k:Nat} {s s':SharedT} {t:Thread},run p w n ann k s t=some s'→topRun treeTable p w n ann k s.abs t=some s'.abs
 |0,_,_,_,h=>by cases h
 |k+1,s,s',t,h=>by
  unfold run at h
  unfold topRun
  cases he:through t with
  |true=>rw[he]at h;cases h;rfl
  |false=>
   rw[he]at h
   rw[←Fast.te6613529449190102663,←Fast.te10156331382660048174,←Fast.te11892475500146522536,←Fast.te14364793385576792824]at h
   cases hk:stepOk n ann t with
   |false=>simp only[hk]at h;cases h
   |true=>
    simp only[hk]at h
    cases hs:stepT (denote treeTable) p w s t with
    |none=>rw[hs]at h;cases h
    |some r=>obtain⟨s2,t2⟩:=r;rw[hs]at h;rw[stepT_spec hs];exact Bj h
noncomputable def b0 (w:World) (os:OsState):SharedT:=⟨bt w.params,11,(boot_heap w.params).life,⟨[]⟩,boot_drawn,boot_toks,os⟩
theorem Kv(w:World)(os:OsState):(b0 w os).abs=⟨boot_heap w.params,⟨[]⟩,boot_drawn,boot_toks,os⟩:=by
 unfold b0 SharedT.abs
 dsimp only
 rw[IV]
theorem left{p q:Program}{loose:List Str}{α:Type}{Yf:Shared→α}{Ya:World→α}{N:Nat}
 (e:opening p=plainProg p.main.scope.names) (f:∀s,fenceModules? p s=some s) (hN:Nat.ble 600 N=true)
 (h:∀(w:World) (os:OsState),(run p w 11 (some (.ref 6)) N (b0 w os) (topStub p)).bind (fun s=>match staticsOk (importedModules p.main.body) (boot_heap w.params) s.abs.heap&&namesBound p s.abs.heap&&gensDone s.abs&&laidKept (boot_heap w.params) s.abs.heap with
   |true=>some (Fast.tw4187177175401517315 q loose (importedModules p.main.body) (fun _=>true) true s.abs,Yf s.abs)
   |false=>none)=some (openGood q loose,Ya w)):LeftO p q loose (fun _=>true) Yf Ya N:=fun w=>by
 obtain⟨⟨hp,gs,d,k,os⟩,e1,e2⟩:=Option.map_eq_some_iff.mp (boot_open e hN f w)
 obtain⟨rfl,rfl,rfl,rfl⟩:hp=boot_heap w.params∧gs=⟨[]⟩∧d=boot_drawn∧k=boot_toks:=by simpa using e2
 obtain⟨s,r1,r2⟩:=Option.bind_eq_some_iff.mp (h w os)
 have r3:=Bj r1
 rw[Kv]at r3
 rw[←Fast.te4187177175401517315]at r2
 unfold openEnds
 rw[e1]
 show(topFrom treeTable p w N _).map _=_
 unfold topFrom
 rw[show((boot_heap w.params).isNs mainGlobals&&(⟨[]⟩:Array GenState).size==0)=true from by kernel_rfl]
 dsimp only
 rw[show(boot_heap w.params).objs.size=11 from by kernel_rfl,show(boot_heap w.params).nsMap mainGlobals "__annotations__"=some (.ref 6)from by kernel_rfl,r3]
 show((match staticsOk (importedModules p.main.body) (boot_heap w.params) s.abs.heap&&namesBound p s.abs.heap&&gensDone s.abs&&laidKept (boot_heap w.params) s.abs.heap with|true=>some s.abs|false=>none):Option Shared).map _=_
 cases z:(staticsOk (importedModules p.main.body) (boot_heap w.params) s.abs.heap&&namesBound p s.abs.heap&&gensDone s.abs&&laidKept (boot_heap w.params) s.abs.heap)with
 |false=>rw[z]at r2;cases r2
 |true=>rw[z]at r2;exact r2
noncomputable def fo(st:Stmt)(x q:Str)(pm cd:Value):Obj:=⟨.type "function",none,.func (fnOf x q (L2.aR st) (L2.aN st) (L2.af st) .none .none .none pm none cd .none),#[]⟩
noncomputable abbrev e(x:Str)(t:Nat)(v:Value):Str×Nat×Value:=(x,t,v)
noncomputable abbrev k(a:Addr)(o:Obj):Addr×Obj:=(a,o)
noncomputable def no(P:Params)(n:Nat)(l:List (Str×Nat×Value)):Obj:=⟨.type "dict",none,.dict (l.map fun e=>⟨PyData.keyHash P e.1,.str e.1 e.2.1,e.2.2⟩).toArray n,#[]⟩
end Hd
namespace L3
open PySem PySem.Spec PyProof.Rows L2
section
variable {prog:Program}{w:World}{A:Around}{R:Result→Shared→Prop}{s:Shared}
theorem yW{elt target iter:Expr}{ifs:List Expr}{scope:Scope}{pos:Pos}{it acc:Value}{env:Env}(I:Nat→Shared→Prop)
 (turn:∀n s,I n s→wpAny (model prog w) A (pyNext it) (fun r s₁=>match r with
   |none=>R (.ok .next) s₁
   |some v=>wpAny (model prog w) A (letOwnedTupleGo target it v) (fun _ s₀=>wpAny (model prog w) A (assign target env v) (fun _ s₂=>
     wpAny (model prog w) A (forIn ifs true fun c r=>if r=true then do let ok ←isTrue c env (eval c env);pure (ForInStep.yield ok)else pure (ForInStep.yield r)) (fun ok s₃=>
      if ok=true then wpAny (model prog w) A (eval elt env) (fun x s₄=>
       wpAny (model prog w) A (call (.builtin "list.append") [acc,x]) (fun _ s₅=>∃m,m<n∧I m s₅) (fun _ _=>False) s₄) (fun _ _=>False) s₃
      else∃m,m<n∧I m s₃) (fun _ _=>False) s₂) (fun _ _=>False) s₀) (fun _ _=>False) s₁) (fun _ _=>False) s)
 (n:Nat) (h:I n s):
 codeAny (model prog w) A (.compLoop (.ListComp elt [⟨target,iter,ifs,0⟩] scope pos) 0 it acc env) R s:=by
 refine codeAny_loop rfl I (fun n s hI=>?_) n h
 show wpAny _ A ((compTurn (.ListComp elt [⟨target,iter,ifs,0⟩] scope pos) 0 it acc env).onRaise (fun x=>do noteFrame x env;theTreesLotGoes x)) _ _ s
 refine wpAny_noted ?_
 rw[compTurn_list]
 refine wpAny_bind (wpAny_standAt (wpAny_bind (wpAny_mono (turn n s hI) (fun r s₁ h₁=>?_) fun _ _ h'=>h'.elim)))
 cases r with
 |none=>exact wpAny_pure h₁
 |some v=>
  refine wpAny_bind (wpAny_mono h₁ (fun _ s₀ h₀=>?_) fun _ _ h'=>h'.elim)
  refine wpAny_bind (wpAny_mono h₀ (fun _ s₂ h₂=>wpAny_bind (wpAny_mono h₂ (fun ok s₃ h₃=>?_) fun _ _ h'=>h'.elim)) fun _ _ h'=>h'.elim)
  cases ok with
  |false=>exact wpAny_pure ⟨rfl,h₃⟩
  |true=>
   exact wpAny_bind (wpAny_bind (wpAny_mono h₃ (fun x s₄ h₄=>wpAny_bind (wpAny_mono h₄ (fun _ s₅ h₅=>wpAny_pure (wpAny_pure ⟨rfl,h₅⟩)) fun _ _ h'=>h'.elim)) fun _ _ h'=>h'.elim))
end
noncomputable def dB(cells:List (Str×Addr)):List (Str×NameKind)→List (Str×Addr)→List (Str×Addr)
 | [],acc=>acc
 |(n,k)::r,acc=>if k== .free then(match cells.lookup n with|some c=>dB cells r ((n,c)::acc)|none=>dB cells r acc)else dB cells r acc
theorem df{cells:List (Str×Addr)}:∀(names:List (Str×NameKind)) (acc:List (Str×Addr)),(∀x c,acc.lookup x=some c→cells.lookup x=some c)→
 ∀x c,(dB cells names acc).lookup x=some c→cells.lookup x=some c
 | [],acc,h,x,c,e=>h x c e
 |(n,k)::r,acc,h,x,c,e=>by
  unfold dB at e
  split at e
  · split at e
    · rename_i d q
      refine df r _ (fun y b e'=>?_) x c e
      rw[List.lookup_cons]at e'
      split at e'
      · rename_i z
        cases e'
        have z':y=n:=by simpa using z
        rw[z'];exact q
      · exact h y b e'
    · exact df r _ h x c e
  · exact df r _ h x c e
theorem jd{cells:List (Str×Addr)}{x:Str}:∀(names:List (Str×NameKind)) (acc:List (Str×Addr)),(∃c,cells.lookup x=some c)→((x,NameKind.free)∈names∨∃c,acc.lookup x=some c)→
 ∃c,(dB cells names acc).lookup x=some c
 | [],acc,_,h=>by
   rcases h with h|h
   · simp at h
   · exact h
 |(n,k)::r,acc,hc,h=>by
  unfold dB
  split
  · rename_i hk
    split
    · rename_i d q
      refine jd r _ hc ?_
      rcases h with h|⟨c,h⟩
      · rcases List.mem_cons.mp h with e|e
        · cases e
          exact .inr ⟨d,by simp[List.lookup_cons]⟩
        · exact .inl e
      · refine .inr ?_
        rw[List.lookup_cons]
        split
        · exact⟨_,rfl⟩
        · exact⟨c,h⟩
    · rename_i q
      refine jd r _ hc ?_
      rcases h with h|h
      · rcases List.mem_cons.mp h with e|e
        · cases e
          obtain⟨c,hc⟩:=hc
          rw[hc]at q;cases q
        · exact .inl e
      · exact .inr h
  · rename_i hk
    refine jd r _ hc ?_
    rcases h with h|h
    · rcases List.mem_cons.mp h with e|e
      · cases e
        exact absurd rfl hk
      · exact .inl e
    · exact .inr h
theorem mL{scope:Scope}{env:Env}(h:∀x∈scope.names,x.2= .free→∃c,env.cells.lookup x.1=some c):closureFor scope env=pure (dB env.cells scope.names []):=by
 have key:∀(names:List (Str×NameKind)) (acc:List (Str×Addr)),(∀x∈names,x.2= .free→∃c,env.cells.lookup x.1=some c)→
  (forIn names acc (fun(x:Str×NameKind) (cs:List (Str×Addr))=>if(x.2==NameKind.free)=true then(do let a ←cellOf env x.1;pure (ForInStep.yield ((x.1,a)::cs)):Sem (ForInStep (List (Str×Addr))))else pure (ForInStep.yield cs)))=(pure (dB env.cells names acc):Sem (List (Str×Addr))):=by
  intro names
  induction names with
  |nil=>intro acc _;rfl
  |cons p r ih=>
   intro acc hh
   obtain⟨n,k⟩:=p
   rw[List.forIn_cons]
   have ih':=ih
   by_cases hk:(k==NameKind.free)=true
   · obtain⟨c,e⟩:=hh (n,k) List.mem_cons_self (by simpa using hk)
     simp only[hk,if_true]
     have e1:cellOf env n=pure c:=by
      unfold cellOf
      rw[e]
     rw[e1]
     simp only[pure_bind]
     rw[ih _ fun x hx=>hh x (List.mem_cons_of_mem _ hx)]
     conv=>rhs;unfold dB
     simp only[hk,if_true]
     rw[show env.cells.lookup n=some c from e]
   · have hk':(k==NameKind.free)=false:=by simpa using hk
     simp only[hk',Bool.false_eq_true,if_false,pure_bind]
     rw[ih _ fun x hx=>hh x (List.mem_cons_of_mem _ hx)]
     conv=>rhs;unfold dB
     simp only[hk',Bool.false_eq_true,if_false]
 unfold closureFor
 have:=key scope.names [] h
 rw[bind_pure]
 first
  |exact this
  |(simp only[bind_pure]at this⊢;exact this)
end L3
namespace L3
open PySem PySem.Spec L2
open PyProof.Rows hiding St
theorem jE(env:Env):∀(names:List (Str×NameKind)) (x:Str),
 (names.map fun(n,k)=>if(k==NameKind.free&&env.scope.kind== .function&&env.kindOf n==some .cell)then(n,NameKind.cell)else(n,k)).lookup x=
   (names.lookup x).map fun k=>if(k==NameKind.free&&env.scope.kind== .function&&env.kindOf x==some .cell)then NameKind.cell else k
 | [],_=>rfl
 |(n,k)::r,x=>by
  show List.lookup x ((if(k==NameKind.free&&env.scope.kind== .function&&env.kindOf n==some .cell)=true then(n,NameKind.cell)else(n,k))::_)=_
  cases hx:x==n with
  |true=>
   have e:x=n:=by simpa using hx
   subst e
   by_cases hc:(k==NameKind.free&&env.scope.kind== .function&&env.kindOf x==some .cell)=true
   · rw[if_pos hc];simp only[List.lookup_cons,beq_self_eq_true,Option.map_some];rw[if_pos hc]
   · rw[if_neg hc];simp only[List.lookup_cons,beq_self_eq_true,Option.map_some];rw[if_neg hc]
  |false=>
   by_cases hc:(k==NameKind.free&&env.scope.kind== .function&&env.kindOf n==some .cell)=true
   · rw[if_pos hc];simp only[List.lookup_cons,hx];exact jE env r x
   · rw[if_neg hc];simp only[List.lookup_cons,hx];exact jE env r x
theorem w4{env:Env}{scope:Scope}{x:Str}(h:scope.names.lookup x=some .free):(relabel scope env).names.lookup x=some .cell∨(relabel scope env).names.lookup x=some .free:=by
 have e:(relabel scope env).names.lookup x=_:=jE env scope.names x
 rw[e,h]
 simp only[Option.map_some]
 split
 · exact .inl rfl
 · exact .inr rfl
theorem wU{env:Env}{scope:Scope}{x:Str}(h:(relabel scope env).names.lookup x=some .cell∨(relabel scope env).names.lookup x=some .free):(x,NameKind.free)∈scope.names∨scope.names.lookup x=some .cell:=by
 have e:(relabel scope env).names.lookup x=_:=jE env scope.names x
 rw[e]at h
 cases q:scope.names.lookup x with
 |none=>rw[q]at h;rcases h with h|h<;>cases h
 |some k=>
  rw[q]at h
  simp only[Option.map_some]at h
  have m:=PySem.mem_of_lookup q
  by_cases hc:(k==NameKind.free&&env.scope.kind== .function&&env.kindOf x==some .cell)=true
  · have:k= .free:=by
     simp only[Bool.and_eq_true]at hc
     simpa using hc.1.1
    subst this;exact .inl m
  · rw[if_neg hc]at h
    rcases h with h|h
    · cases h;exact .inr rfl
    · cases h;exact .inl m
theorem gT:∀(names:List (Str×NameKind)) (L:Nat) (acc:List (Str×Addr)),cellsFrom L names acc=cellsFrom L names []++acc
 | [],_,_=>rfl
 |(n,k)::r,L,acc=>by
  unfold cellsFrom
  by_cases hk:(k==NameKind.cell)=true
  · rw[if_pos hk,if_pos hk,gT r (L+1) ((n,L)::acc),gT r (L+1) [(n,L)],List.append_assoc];rfl
  · rw[if_neg hk,if_neg hk];exact gT r L acc
theorem qG:∀ {names:List (Str×NameKind)} {L:Nat} {x:Str} {c:Addr},(x,c)∈cellsFrom L names []→(x,NameKind.cell)∈names
 | [],_,_,_,h=>by unfold cellsFrom at h;cases h
 |(n,k)::r,L,x,c,h=>by
  unfold cellsFrom at h
  by_cases hk:(k==NameKind.cell)=true
  · rw[if_pos hk,gT]at h
    have hk':k= .cell:=by simpa using hk
    subst hk'
    rcases List.mem_append.mp h with h|h
    · exact List.mem_cons_of_mem _ (qG h)
    · have:(x,c)=(n,L):=by simpa using h
      cases this
      exact List.mem_cons_self
  · rw[if_neg hk]at h
    exact List.mem_cons_of_mem _ (qG h)
theorem pH:∀ {l1 l2:List (Str×Addr)} {x:Str} {c:Addr},(l1++l2).lookup x=some c→l1.lookup x=some c∨(l1.lookup x=none∧l2.lookup x=some c)
 | [],_,_,_,h=> .inr ⟨rfl,h⟩
 |(n,d)::l1,l2,x,c,h=>by
  rw[List.cons_append,List.lookup_cons]at h
  rw[List.lookup_cons]
  cases hx:x==n with
  |true=>rw[hx]at h;exact .inl h
  |false=>rw[hx]at h;exact pH h
theorem se:∀ {l1 l2:List (Str×Addr)} {x:Str},l1.lookup x=none→(l1++l2).lookup x=l2.lookup x
 | [],_,_,_=>rfl
 |(n,d)::l1,l2,x,h=>by
  rw[List.lookup_cons]at h
  rw[List.cons_append,List.lookup_cons]
  cases hx:x==n with
  |true=>rw[hx]at h;cases h
  |false=>rw[hx]at h;exact se h
noncomputable def mD(scope:Scope)(C:Addr)(cl:List (Str×Addr)):List (Str×Addr):=cellsFrom (C+1) scope.names cl
theorem jt{scope:Scope}{C:Addr}{cl:List (Str×Addr)}{x:Str}{c:Addr}(h:(mD scope C cl).lookup x=some c):(x,c)∈cellsFrom (C+1) scope.names []∨cl.lookup x=some c:=by
 unfold mD at h
 rw[gT]at h
 rcases pH h with h|h
 · exact .inl (PySem.mem_of_lookup h)
 · exact .inr h.2
theorem Kh(names:List (Str×NameKind))(h:Heap){C:Addr}(e:h.objs.size=C+1):CellsOk (pushCells h names) (C+1) (cellsFrom (C+1) names []):=by
 have:=cellsFrom_ok names h (C+1) [] ⟨fun _ _ hm=>(nomatch hm),List.Pairwise.nil⟩ (by rw[e];exact Nat.le_refl _)
 rw[e]at this
 exact this
theorem nD{names:List (Str×NameKind)}{C:Addr}{x:Str}{c:Addr}:∀ {L:Nat},C≤L→(x,c)∈cellsFrom L names []→C≤c:=by
 induction names with
 |nil=>intro L _ h;unfold cellsFrom at h;cases h
 |cons p r ih=>
  obtain⟨n,k⟩:=p
  intro L hL h
  unfold cellsFrom at h
  by_cases hk:(k==NameKind.cell)=true
  · rw[if_pos hk,gT]at h
    rcases List.mem_append.mp h with h|h
    · exact ih (Nat.le_trans hL (Nat.le_succ L)) h
    · have:(x,c)=(n,L):=by simpa using h
      cases this
      exact hL
  · rw[if_neg hk]at h
    exact ih hL h
theorem own_apart{names:List (Str×NameKind)}{x y:Str}{c:Addr}:∀ {L:Nat},(x,c)∈cellsFrom L names []→(y,c)∈cellsFrom L names []→x=y:=by
 induction names with
 |nil=>intro L h;unfold cellsFrom at h;cases h
 |cons p r ih=>
  obtain⟨n,k⟩:=p
  intro L h1 h2
  unfold cellsFrom at h1 h2
  by_cases hk:(k==NameKind.cell)=true
  · rw[if_pos hk,gT]at h1 h2
    rcases List.mem_append.mp h1 with g1|g1<;>rcases List.mem_append.mp h2 with g2|g2
    · exact ih g1 g2
    · have e2:(y,c)=(n,L):=by simpa using g2
      have ec:c=L:=(Prod.mk.inj e2).2
      have:=nD (C:=L+1) (Nat.le_refl _) g1
      rw[ec]at this
      exact absurd this (Nat.not_succ_le_self _)
    · have e1:(x,c)=(n,L):=by simpa using g1
      have ec:c=L:=(Prod.mk.inj e1).2
      have:=nD (C:=L+1) (Nat.le_refl _) g2
      rw[ec]at this
      exact absurd this (Nat.not_succ_le_self _)
    · have e1:(x,c)=(n,L):=by simpa using g1
      have e2:(y,c)=(n,L):=by simpa using g2
      exact(Prod.mk.inj e1).1.trans (Prod.mk.inj e2).1.symm
  · rw[if_neg hk]at h1 h2
    exact ih h1 h2
theorem tf{M:Model}{A:Around}{E:Value→Shared→Prop}{s:Shared}{scope:Scope}{globals:Addr}{cl:List (Str×Addr)}{qual:Str}{env:Env}{Q:Env→Shared→Prop}
 (hQ:Q (newEnv scope s.heap.objs.size globals (mD scope s.heap.objs.size cl) qual none .none (some env) builtinsNs) {s with heap:=pushCells (s.heap.push {cls:= .type "dict",data:= .dict #[]}) scope.names}):
 wpAny M A (newFunctionEnv scope globals cl [] qual none .none (some env)) Q E s:=by
 simp only[newFunctionEnv,Option.isSome_some,if_true]
 refine wpAny_bind (wpAny_alloc ?_)
 refine wpAny_bind (wpAny_layCells _ (fun name kind cells=>by cases hkc:kind==NameKind.cell<;>simp[hkc]) _ _ _ _ ?_)
 rw[show({s with heap:=s.heap.push {cls:= .type "dict",data:= .dict #[]}}:Shared).heap.objs.size=s.heap.objs.size+1 from Heap.size_push ..]
 rw[List.forIn_nil]
 exact wpAny_bind (wpAny_pure (wpAny_pure hQ))
structure bI(X:Cx)(scope:Scope)(Nc:List Str)(fr:List (Option Nat)):Prop where
 kind:scope.kind= .function
 cells:∀x∈scope.names,x.2= .cell→scope.names.lookup x.1=some .cell
 names:∀x∈scope.names,x.2= .local→scope.names.lookup x.1=some .local
 free:∀x∈scope.names,x.2= .free→X.env.kindOf x.1=some .cell∨X.env.kindOf x.1=some .free
 len:fr.length=Nc.length
 map:∀(i j:Nat) (x:Str),Nc[i]?=some x→fr[i]?=some (some j)→X.N[j]?=some x∧scope.names.lookup x=some .free∧(X.env.kindOf x=some .cell∨X.env.kindOf x=some .free)
noncomputable def σC(fr:List (Option Nat))(σ:St):St:=fr.map fun o=>o.bind fun j=>(σ[j]?).join
noncomputable def fL(X:Cx)(scope:Scope)(Nc:List Str)(C:Addr)(s:Shared)(H:Hp)(ex:List Addr):Cx:=
 {X with N:=Nc,s₀:=s,H₀:=H,env:=compEnvC scope (mD scope C (dB X.env.cells scope.names [])) C X.env,outer:=X.stack,stack:=X.stack,ex:=ex,fn:=fun x=>scope.names.lookup x==some .cell,pn:=[],xe:=fun _ _=>False}
noncomputable def qP(wi:TI)(fr:List (Option Nat))(g:TG)(c:TT)(te:TE):TE:=fun σ H Q=>wi σ H fun J H1=>∀l,H1 l=none→
 ∃W:Nat→Nat→L2.St→Hp→Prop,(∃m,W 0 m (σC fr σ) (upd H1 l (.lst [])))∧∀i m σ H,W i m σ H→
  (J.stop i H∧Q (.ref l) H)∨(J.go i H∧∃N:L2.St→Hp→Prop,(∀σ' H',N σ' H'→∃m',m'<m∧W (i+1) m' σ' H')∧∀x H',J.oo i H x H'→
    g x σ H' fun σ2 H2=>c σ2 H2 fun b H3=>if b=true then te σ2 H3 fun y H4=>∃ys,H4 l=some (.lst ys)∧ys.length<sizeLine∧N σ2 (upd H4 l (.lst (ys++[y])))else N σ2 H3)
noncomputable def qc(X:Cx)(ifs:List Expr)(t:TT):Prop:=
 ∀(pins:List (Addr×Obj)) (s:Shared) (σ:St) (H:Hp) (Q:Bool→Hp→Prop),Inv X pins σ H s→t σ H Q→
  wpAny (model X.prog X.w) X.A (forIn ifs true fun c r=>if r=true then do let ok ←isTrue c X.env (eval c X.env);pure (ForInStep.yield ok)else pure (ForInStep.yield r)) (TP X pins σ Q) X.xe s
noncomputable def Lu:TT:=fun _ H Q=>Q true H
theorem GY{X:Cx}:qc X [] Lu:=fun _ _ _ H _ I h=>wpAny_tests_nil ⟨H,I,h⟩
theorem GI{X:Cx}{c:Expr}{t:TT}(h:PT X c t):qc X [c] t:=fun pins s σ H Q I q=>wpAny_tests_one (h pins s σ H Q I q)
section
variable {X:Cx}{scope:Scope}{Nc:List Str}{fr:List (Option Nat)}{pins:List (Addr×Obj)}{σ:St}{H:Hp}{s:Shared}
theorem Ji{C:Addr}{fp:List Addr}(S:bI X scope Nc fr)(I:Inv X pins σ H s)(hC:C=s.heap.objs.size)(hf:∀b∈fp,lb X pins H b)(hlt:∀b∈fp,b<s.heap.objs.size)(hnc:∀b∈fp,∀x c,X.env.cells.lookup x=some c→c≠b):
 (fL X scope Nc C s H fp).Ok where
 mod:=I.ok.mod
 kind:=S.kind
 glob:=I.ok.glob
 blt:=I.ok.blt
 above:=Nat.le_of_eq hC.symm
 inj:=fun x y c h1 h2=>by
  have low:∀ {z},(dB X.env.cells scope.names []).lookup z=some c→c<s.heap.objs.size:=fun{z} hz=>by
   obtain⟨v,q⟩:=I.cell z c (df _ [] (fun _ _ e=>by cases e) z c hz)
   exact q.lt
  rcases jt h1 with h1|h1<;>rcases jt h2 with h2|h2
  · exact own_apart h1 h2
  · have a:=nD (C:=C+1) (Nat.le_refl _) h1
    have b:c<C:=by rw[hC];exact low h2
    exact absurd a (Nat.not_le_of_gt (Nat.lt_succ_of_lt b))
  · have a:=nD (C:=C+1) (Nat.le_refl _) h2
    have b:c<C:=by rw[hC];exact low h1
    exact absurd a (Nat.not_le_of_gt (Nat.lt_succ_of_lt b))
  · exact I.ok.inj x y c (df _ [] (fun _ _ e=>by cases e) x c h1) (df _ [] (fun _ _ e=>by cases e) y c h2)
 has:=fun x hx=>by
  rcases wU hx with m|m
  · obtain⟨c,e⟩:=jd scope.names [] (I.ok.has x (S.free _ m rfl)) (.inl m)
    exact Option.isSome_iff_exists.mp (PySem.W.cellsFrom_some _ _ _ (.inr (by rw[e];rfl)))
  · exact Option.isSome_iff_exists.mp (PySem.W.cellsFrom_some _ _ _ (.inl m))
 xQ:=fun x c hf h=>by
  have hl:scope.names.lookup x=some .cell:=by
   have:(scope.names.lookup x==some .cell)=true:=hf
   simpa using this
  obtain⟨c',e⟩:=Option.isSome_iff_exists.mp (PySem.W.cellsFrom_some (x:=x) scope.names (C+1) [] (.inl hl))
  have h':(cellsFrom (C+1) scope.names []++dB X.env.cells scope.names []).lookup x=some c:=by
   rw[←gT];exact h
  rcases pH h' with q|q
  · have:=nD (C:=C+1) (Nat.le_refl _) (PySem.mem_of_lookup q)
    show s.heap.objs.size≤c
    rw[←hC];exact Nat.le_of_succ_le this
  · rw[q.1]at e;cases e
 hd:=I.ok.hd
 frames:=I.ok.frames
 zd:= .inl rfl
 C6:=fun b hb=>⟨by rw[show(fL X scope Nc C s H fp).env.locals=s.heap.objs.size from hC];exact Nat.ne_of_lt (hlt b hb),fun x c h=>by
  rcases jt h with h|h
  · have a:=nD (C:=C+1) (Nat.le_refl _) h
    have b':b<C:=by rw[hC];exact hlt b hb
    exact Nat.ne_of_gt (Nat.lt_of_lt_of_le b' (Nat.le_of_succ_le a))
  · exact hnc b hb x c (df _ [] (fun _ _ e=>by cases e) x c h)⟩
 bs:=I.bs
 qp:=Nat.le_trans I.ok.qp I.sz
 su:=fun b o e hb=>by
  have hn:=(hf b hb).2.2.2.1
  rcases hn with hn|hn
  · exact I.ok.su b o e hn
  · exact absurd (Heap.lt_size (I.ok.bs b o e).1) (Nat.not_lt.mpr hn)
 td:=fun b hb z=>by
  have q:=I.xo b z
  rcases List.mem_cons.mp q with q|q
  · exact(hf b hb).2.1 q
  · exact(hf b hb).2.2.1 q
 kB:=I.stack
 tJ:=fun b hb=>I.uC b hb
 gt:=I.ok.gt
theorem zC{i:Nat}{v:V}(h:(σC fr σ)[i]?=some (some v)):∃j,fr[i]?=some (some j)∧σ[j]?=some (some v):=by
 unfold σC at h
 rw[List.getElem?_map]at h
 cases q:fr[i]? with
 |none=>rw[q]at h;cases h
 |some o=>
  rw[q]at h
  cases o with
  |none=>simp at h
  |some j=>
   simp only[Option.map_some,Option.some.injEq,Option.bind_some]at h
   refine⟨j,rfl,?_⟩
   cases r:σ[j]? with
   |none=>rw[r]at h;cases h
   |some u=>rw[r]at h;simp at h;rw[h]
theorem Dv{s':Shared}{h':Heap}{C:Addr}{fp:List Addr}{t':Nat}(S:bI X scope Nc fr)(I:Inv X pins σ H s)(hC:C=s.heap.objs.size)(ok:(fL X scope Nc C s H fp).Ok)(hfr:∀b∈fp,H b=none)
 (k:∀b o,s.heap.get? b=some o→h'.get? b=some o) (hn:h'.Ns C (fun _=>none)) (hcs:∀x c,(x,c)∈cellsFrom (C+1) scope.names []→h'.IsCell c none):Inv (fL X scope Nc C s H fp) [] (σC fr σ) H {s with heap:=h',toks:=t'} where
 ok:=ok
 os:=rfl
 bare:=I.bare
 base:=Un.kept k
 loc:=⟨_,hn,fun i x v h1 h2 h3=>by
  obtain⟨j,q1,q2⟩:=zC h2
  obtain⟨n1,n2,n3⟩:=S.map i j x h1 q1
  obtain⟨m,hm,hl⟩:=I.loc
  have vis:wV X.env.scope x:=by
   rcases n3 with z|z
   · exact .inr (.inl z)
   · exact .inr (.inr z)
  obtain⟨u,r,lk⟩:=hl j x v n1 q2 vis
  refine⟨u,r,?_⟩
  rcases lk with⟨z,_⟩|⟨z,c,e,ic⟩
  · rcases n3 with y|y
    · rw[y]at z;cases z
    · rw[y]at z;cases z
  · refine .inr ⟨w4 n2,?_⟩
    obtain⟨c',e'⟩:=jd scope.names [] ⟨c,e⟩ (.inl (PySem.mem_of_lookup n2))
    have e2:=df _ [] (fun _ _ e=>by cases e) x c' e'
    rw[e]at e2;cases e2
    refine⟨c,?_,ic.keeps k⟩
    show(mD scope C (dB X.env.cells scope.names [])).lookup x=some c
    unfold mD
    rw[gT,se ?_]
    · exact e'
    · cases q:(cellsFrom (C+1) scope.names []).lookup x with
      |none=>rfl
      |some c2=>
       have:=S.cells _ (qG (PySem.mem_of_lookup q)) rfl
       rw[n2]at this;cases this⟩
 cell:=fun x c h=>by
  rcases jt h with h|h
  · exact⟨_,hcs x c h⟩
  obtain⟨v,q⟩:=I.cell x c (df _ [] (fun _ _ e=>by cases e) x c h)
  exact⟨v,q.keeps k⟩
 free:=by show H C=none;rw[hC];exact I.aM.fresh (Nat.le_refl _)
 i6:=fun x c h=>by
  rcases jt h with h|h
  · have a:=nD (C:=C+1) (Nat.le_refl _) h
    exact I.aM.fresh (by rw[←hC];exact Nat.le_of_succ_le a)
  · exact I.i6 x c (df _ [] (fun _ _ e=>by cases e) x c h)
 pin:=fun p hp=>by cases hp
 aM:=I.aM.kept k
 len:=by unfold σC;rw[List.length_map];exact S.len
theorem Inv.forget{C:Addr}{h':Heap}(I:Inv X pins σ H s)(f:lb X pins H C)(hs:Heap.SameBut C s.heap h'):Inv X pins σ H {s with heap:=h'}:=by
 refine I.Ax (s':={s with heap:=h'}) (ch:=[C]) rfl ?_ ?_ I.bare fun b hb=>?_
 · have ne:∀b,b∉[C]→b≠C:=fun b hb z=>hb (by simp[z])
   exact{keep:=fun b o q _ _ hx=>(hs.2 b (ne b hx)).trans q,slot:=fun b o q _ _ hx=>⟨o.slots,(hs.2 b (ne b hx)).trans q⟩,free:=fun b o q n _=>n,there:=fun b o q hx=>⟨o,(hs.2 b (ne b hx)).trans q⟩,ox:=fun _ _ e=>e,nJ:=fun _ _ _ e=>e,nG:=fun b ps e=>⟨#[],by rw[e];simp⟩}
 · intro a o q
   have na:∀b u,H b=some u→b≠C:=fun b u q z=>by rw[z,f.1]at q;cases q
   refine(I.aM a o q).ou (fun b u hb e=>?_) (fun _ q=>q) fun _ _ q=>q
   rw[hs.2 b ?_]
   · exact e
   · rcases hb with rfl|hb
     · exact na _ _ q
     · exact na _ _ hb
 · have:b=C:=by simpa using hb
   subst this
   exact⟨f.2.2.2.1,f.2.1,f.2.2.2.2.1,f.2.2.2.2.2⟩
theorem uv{elt tg iter:Expr}{ifs:List Expr}{wi:TI}{g:TG}{c:TT}{te:TE}{pos:Pos}{Q:VK}{RR:Value→Addr→Result→Shared→Prop}(hx:X.xe=fun _ _=>False)(hc:X.calm=true)(S:bI X scope Nc fr)(hi:PI X tg iter wi)
 (hg:∀C s H ex,PG (fL X scope Nc C s H ex) tg g) (ht:∀C s H ex,qc (fL X scope Nc C s H ex) ifs c) (he:∀C s H ex,PE (fL X scope Nc C s H ex) elt te) (I:Inv X pins σ H s) (h:qP wi fr g c te σ H Q)
 (fin:∀(l C:Addr) (s6:Shared) (H5:Hp) (m:Str→Option Value),s6.heap.Ns C m→lb X pins H5 C→Inv X pins σ H5 s6→Q (.ref l) H5→RR (.ref l) C (.ok .next) s6):
 wpAny (model X.prog X.w) X.A (eval iter X.env) (fun x s₁=>wpAny (model X.prog X.w) X.A (pyIter x) (fun it s₂=>wpAny (model X.prog X.w) X.A (newList []) (fun acc s₃=>
  wpAny (model X.prog X.w) X.A (newFunctionEnv scope X.env.globals (dB X.env.cells scope.names []) [] X.env.qual none .none (some X.env)) (fun cenv s₄=>
   codeAny (model X.prog X.w) X.A (.compStart (.ListComp elt [⟨tg,iter,ifs,0⟩] scope pos) 0 it acc {cenv with scope:=relabel scope X.env}) (RR acc cenv.locals) s₄) X.xe s₃) X.xe s₂) X.xe s₁) X.xe s:=by
 refine cv (hi pins s σ H _ I h) fun v s1 h1=>cv h1 fun itv s2 h2=>?_
 obtain⟨it,fp,tn,J,H2,e,I2,T,st2,f2,hR⟩:=h2
 subst e
 refine wpAny_newList ?_ (Nat.zero_le _)
 have I3:=I2.ET (t':=s2.toks) (its:=[]) (ys:=[]) .nil (Nat.zero_le _)
 generalize e3:({s2 with heap:=s2.heap.push {cls:= .type "list",data:= .seq ([]:List Value).toArray}}:Shared)=s3
 have I3:Inv X pins σ (upd H2 s2.heap.objs.size (.lst [])) s3:=by rw[←e3];exact I3
 have ml:s2.heap.objs.size<s3.heap.objs.size:=by rw[←e3];show _<(s2.heap.push _).objs.size;rw[Heap.size_push];omega
 have k3:∀b o,s2.heap.get? b=some o→s3.heap.get? b=some o:=fun b o q=>by rw[←e3];exact Heap.get?_push_of_some _ q
 obtain⟨W,⟨m0,w0⟩,turn⟩:=hR s2.heap.objs.size (I2.aM.fresh (Nat.le_refl _))
 refine tf ?_
 have hn:(pushCells (s3.heap.push {cls:= .type "dict",data:= .dict #[]}) scope.names).Ns s3.heap.objs.size (fun _=>none):=(Heap.Ns.new s3.heap (.type "dict")).keeps (pushCells_keeps _ _)
 have hcs:∀x c,(x,c)∈cellsFrom (s3.heap.objs.size+1) scope.names []→(pushCells (s3.heap.push {cls:= .type "dict",data:= .dict #[]}) scope.names).IsCell c none:=fun x c h=>((Kh scope.names _ (Heap.size_push ..)).empty x c h).1
 have k4:∀b o,s3.heap.get? b=some o→(pushCells (s3.heap.push {cls:= .type "dict",data:= .dict #[]}) scope.names).get? b=some o:=fun b o q=>pushCells_keeps _ _ b o (Heap.get?_push_of_some _ q)
 generalize(pushCells (s3.heap.push {cls:= .type "dict",data:= .dict #[]}) scope.names)=h' at hn hcs k4⊢
 have hobj:∀b∈fp,∃o,s2.heap.get? b=some o∧∀v,o.data≠ .cell v:=T.obj _ _ st2
 have hlt2:∀b∈fp,b<s3.heap.objs.size:=fun b hb=>let⟨o,q,_⟩:=hobj b hb;Heap.lt_size (k3 b o q)
 have hnl:∀b∈fp,b≠s2.heap.objs.size:=fun b hb=>by
  obtain⟨o,q,_⟩:=hobj b hb
  exact Nat.ne_of_lt (Heap.lt_size q)
 have f3:∀b∈fp,lb X pins (upd H2 s2.heap.objs.size (.lst [])) b:=fun b hb=>⟨by rw[aP (hnl b hb)];exact(f2 b hb).1,(f2 b hb).2⟩
 have ok:=Ji (C:=s3.heap.objs.size) (fp:=fp) S I3 rfl f3 hlt2 fun b hb=>(f2 b hb).2.2.2.2.1
 have I4:Inv (fL X scope Nc s3.heap.objs.size s3 (upd H2 s2.heap.objs.size (.lst [])) fp) [] (σC fr σ) (upd H2 s2.heap.objs.size (.lst [])) {s3 with heap:=h',toks:=s3.toks}:=
  Dv (s':=s3) S I3 rfl ok (fun b hb=>(f3 b hb).1) k4 hn hcs
 have st4:tn 0 h':=T.keep _ _ _ st2 fun b _ o q=>k4 b o (k3 b o q)
 generalize hXc:fL X scope Nc s3.heap.objs.size s3 (upd H2 s2.heap.objs.size (.lst [])) fp=Xc at I4
 have hgc:PG Xc tg g:=by rw[←hXc];exact hg _ _ _ _
 have htc:qc Xc ifs c:=by rw[←hXc];exact ht _ _ _ _
 have hec:PE Xc elt te:=by rw[←hXc];exact he _ _ _ _
 have xP:Xc.prog=X.prog:=by rw[←hXc];rfl
 have xW:Xc.w=X.w:=by rw[←hXc];rfl
 have xK:Xc.K=X.K:=by rw[←hXc];rfl
 have xc:Xc.calm=true:=by rw[←hXc];exact hc
 have xA:Xc.A=X.A:=by rw[←hXc];rfl
 have xE:Xc.env=compEnvC scope (mD scope s3.heap.objs.size (dB X.env.cells scope.names [])) s3.heap.objs.size X.env:=by rw[←hXc];rfl
 have xx:Xc.xe=fun _ _=>False:=by rw[←hXc];rfl
 have fpc:∀ {H':Hp},(∀b∈fp,H' b=none)→∀b∈fp,lb Xc [] H' b:=fun{H'} hn b hb=>by
  rw[←hXc]
  refine⟨hn b hb,Nat.ne_of_lt (hlt2 b hb),ok.td b hb,.inl hb,(ok.C6 b hb).2,fun p hp=>by cases hp⟩
 have loop:codeAny (model X.prog X.w) X.A (.compLoop (.ListComp elt [⟨tg,iter,ifs,0⟩] scope pos) 0 (.ref it) (.ref s2.heap.objs.size) (compEnvC scope (mD scope s3.heap.objs.size (dB X.env.cells scope.names [])) s3.heap.objs.size X.env))
  (RR (.ref s2.heap.objs.size) s3.heap.objs.size) {s3 with heap:=h',toks:=s3.toks}:=by
  refine yW (fun n s'=>∃i σ' H',Inv Xc [] σ' H' s'∧tn i s'.heap∧(∀b∈fp,H' b=none)∧W i n σ' H') ?_ m0 ⟨0,_,_,I4,st4,fun b hb=>(f3 b hb).1,w0⟩
  rintro n s5 ⟨i,σ5,H5,I5,st5,fr5,w5⟩
  rcases turn i n σ5 H5 w5 with⟨stop,qn⟩|⟨go,N,hN,step⟩
  · have q:=T.done Xc xP xW xK xc i [] s5 σ5 H5 (fun _ _=>False) I5 (fpc fr5) st5 stop
    rw[xA]at q
    refine cv q fun r s6 ⟨hr,I6⟩=>?_
    subst hr
    obtain⟨m,hm,_⟩:=I6.loc
    rw[xE]at hm
    have free6:H5 s3.heap.objs.size=none:=by have:=I6.free;rw[xE]at this;exact this
    have un6:Un (oN X.stack) fp (upd H2 s2.heap.objs.size (.lst [])) H5 s3.heap s6.heap:=by have:=I6.base;rw[←hXc]at this;exact this
    have os6:s6.os=s3.os:=by have:=I6.os;rw[←hXc]at this;exact this
    have hok6:iP X.prog X.w H5 s6.heap:=by have:=I6.aM;rw[xP,xW]at this;exact this
    have J:=I3.Ax (s':=s6) (ch:=fp) os6 un6 hok6 I6.bare fun b hb=>⟨(f3 b hb).2.2.2.1,(f3 b hb).2.1,(f3 b hb).2.2.2.2.1,(f3 b hb).2.2.2.2.2⟩
    exact fin _ _ s6 H5 m hm (I3.sQ (Nat.le_refl _) free6) J qn
  · have q:=T.item Xc xP xW xK xc i [] s5 σ5 H5 (fun _ _=>False) I5 (fpc fr5) st5 go
    rw[xA]at q
    refine cv q fun r s6 ⟨u,hr,h6⟩=>?_
    subst hr
    refine cv h6 fun _ s7 ⟨x,H7,I7,r7,y7,st7,fr7⟩=>?_
    have I7':=I7.pinned (fpc fr7) (T.obj _ _ st7)
    have q8:=hgc _ s7 σ5 H7 x u _ I7' r7 (step x H7 y7)
    rw[xP,xW,xA,xE,xx]at q8
    refine cv q8 fun _ s8 ⟨σ8,H8,I8,q8⟩=>?_
    have q9:=htc _ s8 σ8 H8 _ I8 q8
    rw[xP,xW,xA,xE,xx]at q9
    refine cv q9 fun b s9 ⟨H9,I9,q9⟩=>?_
    have again:∀ {H':Hp} {s':Shared},Inv Xc ([]++qi fp s7.heap) σ8 H' s'→N σ8 H'→∃m,m<n∧∃i σ' H',Inv Xc [] σ' H' s'∧tn i s'.heap∧(∀b∈fp,H' b=none)∧W i m σ' H':=fun{H' s'} J nn=>by
     obtain⟨m',hm,w7⟩:=hN σ8 H' nn
     refine⟨m',hm,i+1,σ8,H',J.iJ,T.keep _ _ _ st7 fun b hb o e=>(J.pin (b,o) (List.mem_append_right _ (List.mem_append_right _ (mV hb e)))).1,fun b hb=>?_,w7⟩
     obtain⟨o,e,d⟩:=T.obj _ _ st7 b hb
     exact(J.pin (b,o) (List.mem_append_right _ (List.mem_append_right _ (mV hb e)))).2.1
    cases b with
    |false=>exact again I9 q9
    |true=>
     have qe:=hec _ s9 σ8 H9 _ I9 q9
     rw[xP,xW,xA,xE,xx]at qe
     refine cv qe fun y s10 ⟨vy,H10,I10,ry,ys,hy,hlt,qN⟩=>?_
     have qa:=vm (X:=Xc) _ s10 σ8 H10 (.ref s2.heap.objs.size) [vy] (.ref s2.heap.objs.size) [y] (fun _ H'=>N σ8 H') I10 rfl (.cons ry .nil) ⟨_,ys,vy,rfl,rfl,hy,hlt,qN⟩
     rw[xP,xW,xA,xx]at qa
     exact cv qa fun _ s11 ⟨_,H11,I11,_,q11⟩=>again I11 q11
 refine codeAny_compStart_list ?_ ?_
 · exact loop
 · exact T.self _ 0 _ _ _ st4 loop
theorem zA{elt tg iter:Expr}{ifs:List Expr}{wi:TI}{g:TG}{c:TT}{te:TE}{pos:Pos}(hx:X.xe=fun _ _=>False)(hc:X.calm=true)(S:bI X scope Nc fr)(hi:PI X tg iter wi)
 (hg:∀C s H ex,PG (fL X scope Nc C s H ex) tg g) (ht:∀C s H ex,qc (fL X scope Nc C s H ex) ifs c) (he:∀C s H ex,PE (fL X scope Nc C s H ex) elt te)
 (hs:∀x,foldedSetIterable iter X.env x=pure x:=by intro _;rfl):PE X (.ListComp elt [⟨tg,iter,ifs,0⟩] scope pos) (qP wi fr g c te):=by
 intro pins s σ H Q I h
 rw[eval_ListComp]
 have hcl:closureFor scope X.env=pure (dB X.env.cells scope.names []):=mL fun x hx hk=>I.ok.has x.1 (S.free x hx hk)
 refine wpAny_comprehension_free rfl hs hcl S.kind S.names ?_
 exact uv (RR:=fun acc C=>compPost (model X.prog X.w) X.A X.xe none (EP X pins σ Q) acc C) hx hc S hi hg ht he I h fun l C s6 H5 m hm f J q=>⟨m,hm,fun h'' hs''=>⟨.ref l,H5,Inv.forget J f hs'',rfl,q⟩⟩
theorem zJ{elt tg iter:Expr}{ifs:List Expr}{wi:TI}{g:TG}{c:TT}{te:TE}{pos pos' spos:Pos}{i:Nat}{x:Str}(hx:X.xe=fun _ _=>False)(hc:X.calm=true)(S:bI X scope Nc fr)(hi:PI X tg iter wi)
 (hg:∀C s H ex,PG (fL X scope Nc C s H ex) tg g) (ht:∀C s H ex,qc (fL X scope Nc C s H ex) ifs c) (he:∀C s H ex,PE (fL X scope Nc C s H ex) elt te) (hN:X.N.Nodup) (hni:X.N[i]?=some x) (hl:Loc X.env.scope x) (hf:X.fn x=true∨X.env.scope.names.lookup x=some .local)
 (hsw:swapsWith (.ListComp elt [⟨tg,iter,ifs,0⟩] scope pos) (some (.Name x pos')) spos.line X.env=pure true)
 (hs:∀x,foldedSetIterable iter X.env x=pure x:=by intro _;rfl):PS X (.Assign [.Name x pos'] (.ListComp elt [⟨tg,iter,ifs,0⟩] scope pos) spos) (kR (qP wi fr g c te) (jy i)):=by
 intro pins s σ H D I h
 have hcl:closureFor scope X.env=pure (dB X.env.cells scope.names []):=mL fun x hx hk=>I.ok.has x.1 (S.free x hx hk)
 rw[exec_Assign_Name_used _ _ _ _ hsw]
 refine wpAny_bind (wpAny_standAt (wpAny_bind ?_))
 show wpAny _ X.A (do let _ ←comprehension (.ListComp elt [⟨tg,iter,ifs,0⟩] scope pos) scope X.env _ (newList []) false (eval iter X.env) (some (assign (.Name x pos') X.env))) _ _ s
 refine wpAny_bind (wpAny_mono (wpAny_comprehension_free (use:=some (assign (.Name x pos') X.env)) (Q:=fun _ s'=>SP X pins D .next s') rfl hs hcl S.kind S.names
  (uv (RR:=fun acc C=>compPost (model X.prog X.w) X.A X.xe (some (assign (.Name x pos') X.env)) (fun _ s'=>SP X pins D .next s') acc C) hx hc S hi hg ht he I h fun l C s6 H5 m hm f J q=>?_)) (fun _ s' hq=>wpAny_pure (wpAny_pure hq)) fun _ _ e=>e)
 show wpAny _ X.A (assign (.Name x pos') X.env (.ref l)) _ _ _
 refine wpAny_assign_Name (vt J hN hni hl (show RelV (.ref l) (.ref l)from rfl) (fun s7 J7 hch=>?_) hf)
 obtain⟨a,hsame,ha⟩:=hch
 have hCa:C≠a:=by
  rcases ha with rfl|ha
  · exact f.2.1
  · exact fun z=>f.2.2.2.2.1 x a ha z.symm
 refine⟨m,hm.sameBut hsame hCa,fun h'' hs''=>⟨σ.set i (some (.ref l)),H5,Inv.forget J7 f hs'',q⟩⟩
end
end L3
namespace L3
open PySem PySem.Spec L2
open PyProof.Rows hiding St
inductive D where
 |aH|bl (b:Bool)|int (i:Int)|str (x:Str)|ty (n:String)|ref (n:Nat)|lst (xs:List D)|tup (xs:List D)
inductive Cell where
 |lst (xs:List D)|ins (C:Addr) (fs:List (Str×D))|dead
  |tab (P:Addr) (pos:Pos) (qual:Str) (b:Bool)
noncomputable abbrev ai:=List Cell
noncomputable abbrev bN:=List (Option D)
mutual
noncomputable def Rep(α:List (Option Addr))(H:Hp):D→V→Prop
 | .aH,v=>v= .aH
 | .bl b,v=>v= .bl b
 | .int i,v=>v= .int i
 | .str x,v=>v= .str x
 | .ty n,v=>v= .ty n
 | .ref n,v=>α[n]?=some none∨∃a,α[n]?=some (some a)∧v= .ref a
 | .lst xs,v=>∃a vs,v= .ref a∧some a∉α∧Rd H a (.lst vs)∧aO α H xs vs
 | .tup xs,v=>∃a vs,v= .ref a∧some a∉α∧H a=some (.tup vs)∧aO α H xs vs
noncomputable def aO(α:List (Option Addr))(H:Hp):List D→List V→Prop
 | [],vs=>vs=[]
 |d::ds,vs=>∃v r,vs=v::r∧Rep α H d v∧aO α H ds r
end
theorem aZ{α:List (Option Addr)}{H:Hp}:∀ {ds:List D} {vs:List V},aO α H ds vs↔Paired (Rep α H) ds vs
 | [],vs=>by
   unfold aO
   constructor
   · rintro rfl;exact .nil
   · intro h;cases h;rfl
 |d::ds,vs=>by
  unfold aO
  constructor
  · rintro⟨v,r,rfl,h1,h2⟩;exact .cons h1 (aZ.mp h2)
  · intro h;cases h with|cons h1 h2=>exact⟨_,_,rfl,h1,aZ.mpr h2⟩
section
variable {α:List (Option Addr)}{H:Hp}
theorem aO.length{ds:List D}{vs:List V}(h:aO α H ds vs):ds.length=vs.length:=Paired.length (aZ.mp h)
theorem t8{A B:Type}{F:A→B→Prop}:∀ {xs:List A} {ys:List B} {i:Nat} {x:A},Paired F xs ys→xs[i]?=some x→∃y,ys[i]?=some y∧F x y
 |_,_,_,_,.nil,e=>by simp at e
 |_,_,0,_,.cons r _,e=>by simp at e;subst e;exact⟨_,rfl,r⟩
 |_,_,i+1,x,.cons _ t,e=>by
  obtain⟨u,h1,h2⟩:=t8 (i:=i) (x:=x) t (by simpa using e)
  exact⟨u,by simpa using h1,h2⟩
theorem fF{A B:Type}{F:A→B→Prop}:∀ {xs xs':List A} {ys ys':List B},Paired F xs ys→Paired F xs' ys'→Paired F (xs++xs') (ys++ys')
 |_,_,_,_,.nil,s=>s
 |_,_,_,_,.cons r t,s=> .cons r (fF t s)
theorem sd{A B:Type}{F:A→B→Prop}:∀ {xs:List A} {ys:List B} (n:Nat),Paired F xs ys→Paired F (xs.take n) (ys.take n)
 |_,_,0,_=> .nil
 |_,_,_+1,.nil=> .nil
 |_,_,n+1,.cons r t=> .cons r (sd n t)
theorem r8{A B:Type}{F:A→B→Prop}:∀ {xs:List A} {ys:List B} (n:Nat),Paired F xs ys→Paired F (xs.drop n) (ys.drop n)
 |_,_,0,r=>r
 |_,_,_+1,.nil=> .nil
 |_,_,n+1,.cons _ t=>r8 n t
theorem o7{A B:Type}{F:A→B→Prop}{x:A}{y:B}(r:F x y):∀ {xs:List A} {ys:List B} (i:Nat),Paired F xs ys→Paired F (xs.set i x) (ys.set i y)
 |_,_,_,.nil=> .nil
 |_,_,0,.cons _ t=> .cons r t
 |_,_,i+1,.cons q t=> .cons q (o7 r i t)
theorem lj{A B:Type}{F:A→B→Prop}{xs:List A}{ys:List B}(h:Paired F xs ys):∀k:Nat,Paired F (List.replicate k xs).flatten (List.replicate k ys).flatten
 |0=> .nil
 |k+1=>by
  rw[List.replicate_succ,List.replicate_succ,List.flatten_cons,List.flatten_cons]
  exact fF h (lj h k)
theorem aO.get{ds:List D}{vs:List V}{i:Nat}{d:D}(h:aO α H ds vs)(e:ds[i]?=some d):∃v,vs[i]?=some v∧Rep α H d v:=t8 (aZ.mp h) e
end
structure Step(α:List (Option Addr))(H:Hp)(α':List (Option Addr))(H':Hp):Prop where
 ext:∀b o,some b∉α→H b=some o→H' b=some o
 pre:∀(n:Nat) (x:Option Addr),α[n]?=some x→α'[n]?=some x∨α'[n]?=some none
 new:∀b,some b∈α'→some b∉α→H b=none
theorem Step.refl{α:List (Option Addr)}{H:Hp}:Step α H α H:=⟨fun _ _ _ h=>h,fun _ _ h=> .inl h,fun _ h n=>absurd h n⟩
theorem Step.trans{α α1 α2:List (Option Addr)}{H H1 H2:Hp}(a:Step α H α1 H1)(b:Step α1 H1 α2 H2):Step α H α2 H2 where
 ext:=fun c o hc e=>b.ext c o (fun z=>by rw[a.new c z hc]at e;cases e) (a.ext c o hc e)
 pre:=fun n x e=>by
  rcases a.pre n x e with h|h
  · exact b.pre n x h
  · rcases b.pre n none h with h'|h'
    · exact .inr h'
    · exact .inr h'
 new:=fun c hc n=>by
  by_cases h1:some c∈α1
  · exact a.new c h1 n
  · have:=b.new c hc h1
    cases q:H c with
    |none=>rfl
    |some o=>rw[a.ext c o n q]at this;cases this
theorem Step.laid{α:List (Option Addr)}{H:Hp}{p:Addr}{o:HO}(h:H p=none):Step α H α (upd H p o):=
 ⟨fun b u _ e=>by rw[aP (dQ e h)];exact e,fun _ _ h=> .inl h,fun _ h n=>absurd h n⟩
theorem Step.cell{α:List (Option Addr)}{H:Hp}{p:Addr}{o:HO}(h:H p=none):Step α H (α++[some p]) (upd H p o):=
 ⟨fun b u _ e=>by rw[aP (dQ e h)];exact e,fun n x e=> .inl (by rw[List.getElem?_append_left (List.getElem?_eq_some_iff.mp e).1];exact e),fun b hb n=>by
  rcases List.mem_append.mp hb with z|z
  · exact absurd z n
  · have:b=p:=by simpa using z
    subst this;exact h⟩
theorem Step.write{α:List (Option Addr)}{H:Hp}{p:Addr}{o:HO}(h:some p∈α):Step α H α (upd H p o):=
 ⟨fun b u n e=>by rw[aP (fun z=>by subst z;exact n h)];exact e,fun _ _ h=> .inl h,fun _ h n=>absurd h n⟩
mutual
theorem Rep.step{α α':List (Option Addr)}{H H':Hp}(s:Step α H α' H'):∀ {d:D} {v:V},Rep α H d v→Rep α' H' d v
 | .aH,_,h=>by unfold Rep at h⊢;exact h
 | .bl _,_,h=>by unfold Rep at h⊢;exact h
 | .int _,_,h=>by unfold Rep at h⊢;exact h
 | .str _,_,h=>by unfold Rep at h⊢;exact h
 | .ty _,_,h=>by unfold Rep at h⊢;exact h
 | .ref n,_,h=>by
   unfold Rep at h⊢
   rcases h with h|⟨a,e,r⟩
   · rcases s.pre _ _ h with z|z<;>exact .inl z
   · rcases s.pre _ _ e with z|z
     · exact .inr ⟨a,z,r⟩
     · exact .inl z
 | .lst xs,_,h=>by
   unfold Rep at h⊢
   obtain⟨a,vs,e,n,r,q⟩:=h
   refine⟨a,vs,e,fun z=>?_,?_,aO.step s q⟩
   · have:=s.new a z n
     rcases r with r|⟨o,r⟩<;>(rw[this]at r;cases r)
   · rcases r with r|⟨o,r⟩
     · exact .inl (s.ext _ _ n r)
     · exact .inr ⟨o,s.ext _ _ n r⟩
 | .tup xs,_,h=>by
   unfold Rep at h⊢
   obtain⟨a,vs,e,n,r,q⟩:=h
   exact⟨a,vs,e,(fun z=>by rw[s.new a z n]at r;exact nomatch r),s.ext _ _ n r,aO.step s q⟩
theorem aO.step{α α':List (Option Addr)}{H H':Hp}(s:Step α H α' H'):∀ {ds:List D} {vs:List V},aO α H ds vs→aO α' H' ds vs
 | [],_,h=>by unfold aO at h⊢;exact h
 |d::ds,_,h=>by
  unfold aO at h⊢
  obtain⟨v,r,e,h1,h2⟩:=h
  exact⟨v,r,e,Rep.step s h1,aO.step s h2⟩
end
structure cq(G F H:Hp):Prop where
 eq:∀b,H b=(G b).or (F b)
 x9:∀b o,G b=some o→F b=none
section
variable {G F H:Hp}
theorem cq.get(P:cq G F H){b:Addr}{o:HO}(h:G b=some o):H b=some o:=by rw[P.eq b,h];rfl
theorem cq.same(P:cq G F H):Ey G H:=fun _ _ h=>P.get h
theorem cq.none(P:cq G F H){b:Addr}(h:H b=none):G b=none∧F b=none:=by
 have e:=P.eq b
 rw[h]at e
 cases q:G b with
 |none=>rw[q]at e;exact⟨rfl,e.symm⟩
 |some o=>rw[q]at e;cases e
theorem cq.frame(P:cq G F H){b:Addr}{o:HO}(h:F b=some o):H b=some o∧G b=Option.none:=by
 have hn:G b=Option.none:=by
  cases q:G b with
  |none=>rfl
  |some u=>rw[P.x9 b u q]at h;cases h
 exact⟨by rw[P.eq b,hn,h];rfl,hn⟩
theorem cq.laid(P:cq G F H){p:Addr}{o:HO}(h:H p=Option.none):cq (upd G p o) F (upd H p o):=by
 obtain⟨h1,h2⟩:=P.none h
 refine⟨fun b=>?_,fun b u e=>?_⟩
 · by_cases hb:b=p
   · subst hb;rw[aY,aY];rfl
   · rw[aP hb,aP hb];exact P.eq b
 · by_cases hb:b=p
   · subst hb;exact h2
   · rw[aP hb]at e;exact P.x9 b u e
theorem cq.write(P:cq G F H){p:Addr}{o o':HO}(h:G p=some o):cq (upd G p o') F (upd H p o'):=by
 refine⟨fun b=>?_,fun b u e=>?_⟩
 · by_cases hb:b=p
   · subst hb;rw[aY,aY];rfl
   · rw[aP hb,aP hb];exact P.eq b
 · by_cases hb:b=p
   · subst hb;exact P.x9 b o h
   · rw[aP hb]at e;exact P.x9 b u e
theorem cq.hide(P:cq G F H){p:Addr}{o:HO}(h:H p=Option.none):cq G (upd F p o) (upd H p o):=by
 obtain⟨h1,h2⟩:=P.none h
 refine⟨fun b=>?_,fun b u e=>?_⟩
 · by_cases hb:b=p
   · subst hb;rw[aY,aY,h1];rfl
   · rw[aP hb,aP hb];exact P.eq b
 · by_cases hb:b=p
   · subst hb;rw[h1]at e;cases e
   · rw[aP hb];exact P.x9 b u e
theorem cq.FP(P:cq G F H){p:Addr}{o o':HO}(h:F p=some o):cq G (upd F p o') (upd H p o'):=by
 have h1:=(P.frame h).2
 refine⟨fun b=>?_,fun b u e=>?_⟩
 · by_cases hb:b=p
   · subst hb;rw[aY,aY,h1];rfl
   · rw[aP hb,aP hb];exact P.eq b
 · by_cases hb:b=p
   · subst hb;rw[h1]at e;cases e
   · rw[aP hb];exact P.x9 b u e
theorem cq.show{p:Addr}{o:HO}(P:cq G (upd F p o) H)(h:F p=Option.none):cq (upd G p o) F H:=by
 have h1:=(P.frame (b:=p) aY)
 refine⟨fun b=>?_,fun b u e=>?_⟩
 · by_cases hb:b=p
   · subst hb;rw[aY,h1.1];rfl
   · rw[aP hb,P.eq b,aP hb]
 · by_cases hb:b=p
   · subst hb;exact h
   · rw[aP hb]at e
     have:=P.x9 b u e
     rw[aP hb]at this;exact this
end
mutual
theorem Rep.mono{α:List (Option Addr)}{G H:Hp}(s:Ey G H):∀ {d:D} {v:V},Rep α G d v→Rep α H d v
 | .aH,_,h=>by unfold Rep at h⊢;exact h
 | .bl _,_,h=>by unfold Rep at h⊢;exact h
 | .int _,_,h=>by unfold Rep at h⊢;exact h
 | .str _,_,h=>by unfold Rep at h⊢;exact h
 | .ty _,_,h=>by unfold Rep at h⊢;exact h
 | .ref n,_,h=>by unfold Rep at h⊢;exact h
 | .lst xs,_,h=>by
   unfold Rep at h⊢
   obtain⟨a,vs,e,n,r,q⟩:=h
   refine⟨a,vs,e,n,?_,aO.mono s q⟩
   rcases r with r|⟨o,r⟩
   · exact .inl (s _ _ r)
   · exact .inr ⟨o,s _ _ r⟩
 | .tup xs,_,h=>by
   unfold Rep at h⊢
   obtain⟨a,vs,e,n,r,q⟩:=h
   exact⟨a,vs,e,n,s _ _ r,aO.mono s q⟩
theorem aO.mono{α:List (Option Addr)}{G H:Hp}(s:Ey G H):∀ {ds:List D} {vs:List V},aO α G ds vs→aO α H ds vs
 | [],_,h=>by unfold aO at h⊢;exact h
 |d::ds,_,h=>by
  unfold aO at h⊢
  obtain⟨v,r,e,h1,h2⟩:=h
  exact⟨v,r,e,Rep.mono s h1,aO.mono s h2⟩
end
noncomputable def j4(α:List (Option Addr))(H:Hp):List (Str×D)→List (Str×V)→Prop:=Paired fun p q=>p.1=q.1∧Rep α H p.2 q.2
noncomputable def ky(α:List (Option Addr))(H:Hp)(a:Addr):Cell→Prop
 | .lst xs=>∃vs,H a=some (.lst vs)∧aO α H xs vs
 | .ins C fs=>∃dx vs,H a=some (.ins C dx vs)∧j4 α H fs vs
 | .dead=>False
 | .tab P pos qual b=>a=P∧∃ps:Array Value,H a=some (.kb ps)∧TriplesOk ps.toList∧
    ((b=false∧codeAmong pos ps.toList=none)∨(b=true∧∃c o vs t,codeAmong pos ps.toList=some (.ref c)∧some c∉α∧H c=some (.g9 o (.own c))∧o.data= .fields vs∧vs[1]?=some (.str qual t)))
structure aX(α:List (Option Addr))(st:ai)(H:Hp):Prop where
 len:α.length=st.length
 nd:∀(i j:Nat) (a:Addr),α[i]?=some (some a)→α[j]?=some (some a)→i=j
 at':∀(n:Nat) (c:Cell),st[n]?=some c→(c= .dead∧α[n]?=some none)∨∃a,α[n]?=some (some a)∧ky α H a c
theorem j4.step{α α':List (Option Addr)}{H H':Hp}(s:Step α H α' H'){ds:List (Str×D)}{vs:List (Str×V)}(h:j4 α H ds vs):j4 α' H' ds vs:=Paired.Du h fun _ _ z=>⟨z.1,z.2.step s⟩
theorem ky.same{α α':List (Option Addr)}{H H':Hp}{a:Addr}{c:Cell}(s:Step α H α' H')(e:H' a=H a)(h:ky α H a c):ky α' H' a c:=by
 cases c with
 |lst xs=>obtain⟨vs,h1,h2⟩:=h;exact⟨vs,e.trans h1,h2.step s⟩
 |ins C fs=>obtain⟨dx,vs,h1,h2⟩:=h;exact⟨dx,vs,e.trans h1,h2.step s⟩
 |dead=>exact h.elim
 |tab P pos qual b=>
  obtain⟨z,ps,h1,h2,h3⟩:=h
  refine⟨z,ps,e.trans h1,h2,?_⟩
  rcases h3 with h3|⟨hb,c,o,vs,t,q1,q2,q3,q4⟩
  · exact .inl h3
  · exact .inr ⟨hb,c,o,vs,t,q1,(fun y=>by rw[s.new c y q2]at q3;cases q3),s.ext c _ q2 q3,q4⟩
theorem ky.some{α:List (Option Addr)}{H:Hp}{a:Addr}{c:Cell}(h:ky α H a c):∃o,H a=some o:=by
 cases c with
 |lst xs=>obtain⟨vs,h1,h2⟩:=h;exact⟨_,h1⟩
 |ins C fs=>obtain⟨dx,vs,h1,h2⟩:=h;exact⟨_,h1⟩
 |dead=>exact h.elim
 |tab P pos qual b=>obtain⟨_,ps,h1,_⟩:=h;exact⟨_,h1⟩
theorem dw{α:List (Option Addr)}{H:Hp}{n:Nat}{v:V}{a:Addr}(e:α[n]?=Option.some (Option.some a))(r:Rep α H (.ref n) v):v= .ref a:=by
 unfold Rep at r
 rcases r with r|⟨b,eb,rfl⟩
 · rw[e]at r;cases r
 · rw[e]at eb;cases eb;rfl
section
variable {α:List (Option Addr)}{st:ai}{H:Hp}
theorem aX.hO(S:aX α st H){n:Nat}{xs:List D}(e:st[n]?=Option.some (.lst xs)):∃a,α[n]?=Option.some (Option.some a)∧∃vs,H a=Option.some (.lst vs)∧aO α H xs vs:=by
 rcases S.at' n _ e with⟨z,_⟩|z
 · cases z
 · exact z
theorem aX.vX(S:aX α st H){n:Nat}{C:Addr}{fs:List (Str×D)}(e:st[n]?=Option.some (.ins C fs)):∃a,α[n]?=Option.some (Option.some a)∧∃dx vs,H a=Option.some (.ins C dx vs)∧j4 α H fs vs:=by
 rcases S.at' n _ e with⟨z,_⟩|z
 · cases z
 · exact z
theorem aX.mem(S:aX α st H){a:Addr}(h:Option.some a∈α):∃(n:Nat) (c:Cell),α[n]?=Option.some (Option.some a)∧st[n]?=Option.some c∧ky α H a c:=by
 obtain⟨n,hn,e⟩:=List.mem_iff_getElem.mp h
 have hl:n<st.length:=by rw[←S.len];exact hn
 have e':α[n]?=Option.some (Option.some a):=by rw[List.getElem?_eq_getElem hn,e]
 rcases S.at' n st[n] (by simp[hl])with⟨_,q⟩|⟨a',q,ca⟩
 · rw[e']at q;cases q
 · rw[e']at q;cases q
   exact⟨n,_,e',by simp[hl],ca⟩
theorem aX.kC(S:aX α st H){p:Addr}(h:H p=none):Option.some p∉α:=fun z=>by
 obtain⟨n,c,_,_,ca⟩:=S.mem z
 obtain⟨o,e⟩:=ca.some
 rw[h]at e;cases e
theorem aX.laid(S:aX α st H){p:Addr}{o:HO}(h:H p=none):aX α st (upd H p o):=
 ⟨S.len,S.nd,fun n c e=>by
  rcases S.at' n c e with z|⟨a,q,ca⟩
  · exact .inl z
  · exact .inr ⟨a,q,ca.same (Step.laid h) (aP (by obtain⟨u,z⟩:=ca.some;exact dQ z h))⟩⟩
theorem aX.cell(S:aX α st H){p:Addr}{o:HO}{c:Cell}(h:H p=none)(hc:ky (α++[Option.some p]) (upd H p o) p c):aX (α++[Option.some p]) (st++[c]) (upd H p o) where
 len:=by rw[List.length_append,List.length_append,S.len];rfl
 nd:=fun i j a ei ej=>by
  have key:∀(i:Nat) (a:Addr),(α++[Option.some p])[i]?=Option.some (Option.some a)→(i<α.length∧α[i]?=Option.some (Option.some a))∨(i=α.length∧a=p):=by
   intro i a e
   by_cases hi:i<α.length
   · rw[List.getElem?_append_left hi]at e;exact .inl ⟨hi,e⟩
   · rw[List.getElem?_append_right (Nat.le_of_not_lt hi)]at e
     have h0:i-α.length=0:=by
      cases q:i-α.length with
      |zero=>rfl
      |succ k=>rw[q]at e;simp at e
     rw[h0]at e
     have:p=a:=by simpa using e
     exact .inr ⟨by omega,this.symm⟩
  rcases key i a ei with⟨h1,e1⟩|⟨h1,e1⟩<;>rcases key j a ej with⟨h2,e2⟩|⟨h2,e2⟩
  · exact S.nd i j a e1 e2
  · subst e2;exact absurd (List.mem_of_getElem? e1) (S.kC h)
  · subst e1;exact absurd (List.mem_of_getElem? e2) (S.kC h)
  · omega
 at':=fun n d e=>by
  by_cases hn:n<st.length
  · rw[List.getElem?_append_left hn]at e
    have hl:n<α.length:=by rw[S.len];exact hn
    rcases S.at' n d e with⟨z,q⟩|⟨a,q,ca⟩
    · exact .inl ⟨z,by rw[List.getElem?_append_left hl];exact q⟩
    · exact .inr ⟨a,by rw[List.getElem?_append_left hl];exact q,ca.same (Step.cell h) (aP (by obtain⟨u,z⟩:=ca.some;exact dQ z h))⟩
  · rw[List.getElem?_append_right (Nat.le_of_not_lt hn)]at e
    have h0:n-st.length=0:=by
     cases q:n-st.length with
     |zero=>rfl
     |succ k=>rw[q]at e;simp at e
    rw[h0]at e
    have hd:c=d:=by simpa using e
    subst hd
    refine .inr ⟨p,?_,hc⟩
    rw[List.getElem?_append_right (by rw[S.len];exact Nat.le_of_not_lt hn),S.len,h0]
    rfl
theorem aX.write(S:aX α st H){p:Addr}{o:HO}{c:Cell}{n:Nat}(e:α[n]?=Option.some (Option.some p))(hc:ky α (upd H p o) p c):aX α (st.set n c) (upd H p o) where
 len:=by rw[List.length_set];exact S.len
 nd:=S.nd
 at':=fun m d q=>by
  have hp:Option.some p∈α:=List.mem_of_getElem? e
  by_cases hm:m=n
  · subst hm
    have hl:m<st.length:=by
     have:=(List.getElem?_eq_some_iff.mp q).1
     rw[List.length_set]at this;exact this
    rw[List.getElem?_set_self hl]at q
    cases q
    exact .inr ⟨p,e,hc⟩
  · rw[List.getElem?_set_ne (Ne.symm hm)]at q
    rcases S.at' m d q with z|⟨a,r,ca⟩
    · exact .inl z
    · refine .inr ⟨a,r,ca.same (Step.write hp) (aP fun z=>?_)⟩
      subst z
      exact hm (S.nd m n _ r e)
end
end L3
namespace L3
open PySem PySem.Spec L2
open PyProof.Rows hiding St
noncomputable abbrev DK:=D→ai→Prop
noncomputable abbrev DE:=bN→ai→DK→Prop
noncomputable abbrev DT:=bN→ai→(Bool→ai→Prop)→Prop
noncomputable abbrev DA:=bN→ai→(List D→ai→Prop)→Prop
structure kv where
 nx:bN→ai→Prop
 rt:DK
 bk:bN→ai→Prop:=fun _ _=>False
 ct:bN→ai→Prop:=fun _ _=>False
noncomputable abbrev DS:=kv→bN→ai→Prop
structure eE(α:List (Option Addr))(H:Hp)(σd:bN)(σ:L2.St):Prop where
 len:σd.length=σ.length
 at':∀(i:Nat) (d:D),σd[i]?=some (some d)→∃v,σ[i]?=some (some v)∧Rep α H d v
theorem eE.step{α α':List (Option Addr)}{H H':Hp}{σd:bN}{σ:L2.St}(s:Step α H α' H')(h:eE α H σd σ):eE α' H' σd σ:=
 ⟨h.len,fun i d e=>let⟨v,q,r⟩:=h.at' i d e;⟨v,q,r.step s⟩⟩
theorem eE.set{α:List (Option Addr)}{H:Hp}{σd:bN}{σ:L2.St}(h:eE α H σd σ)(i:Nat){d:D}{v:V}(r:Rep α H d v):eE α H (σd.set i (some d)) (σ.set i (some v)):=by
 refine⟨by rw[List.length_set,List.length_set,h.len],fun j e q=>?_⟩
 have hl:=h.len
 by_cases hj:j=i
 · subst hj
   have hlt:j<σd.length:=by
    have:=(List.getElem?_eq_some_iff.mp q).1
    rw[List.length_set]at this;exact this
   rw[List.getElem?_set_self hlt]at q
   cases q
   exact⟨v,List.getElem?_set_self (by omega),r⟩
 · rw[List.getElem?_set_ne (Ne.symm hj)]at q
   rw[List.getElem?_set_ne (Ne.symm hj)]
   exact h.at' j e q
noncomputable def LK(α:List (Option Addr))(G F:Hp)(K:DK)(Q:VK):Prop:=∀d st',K d st'→∀α' G' H' v,Step α G α' G'→cq G' F H'→aX α' st' G'→Rep α' G' d v→Q v H'
noncomputable def Fg(α:List (Option Addr))(G F:Hp)(K:Bool→ai→Prop)(Q:Bool→Hp→Prop):Prop:=∀b st',K b st'→∀α' G' H',Step α G α' G'→cq G' F H'→aX α' st' G'→Q b H'
noncomputable def NW(α:List (Option Addr))(G F:Hp)(K:List D→ai→Prop)(Q:List V→Hp→Prop):Prop:=∀ds st',K ds st'→∀α' G' H' vs,Step α G α' G'→cq G' F H'→aX α' st' G'→aO α' G' ds vs→Q vs H'
inductive MN(t:DE)(σ:L2.St)(H:Hp)(Q:VK):Prop
 |mk (α:List (Option Addr)) (σd:bN) (st:ai) (K:DK) (G F:Hp) (P:cq G F H) (R:eE α G σd σ) (S:aX α st G) (h:t σd st K) (k:LK α G F K Q):MN t σ H Q
noncomputable def LE(t:DE):TE:=MN t
inductive Mt(t:DT)(σ:L2.St)(H:Hp)(Q:Bool→Hp→Prop):Prop
 |mk (α:List (Option Addr)) (σd:bN) (st:ai) (K:Bool→ai→Prop) (G F:Hp) (P:cq G F H) (R:eE α G σd σ) (S:aX α st G) (h:t σd st K) (k:Fg α G F K Q):Mt t σ H Q
noncomputable def LT(t:DT):TT:=Mt t
inductive MB(t:DA)(σ:L2.St)(H:Hp)(Q:List V→Hp→Prop):Prop
 |mk (α:List (Option Addr)) (σd:bN) (st:ai) (K:List D→ai→Prop) (G F:Hp) (P:cq G F H) (R:eE α G σd σ) (S:aX α st G) (h:t σd st K) (k:NW α G F K Q):MB t σ H Q
noncomputable def LA(t:DA):TA:=MB t
theorem LK.here{α:List (Option Addr)}{G F H:Hp}{K:DK}{Q:VK}(h:LK α G F K Q)(P:cq G F H){d:D}{st:ai}{v:V}(k:K d st)(S:aX α st G)(r:Rep α G d v):Q v H:=h d st k α G H v Step.refl P S r
theorem LK.at{α α1:List (Option Addr)}{G F G1:Hp}{K:DK}{Q:VK}(h:LK α G F K Q)(s:Step α G α1 G1):LK α1 G1 F K Q:=fun d st' k α' G' H' v s' P S r=>h d st' k α' G' H' v (s.trans s') P S r
theorem Fg.at{α α1:List (Option Addr)}{G F G1:Hp}{K:Bool→ai→Prop}{Q:Bool→Hp→Prop}(h:Fg α G F K Q)(s:Step α G α1 G1):Fg α1 G1 F K Q:=fun d st' k α' G' H' s' P S=>h d st' k α' G' H' (s.trans s') P S
section
variable {X:Cx}{a b c e:Expr}{es:List Expr}{ta tb tc te:DE}{pos:Pos}
theorem PE.imp{t t':TE}(h:PE X e t)(f:∀σ H Q,t' σ H Q→t σ H Q):PE X e t':=fun pins s σ H Q I q=>h pins s σ H Q I (f σ H Q q)
theorem PT.imp{t t':TT}(h:PT X e t)(f:∀σ H Q,t' σ H Q→t σ H Q):PT X e t':=fun pins s σ H Q I q=>h pins s σ H Q I (f σ H Q q)
theorem PW.imp{t t':TT}(h:PW X e t)(f:∀σ H Q,t' σ H Q→t σ H Q):PW X e t':=fun w pins s σ H Q I q=>h w pins s σ H Q I (f σ H Q q)
theorem PA.imp{t t':TA}(h:PA X es t)(f:∀σ H Q,t' σ H Q→t σ H Q):PA X es t':=fun p pins s σ H Q I q=>h p pins s σ H Q I (f σ H Q q)
noncomputable def ab(i:Nat):DE:=fun σ st K=>match σ[i]? with|some (some d)=>K d st|_=>False
noncomputable def dC(d:D):DE:=fun _ st K=>K d st
theorem LQ{i:Nat}{x:Str}(h:PE X (.Name x pos) (Ik i)):PE X (.Name x pos) (LE (ab i)):=PE.imp h fun σ H Q ⟨α,σd,st,K,G,F,P,R,S,t,k⟩=>by
 unfold ab at t
 split at t
 · rename_i d q
   obtain⟨v,e,r⟩:=R.at' i d q
   exact⟨v,e,k.here P t S r⟩
 · exact t.elim
theorem oU{v:V}{d:D}(h:PE X e (tC v))(r:∀α H,Rep α H d v):PE X e (LE (dC d)):=PE.imp h fun σ H Q ⟨α,σd,st,K,G,F,P,R,S,t,k⟩=>k.here P t S (r α G)
theorem Lz{i:Int}{j:Nat}:PE X (.Constant (.int i) j pos) (LE (dC (.int i))):=oU Ip fun _ _=>by unfold Rep;rfl
theorem M8{i:Bool}{j:Nat}:PE X (.Constant (.bool i) j pos) (LE (dC (.bl i))):=oU Ly fun _ _=>by unfold Rep;rfl
theorem Me{i:Str}{j:Nat}:PE X (.Constant (.str i) j pos) (LE (dC (.str i))):=oU Jl fun _ _=>by unfold Rep;rfl
theorem LY{j:Nat}:PE X (.Constant .none j pos) (LE (dC .aH)):=oU Ki fun _ _=>by unfold Rep;rfl
noncomputable abbrev dJ:=D→D→ai→DK→Prop
noncomputable abbrev yt:=D→ai→DK→Prop
noncomputable abbrev gd:=List D→ai→DK→Prop
inductive MD(r:dJ)(x y:V)(H:Hp)(Q:VK):Prop
 |mk (α:List (Option Addr)) (d e:D) (st:ai) (K:DK) (G F:Hp) (P:cq G F H) (rx:Rep α G d x) (ry:Rep α G e y) (S:aX α st G) (h:r d e st K) (k:LK α G F K Q):MD r x y H Q
noncomputable def LR(r:dJ):R2:=MD r
inductive Kq(r:yt)(x:V)(H:Hp)(Q:VK):Prop
 |mk (α:List (Option Addr)) (d:D) (st:ai) (K:DK) (G F:Hp) (P:cq G F H) (rx:Rep α G d x) (S:aX α st G) (h:r d st K) (k:LK α G F K Q):Kq r x H Q
noncomputable def FO(r:yt):V→Hp→VK→Prop:=Kq r
inductive ID(r:gd)(xs:List V)(H:Hp)(Q:VK):Prop
 |mk (α:List (Option Addr)) (ds:List D) (st:ai) (K:DK) (G F:Hp) (P:cq G F H) (rx:aO α G ds xs) (S:aX α st G) (h:r ds st K) (k:LK α G F K Q):ID r xs H Q
noncomputable def ip(r:gd):List V→Hp→VK→Prop:=ID r
noncomputable def ay(r:dJ)(ta tb:DE):DE:=fun σ st K=>ta σ st fun x st1=>tb σ st1 fun y st2=>r x y st2 K
noncomputable def nz(r:yt)(ta:DE):DE:=fun σ st K=>ta σ st fun x st1=>r x st1 K
theorem LE.op{r:dJ}{σ:L2.St}{H:Hp}{Q:VK}(h:LE (ay r ta tb) σ H Q):CW (LR r) (LE ta) (LE tb) σ H Q:=by
 obtain⟨α,σd,st,K,G,F,P,R,S,t,k⟩:=h
 refine⟨α,σd,st,_,G,F,P,R,S,t,fun d st1 q α1 G1 H1 v s1 P1 S1 r1=>?_⟩
 refine⟨α1,σd,st1,_,G1,F,P1,R.step s1,S1,q,fun d2 st2 q2 α2 G2 H2 v2 s2 P2 S2 r2=>?_⟩
 exact⟨α2,d,d2,st2,K,G2,F,P2,r1.step s2,r2,S2,q2,(k.at s1).at s2⟩
theorem LE.un{r:yt}{σ:L2.St}{H:Hp}{Q:VK}(h:LE (nz r ta) σ H Q):MK (FO r) (LE ta) σ H Q:=by
 obtain⟨α,σd,st,K,G,F,P,R,S,t,k⟩:=h
 refine⟨α,σd,st,_,G,F,P,R,S,t,fun d st1 q α1 G1 H1 v s1 P1 S1 r1=>?_⟩
 exact⟨α1,d,st1,K,G1,F,P1,r1,S1,q,k.at s1⟩
theorem Nr{op:Operator}{r:dJ}(ho:cx X (binaryOp op) (LR r))(ha:PE X a (LE ta))(hb:PE X b (LE tb)):PE X (.BinOp a op b pos) (LE (ay r ta tb)):=PE.imp (Lb ho ha hb) fun _ _ _ h=>LE.op h
theorem MW{op:UnaryOp}{r:yt}(ho:zu X (unaryOp op) (FO r))(ha:PE X a (LE ta)):PE X (.UnaryOp op a pos) (LE (nz r ta)):=PE.imp (Mj ho ha) fun _ _ _ h=>LE.un h
theorem K_{op:CmpOp}{r:dJ}(ho:cx X (compareOp op) (LR r))(ha:PE X a (LE ta))(hb:PE X b (LE tb))(hm:behindInMarks op b=false:=by first|exact cw _|rfl):PE X (.Compare a [op] [b] pos) (LE (ay r ta tb)):=PE.imp (Hl ho ha hb hm) fun _ _ _ h=>LE.op h
noncomputable def cy(t:DE):DT:=fun σ st K=>t σ st fun d st1=>match d with| .bl b=>K b st1|_=>False
theorem LT.test{σ:L2.St}{H:Hp}{Q:Bool→Hp→Prop}(h:LT (cy te) σ H Q):LE te σ H fun x H'=>∃k,x= .bl k∧Q k H':=by
 obtain⟨α,σd,st,K,G,F,P,R,S,t,k⟩:=h
 refine⟨α,σd,st,_,G,F,P,R,S,t,fun d st1 q α1 G1 H1 v s1 P1 S1 r1=>?_⟩
 cases d with
 |bl b=>
  unfold Rep at r1
  exact⟨b,r1,k b st1 q α1 G1 H1 s1 P1 S1⟩
 |_=>exact q.elim
theorem J3{op:CmpOp}{r:dJ}(ho:cx X (compareOp op) (LR r))(ha:PE X a (LE ta))(hb:PE X b (LE tb))(hm:behindInMarks op b=false:=by first|exact cw _|rfl):PT X (.Compare a [op] [b] pos) (LT (cy (ay r ta tb))):=PT.imp (G_ ho ha hb hm) fun σ H Q h=>by
 have q:=LT.test h
 exact LE.op (Q:=fun x H'=>∃k,x= .bl k∧Q k H') q
theorem Ig(he:PE X e (LE te))(hv:∀whole,isTrue e X.env whole=(do let v ←whole;standAt e.pos;holding [v] (truthy v)):=by intro _;rfl):PT X e (LT (cy te)):=PT.imp (Ky he hv) fun σ H Q h=>LT.test h
noncomputable def tY(t:DT):DT:=fun σ st K=>t σ st fun b st1=>K (!b) st1
noncomputable def wb(t u:DT):DT:=fun σ st K=>t σ st fun b st1=>if b=true then u σ st1 K else K false st1
noncomputable def tj(t u:DT):DT:=fun σ st K=>t σ st fun b st1=>if b=true then K true st1 else u σ st1 K
theorem IW{t:DT}(ha:PT X a (LT t)):PT X (.UnaryOp .Not a pos) (LT (tY t)):=PT.imp (IS ha) fun σ H Q ⟨α,σd,st,K,G,F,P,R,S,t,k⟩=>
 ⟨α,σd,st,_,G,F,P,R,S,t,fun b st1 q α1 G1 H1 s1 P1 S1=>k _ st1 q α1 G1 H1 s1 P1 S1⟩
theorem LT.and{t u:DT}{σ:L2.St}{H:Hp}{Q:Bool→Hp→Prop}(h:LT (wb t u) σ H Q):Jc (LT t) (LT u) σ H Q:=by
 obtain⟨α,σd,st,K,G,F,P,R,S,t,k⟩:=h
 refine⟨α,σd,st,_,G,F,P,R,S,t,fun b st1 q α1 G1 H1 s1 P1 S1=>?_⟩
 cases b with
 |true=>exact⟨α1,σd,st1,K,G1,F,P1,R.step s1,S1,q,k.at s1⟩
 |false=>exact k _ st1 q α1 G1 H1 s1 P1 S1
theorem LT.or{t u:DT}{σ:L2.St}{H:Hp}{Q:Bool→Hp→Prop}(h:LT (tj t u) σ H Q):MF (LT t) (LT u) σ H Q:=by
 obtain⟨α,σd,st,K,G,F,P,R,S,t,k⟩:=h
 refine⟨α,σd,st,_,G,F,P,R,S,t,fun b st1 q α1 G1 H1 s1 P1 S1=>?_⟩
 cases b with
 |false=>exact⟨α1,σd,st1,K,G1,F,P1,R.step s1,S1,q,k.at s1⟩
 |true=>exact k _ st1 q α1 G1 H1 s1 P1 S1
theorem HE{t:DT}(ha:PT X a (LT t)):PW X (.BoolOp .And [a] pos) (LT t):=pw_and1 ha
theorem Iy{t:DT}(ha:PT X a (LT t)):PW X (.BoolOp .Or [a] pos) (LT t):=pw_or1 ha
theorem Jp{t u:DT}(ha:PT X a (LT t))(hb:PW X (.BoolOp .And (b::es) pos) (LT u)):PW X (.BoolOp .And (a::b::es) pos) (LT (wb t u)):=PW.imp (pw_and ha hb) fun _ _ _ h=>LT.and h
theorem Lq{t u:DT}(ha:PT X a (LT t))(hb:PW X (.BoolOp .Or (b::es) pos) (LT u)):PW X (.BoolOp .Or (a::b::es) pos) (LT (tj t u)):=PW.imp (pw_or ha hb) fun _ _ _ h=>LT.or h
noncomputable def AQ(ta tb:DE):DE:=fun σ st K=>ta σ st fun d st1=>match d with| .bl b=>if b=true then tb σ st1 K else K (.bl false) st1|_=>False
noncomputable def zY(t:DT):DE:=fun σ st K=>t σ st fun b st1=>K (.bl (!b)) st1
theorem Mc{op:BoolOp}(ha:PE X a (LE ta)):PE X (.BoolOp op [a] pos) (LE ta):=IM ha
theorem Lj(ha:PE X a (LE ta))(hb:PE X (.BoolOp .And (b::es) pos) (LE tb)):PE X (.BoolOp .And (a::b::es) pos) (LE (AQ ta tb)):=PE.imp (JK ha hb) fun σ H Q ⟨α,σd,st,K,G,F,P,R,S,t,k⟩=>by
 refine⟨α,σd,st,_,G,F,P,R,S,t,fun d st1 q α1 G1 H1 v s1 P1 S1 r1=>?_⟩
 cases d with
 |bl b=>
  unfold Rep at r1
  refine⟨b,r1,?_⟩
  cases b with
  |true=>exact⟨α1,σd,st1,K,G1,F,P1,R.step s1,S1,q,k.at s1⟩
  |false=>exact k _ st1 q α1 G1 H1 _ s1 P1 S1 (by unfold Rep;rfl)
 |_=>exact q.elim
theorem LN(ha:PE X a (LE ta)):PE X (.UnaryOp .Not a pos) (LE (zY (cy ta))):=PE.imp (KN ha) fun σ H Q ⟨α,σd,st,K,G,F,P,R,S,t,k⟩=>by
 refine⟨α,σd,st,_,G,F,P,R,S,t,fun d st1 q α1 G1 H1 v s1 P1 S1 r1=>?_⟩
 cases d with
 |bl b=>
  unfold Rep at r1
  exact⟨b,r1,k _ st1 q α1 G1 H1 _ s1 P1 S1 (by unfold Rep;rfl)⟩
 |_=>exact q.elim
noncomputable def Fc(t:DT)(ta tb:DE):DE:=fun σ st K=>t σ st fun b st1=>if b=true then ta σ st1 K else tb σ st1 K
theorem Lx{t:DT}(hc:PT X c (LT t))(ha:PE X a (LE ta))(hb:PE X b (LE tb)):PE X (.IfExp c a b pos) (LE (Fc t ta tb)):=PE.imp (EA hc ha hb) fun σ H Q ⟨α,σd,st,K,G,F,P,R,S,t,k⟩=>by
 refine⟨α,σd,st,_,G,F,P,R,S,t,fun b st1 q α1 G1 H1 s1 P1 S1=>?_⟩
 cases b with
 |true=>exact⟨α1,σd,st1,K,G1,F,P1,R.step s1,S1,q,k.at s1⟩
 |false=>exact⟨α1,σd,st1,K,G1,F,P1,R.step s1,S1,q,k.at s1⟩
noncomputable def ak:DA:=fun _ st K=>K [] st
noncomputable def ae(ta:DE)(tr:DA):DA:=fun σ st K=>ta σ st fun x st1=>tr σ st1 fun xs st2=>K (x::xs) st2
theorem tD:PA X [] (LA ak):=PA.imp JV fun σ H Q ⟨α,σd,st,K,G,F,P,R,S,t,k⟩=>k [] st t α G H [] Step.refl P S (by unfold aO;rfl)
theorem rB{tr:DA}(ha:PE X e (LE te))(hr:PA X es (LA tr))(hs:starEach (e::es) X.env=(false,eval e X.env)::starEach es X.env:=by rfl):PA X (e::es) (LA (ae te tr)):=PA.imp (HX ha hr hs) fun σ H Q ⟨α,σd,st,K,G,F,P,R,S,t,k⟩=>by
 refine⟨α,σd,st,_,G,F,P,R,S,t,fun d st1 q α1 G1 H1 v s1 P1 S1 r1=>?_⟩
 refine⟨α1,σd,st1,_,G1,F,P1,R.step s1,S1,q,fun ds st2 q2 α2 G2 H2 vs s2 P2 S2 r2=>?_⟩
 exact k _ st2 q2 α2 G2 H2 (v::vs) (s1.trans s2) P2 S2 (by unfold aO;exact⟨v,vs,rfl,r1.step s2,r2⟩)
noncomputable def ju(t:DA):DE:=fun σ st K=>t σ st fun ds st1=>ds.length≤sizeLine∧K (.tup ds) st1
noncomputable def qC(t:DA):DE:=fun σ st K=>t σ st fun ds st1=>ds.length≤sizeLine∧K (.lst ds) st1
noncomputable def u9(t:DA):DE:=fun σ st K=>t σ st fun ds st1=>ds.length≤sizeLine∧K (.ref st1.length) (st1++[.lst ds])
theorem LK.tup{α:List (Option Addr)}{G F H:Hp}{K:DK}{Q:VK}{ds:List D}{vs:List V}{st:ai}{p:Addr}(k:LK α G F K Q)(P:cq G F H)(q:K (.tup ds) st)(S:aX α st G)(r:aO α G ds vs)(hp:H p=none):Q (.ref p) (upd H p (.tup vs)):=
 have hg:=(P.none hp).1
 k _ st q α _ _ _ (Step.laid hg) (P.laid hp) (S.laid hg) (by unfold Rep;exact⟨p,vs,rfl,S.kC hg,aY,r.step (Step.laid hg)⟩)
theorem LK.lst{α:List (Option Addr)}{G F H:Hp}{K:DK}{Q:VK}{ds:List D}{vs:List V}{st:ai}{p:Addr}(k:LK α G F K Q)(P:cq G F H)(q:K (.lst ds) st)(S:aX α st G)(r:aO α G ds vs)(hp:H p=none):Q (.ref p) (upd H p (.lst vs)):=
 have hg:=(P.none hp).1
 k _ st q α _ _ _ (Step.laid hg) (P.laid hp) (S.laid hg) (by unfold Rep;exact⟨p,vs,rfl,S.kC hg,.of aY,r.step (Step.laid hg)⟩)
theorem LK.new{α:List (Option Addr)}{G F H:Hp}{K:DK}{Q:VK}{ds:List D}{vs:List V}{st:ai}{p:Addr}(k:LK α G F K Q)(P:cq G F H)(q:K (.ref st.length) (st++[.lst ds]))(S:aX α st G)(r:aO α G ds vs)(hp:H p=none):Q (.ref p) (upd H p (.lst vs)):=
 have hg:=(P.none hp).1
 k _ _ q (α++[some p]) _ _ _ (Step.cell hg) (P.laid hp) (S.cell hg ⟨vs,aY,r.step (Step.cell hg)⟩) (by
  unfold Rep
  refine .inr ⟨p,?_,rfl⟩
  rw[List.getElem?_append_right (by rw[S.len];exact Nat.le_refl _),S.len,Nat.sub_self]
  rfl)
theorem Mi{n:Nat}{t:DA}(h:PA X es (LA t)):PE X (.Tuple es n pos) (LE (ju t)):=PE.imp (Iu h) fun σ H Q ⟨α,σd,st,K,G,F,P,R,S,t,k⟩=>
 ⟨α,σd,st,_,G,F,P,R,S,t,fun ds st1 q α1 G1 H1 vs s1 P1 S1 r1=>⟨by rw[←r1.length];exact q.1,fun p hp=>(k.at s1).tup P1 q.2 S1 r1 hp⟩⟩
theorem LD{t:DA}(h:PA X es (LA t)):PE X (.List es pos) (LE (qC t)):=PE.imp (Bw h) fun σ H Q ⟨α,σd,st,K,G,F,P,R,S,t,k⟩=>
 ⟨α,σd,st,_,G,F,P,R,S,t,fun ds st1 q α1 G1 H1 vs s1 P1 S1 r1=>⟨by rw[←r1.length];exact q.1,fun p hp=>(k.at s1).lst P1 q.2 S1 r1 hp⟩⟩
theorem Lk{t:DA}(h:PA X es (LA t)):PE X (.List es pos) (LE (u9 t)):=PE.imp (Bw h) fun σ H Q ⟨α,σd,st,K,G,F,P,R,S,t,k⟩=>
 ⟨α,σd,st,_,G,F,P,R,S,t,fun ds st1 q α1 G1 H1 vs s1 P1 S1 r1=>⟨by rw[←r1.length];exact q.1,fun p hp=>(k.at s1).new P1 q.2 S1 r1 hp⟩⟩
noncomputable abbrev cJ:=List D→ai→DK→Prop
inductive IJ(T:cJ)(vs:List V)(H:Hp)(Q:VK):Prop
 |mk (α:List (Option Addr)) (ds:List D) (st:ai) (K:DK) (G F:Hp) (P:cq G F H) (rx:aO α G ds vs) (S:aX α st G) (h:T ds st K) (k:LK α G F K Q):IJ T vs H Q
noncomputable def aF(S:cJ):Sp:=fun vs H Q _=>IJ S vs H Q
noncomputable def aG(S:cJ)(t:DA):DE:=fun σ st K=>t σ st fun ds st1=>S ds st1 K
theorem LE.call{S:cJ}{t:DA}{σ:L2.St}{H:Hp}{Q:VK}(h:LE (aG S t) σ H Q):Fd (aF S) [] E0 (LA t) σ H Q:=by
 obtain⟨α,σd,st,K,G,F,P,R,S,t,k⟩:=h
 refine⟨α,σd,st,_,G,F,P,R,S,t,fun ds st1 q α1 G1 H1 vs s1 P1 S1 r1=>?_⟩
 try dsimp only
 rw[List.append_nil]
 exact⟨α1,ds,st1,K,G1,F,P1,r1,S1,q,k.at s1⟩
theorem KQ{S:cJ}{k:Nat}{f:Addr}{fd:FuncData}{ps:List Str}{x:Str}{p:Pos}{t:DA}(F:au X.prog X.w X.K X.mg X.base aD k f fd ps (aF S))(hr:dg k X.A)(hg:Gl X x)(hm:X.mg x=some (.ref f))(hk:PySem.W.keepIn X.K (.ref f)=true)(hb:Binds X.K fd ps [])
 (ha:PA X (e::es) (LA t)) (hdb:(x==("__debug__":Str))=false:=by decide) (he:starEach (e::es) X.env=(false,eval e X.env)::starEach es X.env:=by rfl) (hpl:(backTo pos (starEach es X.env)).any (·.1)=false:=by rfl):
 PE X (.Call (.Name x p) (e::es) [] pos) (LE (aG S t)):=PE.imp (HS F hr hg hm hk hb .nil Ab ha hdb he hpl) fun _ _ _ h=>LE.call h
noncomputable def cm(r:gd)(t:DA):DE:=fun σ st K=>t σ st fun ds st1=>r ds st1 K
theorem LE.cb{r:gd}{t:DA}{σ:L2.St}{H:Hp}{Q:VK}(h:LE (cm r t) σ H Q):IT (ip r) (LA t) σ H Q:=by
 obtain⟨α,σd,st,K,G,F,P,R,S,t,k⟩:=h
 refine⟨α,σd,st,_,G,F,P,R,S,t,fun ds st1 q α1 G1 H1 vs s1 P1 S1 r1=>?_⟩
 exact⟨α1,ds,st1,K,G1,F,P1,r1,S1,q,k.at s1⟩
end
end L3
namespace L3
open PySem PySem.Spec L2
open PyProof.Rows hiding St
section
variable {X:Cx}
theorem cx.imp{f:Value→Value→Sem Value}{r r':R2}(h:cx X f r)(k:∀x y H Q,r' x y H Q→r x y H Q):cx X f r':=fun pins s σ H x y v u Q I rx ry q=>h pins s σ H x y v u Q I rx ry (k x y H Q q)
theorem b_.imp{f:Value}{r r':List V→Hp→VK→Prop}(h:b_ X f r)(k:∀xs H Q,r' xs H Q→r xs H Q):b_ X f r':=fun pins s σ H xs us Q I rs q=>h pins s σ H xs us Q I rs (k xs H Q q)
noncomputable def tZ(C:Int→Int→Prop)(g:Int→Int→D):dJ:=fun x y st K=>match x,y with| .int i,.int j=>C i j∧K (g i j) st|_,_=>False
theorem mm{f:Value→Value→Sem Value}{C:Int→Int→Prop}{g:Int→Int→D}{g':Int→Int→V}(hg:∀i j α H,Rep α H (g i j) (g' i j))(h:cx X f (rI C g')):cx X f (LR (tZ C g)):=cx.imp h fun x y H Q ⟨α,d,e,st,K,G,F',P,r1,r2,S,q,k⟩=>by
 cases d<;>cases e<;>first
  |exact q.elim
  |(unfold Rep at r1 r2;exact⟨_,_,r1,r2,q.1,k.here P q.2 S (hg _ _ _ _)⟩)
noncomputable abbrev T2:Int→Int→Prop:=fun _ _=>True
theorem wc{g:Int→Int→V}{f:Value→Value→Sem Value}(h:cx X f (vI g)):cx X f (rI T2 g):=cx.imp h fun x y H Q ⟨i,j,e1,e2,_,q⟩=>⟨i,j,e1,e2,q⟩
noncomputable abbrev Fo:dJ:=tZ T2 fun i j=> .int (i-j)
noncomputable abbrev Bu:dJ:=tZ (fun _ j=>j≠0∧j.natAbs.log2<9000) fun i j=> .int (i.fdiv j)
noncomputable abbrev Fy:dJ:=tZ (fun _ j=>j≠0) fun i j=> .int (i.fmod j)
noncomputable abbrev Fu:dJ:=tZ EG fun i j=> .int (i^j.toNat)
noncomputable abbrev Jx:dJ:=tZ T2 fun i j=> .bl (decide (i<j))
noncomputable abbrev IZ:dJ:=tZ T2 fun i j=> .bl (decide (j<i))
noncomputable abbrev Jn:dJ:=tZ T2 fun i j=> .bl (decide (j≤i))
theorem LF:cx X (binaryOp .Sub) (LR Fo):=mm (fun _ _ _ _=>by unfold Rep;rfl) (wc Kj)
theorem II:cx X (binaryOp .FloorDiv) (LR Bu):=mm (fun _ _ _ _=>by unfold Rep;rfl) (FD fun i j _ _ _ _ _ hc q=>floordiv_int hc.1 q (.inl (PyProof.noPylong_of_log2 hc.2)))
theorem LB:cx X (binaryOp .Mod) (LR Fy):=mm (fun _ _ _ _=>by unfold Rep;rfl) HV
theorem K4:cx X (binaryOp .Pow) (LR Fu):=mm (fun _ _ _ _=>by unfold Rep;rfl) JR
theorem M5:cx X (compareOp .Lt) (LR Jx):=mm (fun _ _ _ _=>by unfold Rep;rfl) (wc L6)
theorem Na:cx X (compareOp .Gt) (LR IZ):=mm (fun _ _ _ _=>by unfold Rep;rfl) (wc Mb)
theorem Nx:cx X (compareOp .GtE) (LR Jn):=mm (fun _ _ _ _=>by unfold Rep;rfl) (wc Mo)
noncomputable def E5:yt:=fun x st K=>match x with| .int i=>K (.int (-i)) st|_=>False
theorem K8:zu X (unaryOp .USub) (FO E5):=fun pins s σ H x v Q I rx ⟨α,d,st,K,G,F',P,r,S,q,k⟩=>by
 cases d<;>first
  |exact q.elim
  |(unfold Rep at r;exact JP pins s σ H x v Q I rx ⟨_,r,k.here P q S (by unfold Rep;rfl)⟩)
theorem Inv.u6{pins:List (Addr×Obj)}{σ:L2.St}{H:Hp}{s:Shared}{l:Addr}{xs:List V}(I:Inv X pins σ H s)(h:Rd H l (.lst xs)):
 xs.length≤sizeLine∧∃(its:List Value) (n:Nat),Vals xs its∧xs.length=its.length∧s.heap.get? l=some {cls:= .type "list",data:= .seq its.toArray n}:=by
 obtain⟨z,its,n,r,e⟩:=h.ok I.aM
 exact⟨z,its,n,r,r.length,e⟩
theorem gL{G F H:Hp}(P:cq G F H){a:Addr}{u:HO}(h:Rd G a u):Rd H a u:=by
 rcases h with h|⟨o,h⟩
 · exact .inl (P.get h)
 · exact .inr ⟨o,P.get h⟩
theorem zz:cx X (binaryOp .Add) (fun x y H Q=>∃l b xs zs,x= .ref l∧y= .ref b∧Rd H l (.lst xs)∧Rd H b (.lst zs)∧xs.length+zs.length≤sizeLine∧∀p,H p=none→Q (.ref p) (upd H p (.lst (xs++zs)))):=by
 intro pins s σ H x y v u Q I rx ry h
 obtain⟨l,b,xs,zs,rfl,rfl,hH,hB,hz,q⟩:=h
 cases rx
 cases ry
 obtain⟨z,its,n,r,hl,e⟩:=Inv.u6 I hH
 obtain⟨z2,pv,n2,r2,hl2,e2⟩:=Inv.u6 I hB
 refine PySem.P.add_list e e2 ?_ (by rw[List.size_toArray,List.size_toArray];omega)
 have ea:its.toArray++pv.toArray=(its++pv).toArray:=by simp
 rw[ea]
 exact⟨.ref _,_,I.ET (t':=s.toks) (r.append r2) (by rw[List.length_append];omega),rfl,q _ I.fresh⟩
theorem zj:cx X (binaryOp .Mult) (fun x y H Q=>∃l k xs,x= .ref l∧y= .int k∧Rd H l (.lst xs)∧ -(2^63)≤k∧k<2^63∧xs.length*k.toNat≤sizeLine∧
 ∀p,H p=none→Q (.ref p) (upd H p (.lst (List.replicate k.toNat xs).flatten))):=by
 intro pins s σ H x y v u Q I rx ry h
 obtain⟨l,k,xs,rfl,rfl,hH,h1,h2,hz,q⟩:=h
 cases rx
 obtain⟨t,rfl⟩:=ry
 obtain⟨z,its,n,r,hl,e⟩:=Inv.u6 I hH
 have hlen:its.toArray.size*k.toNat≤sizeLine:=by rw[List.size_toArray,←hl];exact hz
 have hcap:¬its.toArray.size*k.toNat>(2^63-1)/8:=by
  have:(sizeLine:Nat)≤(2^63-1)/8:=by decide
  omega
 have hfit:¬(!Builtin.List.listFitsIndex k)=true:=by
  rw[fitsIndex_both h1 h2]
  exact Bool.false_ne_true
 have hlong:¬Builtin.List.listTooLong (its.toArray.size*k.toNat)=true:=by
  rw[Et hlen]
  exact Bool.false_ne_true
 have hnew:List.foldl (fun x1 x2=>x1++x2) #[] (List.replicate (if its.toArray.isEmpty=true then 0 else k.toNat) its.toArray)=(List.replicate k.toNat its).flatten.toArray:=by
  have f0:∀m:Nat,List.foldl (fun x1 x2=>x1++x2) #[] (List.replicate m its.toArray)=(List.replicate m its).flatten.toArray:=fun m=>by
   have:=foldl_rep its m []
   rw[List.nil_append]at this
   exact this
  rw[f0]
  cases its with
  |nil=>simp
  |cons a r'=>rw[if_neg (by simp)]
 refine wpAny_binaryOp_repeat_ref (T:="list") (U:="int") (by decide) ⟨_,e,rfl⟩ (fun s'=>typeIs_int s' k t) noFill_list_mul F.fills_int_mul F.slot_int_rmul repeat_list F.slot_int_index.lookup
  (call_meets F.slot_int_rmul (typeIs_int s k t) F.entry_int_rmul (F.args_int_rmul_2 _ _) (int___rmul___int_list k t l its.toArray n)
    ⟨e,rfl,⟨_,e,rfl⟩,call_meets F.slot_list_mul ⟨_,e,rfl⟩ F.entry_list_mul (F.args_list_mul_2 _ _) (AutoListH.list___mul___list_int_3 l its.toArray n k t hfit hcap hlong) ⟨e,?_⟩⟩)
 rw[hnew]
 exact⟨.ref _,_,I.ET (t':=s.toks) (r.rep k.toNat) (by rw[len_rep,Nat.mul_comm];exact hz),rfl,q _ I.fresh⟩
theorem Dl:cx X (binaryOp .Add) (fun x y H Q=>∃a b xs ys,x= .ref a∧y= .ref b∧H a=some (.tup xs)∧H b=some (.tup ys)∧xs.length+ys.length≤sizeLine∧
 (xs=[]→Q (.ref b) H)∧(xs≠ []→ys=[]→Q (.ref a) H)∧(xs≠ []→ys≠ []→∀p,H p=none→Q (.ref p) (upd H p (.tup (xs++ys))))):=by
 intro pins s σ H x y v u Q I rx ry h
 obtain⟨a,b,xs,ys,rfl,rfl,ha,hb,hz,q0,q1,q2⟩:=h
 by_cases hx:xs=[]
 · cases rx
   cases ry
   obtain⟨its,r1,p1,_⟩:=I.tuple (.of ha)
   obtain⟨pv,r2,p2,_⟩:=I.tuple (.of hb)
   obtain⟨⟨cls,dd,data,sl⟩,ho,hc,n,hd⟩:=id p1
   obtain⟨⟨cls2,dd2,data2,sl2⟩,ho2,hc2,n2,hd2⟩:=id p2
   simp only at hc hd hc2 hd2
   subst hc hd hc2 hd2
   have hi:its=[]:=(L2.Vals.qV r1).mpr hx
   exact concat_meets ⟨_,ho,rfl⟩ ⟨_,ho2,rfl⟩ noFill_tuple_add seq_tuple_add PySem.F.slot_tuple_add PySem.F.entry_tuple_add (PySem.F.args_tuple_add_2 _ _)
    (tuple_addW0 a b its.toArray pv.toArray n n2 dd dd2 sl sl2 (by simp[hi])) ⟨ho,ho2,⟨.ref b,H,I,rfl,q0 hx⟩⟩
 · exact Gm pins s σ H _ _ v u Q I rx ry ⟨a,b,xs,ys,rfl,rfl,.of ha,.of hb,hx,hz,q1 hx,q2 hx⟩
theorem uA:fillsNumberSlot (.type "tuple") "mul"=pure false:=
 PySem.fillsNumberSlot_seq (id:="tuple.__mul__") (r:=some (.builtin "tuple.__rmul__")) F.slot_tuple_mul.lookup (by decide+kernel) F.slot_tuple_rmul.lookup (by decide+kernel)
theorem Bd:seqRepeat? (.type "tuple")=pure (some (.builtin "tuple.__mul__")):=by
 unfold seqRepeat?
 rw[PySem.seqSlot_of (T:="tuple") (name:="__mul__") (id:="tuple.__mul__") F.slot_tuple_mul.lookup (by decide+kernel),PySem.seqSlot_of (T:="tuple") (name:="__rmul__") (id:="tuple.__rmul__") F.slot_tuple_rmul.lookup (by decide+kernel)]
 rfl
theorem yc(a:Int)(t:Tok)(l:Addr)(its:Array Value)(n:Nat)(dd:Option Addr)(sl:Array (Option Value)):Meets (Builtin.«int.__rmul__» ⟨[.int a t,.ref l],[]⟩) (fun _ R s=>s.heap.get? l=some {cls:= .type "tuple",dict:=dd,data:= .seq its n,slots:=sl}∧R (.ok (.ret Value.notImplemented)) s):=
 .of_wp fun P w A R s h=>by
  obtain⟨hp,g,d,tk,os⟩:=s
  obtain⟨hl,h⟩:=h
  wp_walk
  exact⟨_,rfl,h⟩
theorem yg(l:Addr)(its:Array Value)(n:Nat)(dd:Option Addr)(sl:Array (Option Value))(x:Int)(u:Tok)(h0:(decide (x< -(2^63))||decide (x≥2^63))=false)(h1:(its.isEmpty||x==1)=true):
 Meets (Builtin.«tuple.__mul__» ⟨[.ref l,.int x u],[]⟩) (fun _ R s=>s.heap.get? l=some {cls:= .type "tuple",dict:=dd,data:= .seq its n,slots:=sl}∧R (.ok (.ret (.ref l))) s):=
 .of_wp fun P w A R s h=>by
  obtain⟨hp,g,d,tk,os⟩:=s
  obtain⟨hl,h⟩:=h
  wp_walk
  refine wpAny_ite_false (by rw[h0];rfl) ?_
  wp_walk
  exact⟨_,rfl,h⟩
theorem xT(l:Addr)(its:Array Value)(n:Nat)(dd:Option Addr)(sl:Array (Option Value))(x:Int)(u:Tok)(h0:(decide (x< -(2^63))||decide (x≥2^63))=false)(h1:(its.isEmpty||x==1)=false)(h2:(decide (x≤0)||its.isEmpty)=true):
 Meets (Builtin.«tuple.__mul__» ⟨[.ref l,.int x u],[]⟩) (fun _ R s=>s.heap.get? l=some {cls:= .type "tuple",dict:=dd,data:= .seq its n,slots:=sl}∧R (.ok (.ret (.ref s.heap.objs.size))) {s with heap:=s.heap.push {cls:= .type "tuple",data:= .seq #[]}}):=
 .of_wp fun P w A R s h=>by
  obtain⟨hp,g,d,tk,os⟩:=s
  obtain⟨hl,h⟩:=h
  wp_walk
  refine wpAny_ite_false (by rw[h0];rfl) ?_
  wp_walk
  exact⟨_,rfl,h⟩
theorem xR(l:Addr)(its:Array Value)(n:Nat)(dd:Option Addr)(sl:Array (Option Value))(x:Int)(u:Tok)(h0:(decide (x< -(2^63))||decide (x≥2^63))=false)(h1:(its.isEmpty||x==1)=false)(h2:(decide (x≤0)||its.isEmpty)=false)(h3:¬((its.size:Int)*x>(2^63-1)/8))(h4:Builtin.Tuple.tupleTooMany (its.size*x)=false)
 (hz:(List.foldl (fun x1 x2=>x1++x2) #[] (List.replicate x.toNat its)).size≤sizeLine):
 Meets (Builtin.«tuple.__mul__» ⟨[.ref l,.int x u],[]⟩) (fun _ R s=>s.heap.get? l=some {cls:= .type "tuple",dict:=dd,data:= .seq its n,slots:=sl}∧R (.ok (.ret (.ref s.heap.objs.size))) {s with heap:=s.heap.push {cls:= .type "tuple",data:= .seq (List.foldl (fun x1 x2=>x1++x2) #[] (List.replicate x.toNat its))}}):=
 .of_wp fun P w A R s h=>by
  obtain⟨hp,g,d,tk,os⟩:=s
  obtain⟨hl,h⟩:=h
  wp_walk
  refine wpAny_ite_false (by rw[h0];rfl) ?_
  wp_walk
  refine wpAny_ite_false (decide_eq_false h3) ?_
  wp_walk
  exact⟨_,rfl,h⟩
theorem Gd:cx X (binaryOp .Mult) (fun x y H Q=>∃l k xs,x= .ref l∧y= .int k∧H l=some (.tup xs)∧ -(2^63)≤k∧k<2^63∧xs.length*k.toNat≤sizeLine∧
 ((xs=[]∨k=1)→Q (.ref l) H)∧(¬(xs=[]∨k=1)→∀p,H p=none→Q (.ref p) (upd H p (.tup (List.replicate k.toNat xs).flatten)))):=by
 intro pins s σ H x y v u Q I rx ry h
 obtain⟨l,k,xs,rfl,rfl,hH,h1,h2,hz,q1,q2⟩:=h
 cases rx
 obtain⟨t,rfl⟩:=ry
 obtain⟨its,r,p1,_⟩:=I.tuple (.of hH)
 obtain⟨⟨cls,dd,data,sl⟩,ho,hc,n,hd⟩:=id p1
 simp only at hc hd
 subst hc hd
 have hl:xs.length=its.length:=r.length
 have f0:(decide (k< -(2^63))||decide (k≥2^63))=false:=by
  rw[decide_eq_false (by omega),decide_eq_false (by omega)];rfl
 refine wpAny_binaryOp_repeat_ref (T:="tuple") (U:="int") (by decide) ⟨_,ho,rfl⟩ (fun s'=>typeIs_int s' k t) uA F.fills_int_mul F.slot_int_rmul Bd F.slot_int_index.lookup
  (call_meets F.slot_int_rmul (typeIs_int s k t) F.entry_int_rmul (F.args_int_rmul_2 _ _) (yc k t l its.toArray n dd sl) ⟨ho,rfl,⟨_,ho,rfl⟩,?_⟩)
 by_cases hs:xs=[]∨k=1
 · have f1:(its.toArray.isEmpty||k==1)=true:=by
    rcases hs with z|z
    · have:its=[]:=List.length_eq_zero_iff.mp (by rw[←hl,z];rfl)
      rw[this];rfl
    · rw[z];simp
   exact call_meets F.slot_tuple_mul ⟨_,ho,rfl⟩ F.entry_tuple_mul (F.args_tuple_mul_2 _ _) (yg l its.toArray n dd sl k t f0 f1) ⟨ho,⟨.ref l,H,I,rfl,q1 hs⟩⟩
 · have hne:its≠ []:=fun z=>hs (.inl (List.length_eq_zero_iff.mp (by rw[hl,z];rfl)))
   have hk1:k≠1:=fun z=>hs (.inr z)
   have e1:its.toArray.isEmpty=false:=by simpa using hne
   have f1:(its.toArray.isEmpty||k==1)=false:=by rw[e1];simpa using hk1
   have new:∀(us:List Value) (ys:List V),Vals ys us→ys.length≤sizeLine→Inv X pins σ (upd H s.heap.objs.size (.tup ys)) {s with heap:=s.heap.push {cls:= .type "tuple",data:= .seq us.toArray}}:=fun us ys hv hy=>
    I.laid (t':=s.toks) (fun _ _ q=>Heap.get?_push_of_some _ q) (Nat.le_refl _) ⟨hy,us,hv,⟨_,Heap.get?_push_size _ rfl,rfl,_,rfl⟩⟩
   by_cases h0:k≤0
   · have f2:(decide (k≤0)||its.toArray.isEmpty)=true:=by rw[decide_eq_true h0];rfl
     refine call_meets F.slot_tuple_mul ⟨_,ho,rfl⟩ F.entry_tuple_mul (F.args_tuple_mul_2 _ _) (xT l its.toArray n dd sl k t f0 f1 f2) ⟨ho,?_⟩
     have ez:k.toNat=0:=by omega
     rw[ez]at q2
     exact⟨.ref _,_,new [] [] .nil (Nat.zero_le _),rfl,q2 hs _ I.fresh⟩
   · have f2:(decide (k≤0)||its.toArray.isEmpty)=false:=by rw[decide_eq_false h0,e1];rfl
     have hk:(k.toNat:Int)=k:=by omega
     have hlen:its.toArray.size*k.toNat≤sizeLine:=by rw[List.size_toArray,←hl];exact hz
     have hsz:((its.toArray.size:Nat):Int)*k≤(sizeLine:Int):=by
      rw[←hk]
      exact_mod_cast hlen
     have f3:¬(((its.toArray.size:Nat):Int)*k>(2^63-1)/8):=by
      have:((sizeLine:Nat):Int)≤(2^63-1)/8:=by decide
      omega
     have f4:Builtin.Tuple.tupleTooMany (((its.toArray.size:Nat):Int)*k)=false:=by
      unfold Builtin.Tuple.tupleTooMany
      exact decide_eq_false (by omega)
     have hnew:List.foldl (fun x1 x2=>x1++x2) #[] (List.replicate k.toNat its.toArray)=(List.replicate k.toNat its).flatten.toArray:=by
      have:=foldl_rep its k.toNat []
      rw[List.nil_append]at this
      exact this
     have hfl:(List.replicate k.toNat its).flatten.length=its.length*k.toNat:=by rw[len_rep,Nat.mul_comm]
     refine call_meets F.slot_tuple_mul ⟨_,ho,rfl⟩ F.entry_tuple_mul (F.args_tuple_mul_2 _ _) (xR l its.toArray n dd sl k t f0 f1 f2 f3 f4 (by rw[hnew,List.size_toArray,hfl];exact hlen)) ⟨ho,?_⟩
     rw[hnew]
     exact⟨.ref _,_,new _ _ (r.rep k.toNat) (by rw[len_rep,Nat.mul_comm];exact hz),rfl,q2 hs _ I.fresh⟩
noncomputable def Fe:dJ:=fun x y st K=>match x,y with
 | .int i,.int j=>K (.int (i+j)) st
 | .tup xs,.tup ys=>xs.length+ys.length≤sizeLine∧K (.tup (xs++ys)) st
 | .lst xs,.lst ys=>xs.length+ys.length≤sizeLine∧K (.lst (xs++ys)) st
 | .str x,.str y=>x.length+y.length≤sizeLine∧K (.str (x++y)) st
 |_,_=>False
theorem LP:cx X (binaryOp .Add) (LR Fe):=fun pins s σ H x y v u Q I rx ry ⟨α,d,e,st,K,G,F',P,r1,r2,S,q,k⟩=>by
 cases d<;>cases e<;>try exact q.elim
 · unfold Rep at r1 r2
   exact Km pins s σ H x y v u Q I rx ry ⟨_,_,r1,r2,k.here P q S (by unfold Rep;rfl)⟩
 · unfold Rep at r1 r2
   exact zZ pins s σ H x y v u Q I rx ry ⟨_,_,r1,r2,q.1,k.here P q.2 S (by unfold Rep;rfl)⟩
 · unfold Rep at r1 r2
   obtain⟨a,vs,rfl,na,ha,ra⟩:=r1
   obtain⟨b,ws,rfl,nb,hb,rb⟩:=r2
   refine zz pins s σ H _ _ v u Q I rx ry ⟨a,b,vs,ws,rfl,rfl,gL P ha,gL P hb,by rw[←ra.length,←rb.length];exact q.1,fun p hp=>?_⟩
   exact k.lst P q.2 S (aZ.mpr (fF (aZ.mp ra) (aZ.mp rb))) hp
 · rename_i xs ys
   unfold Rep at r1 r2
   obtain⟨a,vs,rfl,na,ha,ra⟩:=r1
   obtain⟨b,ws,rfl,nb,hb,rb⟩:=r2
   have hl1:=ra.length
   have hl2:=rb.length
   refine Dl pins s σ H _ _ v u Q I rx ry ⟨a,b,vs,ws,rfl,rfl,P.get ha,P.get hb,by rw[←hl1,←hl2];exact q.1,fun z=>?_,fun _ z=>?_,fun _ _ p hp=>?_⟩
   · refine k.here P q.2 S ?_
     unfold Rep
     have:xs=[]:=by rw[z]at hl1;exact List.length_eq_zero_iff.mp hl1
     subst this
     exact⟨b,ws,rfl,nb,hb,rb⟩
   · refine k.here P q.2 S ?_
     unfold Rep
     have:ys=[]:=by rw[z]at hl2;exact List.length_eq_zero_iff.mp hl2
     subst this
     rw[List.append_nil]
     exact⟨a,vs,rfl,na,ha,ra⟩
   · exact k.tup P q.2 S (aZ.mpr (fF (aZ.mp ra) (aZ.mp rb))) hp
noncomputable def FT:dJ:=fun x y st K=>match x,y with
 | .int i,.int j=>IntMulOk i j∧K (.int (i*j)) st
 | .lst xs,.int k=>(-(2^63)≤k∧k<2^63∧xs.length*k.toNat≤sizeLine)∧K (.lst (List.replicate k.toNat xs).flatten) st
 | .tup xs,.int k=>(-(2^63)≤k∧k<2^63∧xs.length*k.toNat≤sizeLine)∧K (.tup (List.replicate k.toNat xs).flatten) st
 |_,_=>False
theorem KS:cx X (binaryOp .Mult) (LR FT):=fun pins s σ H x y v u Q I rx ry ⟨α,d,e,st,K,G,F',P,r1,r2,S,q,k⟩=>by
 cases d<;>cases e<;>try exact q.elim
 · unfold Rep at r1 r2
   have h:cx X (binaryOp .Mult) (rI IntMulOk fun i j=> .int (i*j)):=FD fun _ _ _ _ _ _ _ hc q=>mul_int q hc
   exact h pins s σ H x y v u Q I rx ry ⟨_,_,r1,r2,q.1,k.here P q.2 S (by unfold Rep;rfl)⟩
 · unfold Rep at r1 r2
   obtain⟨a,vs,rfl,na,ha,ra⟩:=r1
   refine zj pins s σ H _ _ v u Q I rx ry ⟨a,_,vs,rfl,r2,gL P ha,q.1.1,q.1.2.1,by rw[←ra.length];exact q.1.2.2,fun p hp=>?_⟩
   exact k.lst P q.2 S (aZ.mpr (lj (aZ.mp ra) _)) hp
 · rename_i xs m
   have r1':=r1
   unfold Rep at r1 r2
   obtain⟨a,vs,rfl,na,ha,ra⟩:=r1
   refine Gd pins s σ H _ _ v u Q I rx ry ⟨a,_,vs,rfl,r2,P.get ha,q.1.1,q.1.2.1,by rw[←ra.length];exact q.1.2.2,fun hs=>?_,fun _ p hp=>k.tup P q.2 S (aZ.mpr (lj (aZ.mp ra) _)) hp⟩
   have e:(List.replicate m.toNat xs).flatten=xs:=by
    rcases hs with z|z
    · have:xs=[]:=List.length_eq_zero_iff.mp (by rw[ra.length,z];rfl)
      rw[this];simp
    · rw[z];simp
   have q2:=q.2
   rw[e]at q2
   exact k.here P q2 S r1'
noncomputable def live(st:ai):D→Bool
 | .ref n=>(match st[n]? with|some (.lst _)=>true|some (.ins _ _)=>true|_=>false)
 |_=>true
theorem yj{α:List (Option Addr)}{H:Hp}{st:ai}{n:Nat}{v:V}(S:aX α st H)(h:live st (.ref n)=true)(r:Rep α H (.ref n) v):∃a,v= .ref a:=by
 unfold live at h
 simp only at h
 split at h
 · rename_i e
   obtain⟨a,ea,_⟩:=S.hO e
   exact⟨a,dw ea r⟩
 · rename_i e
   obtain⟨a,ea,_⟩:=S.vX e
   exact⟨a,dw ea r⟩
 · cases h
noncomputable def Ho:dJ:=fun x y st K=>match y with| .aH=>live st x=true∧K (.bl (match x with| .aH=>false|_=>true)) st|_=>False
theorem HF:cx X (compareOp .IsNot) (LR Ho):=cx.imp GZ fun x y H Q ⟨α,d,e,st,K,G,F',P,r1,r2,S,q,k⟩=>by
 cases e<;>try exact q.elim
 unfold Rep at r2
 refine⟨r2,k.here P q.2 S ?_⟩
 unfold Rep
 cases d
 case ref n=>
  obtain⟨a,rfl⟩:=yj S q.1 r1
  rfl
 all_goals(unfold Rep at r1;first|(rw[r1];rfl)|(obtain⟨a,vs,rfl,_⟩:=r1;rfl))
noncomputable def pJ:dJ:=fun x y st K=>match y with
 | .int i=>(match x with
   | .lst xs=>(match eh xs i with|some d=>K d st|none=>False)
   | .tup xs=>(match eh xs i with|some d=>K d st|none=>False)
   | .ref n=>(match st[n]? with|some (.lst xs)=>(match eh xs i with|some d=>K d st|none=>False)|_=>False)
   |_=>False)
 |_=>False
theorem aO.eh{α:List (Option Addr)}{H:Hp}{ds:List D}{vs:List V}{i:Int}{d:D}(h:aO α H ds vs)(e:L2.eh ds i=some d):∃v,L2.eh vs i=some v∧Rep α H d v:=by
 unfold L2.eh at e⊢
 rw[←h.length]
 cases q:kM ds.length i with
 |none=>rw[q]at e;cases e
 |some j=>rw[q]at e;exact h.get e
theorem Nm:FG X (LR pJ):=fun value slice pins s σ H x y v u Q I rx ry ⟨α,d,e,st,K,G,F',P,r1,r2,S,q,k⟩ hs=>by
 cases e<;>try exact q.elim
 unfold Rep at r2
 cases d<;>try exact q.elim
 · rename_i i n
   unfold pJ at q
   simp only at q
   split at q
   · split at q
     · rename_i xs e1 _ d' e2
       obtain⟨a,ea,vs,hv,rv⟩:=S.hO e1
       have r1':=dw ea r1
       subst r1'
       obtain⟨z,ez,rz⟩:=rv.eh e2
       exact zG value slice pins s σ H _ _ v u Q I rx ry ⟨a,vs,_,z,rfl,r2,.of (P.get hv),ez,k.here P q S rz⟩ hs
     · exact q.elim
   · exact q.elim
 · unfold pJ at q
   simp only at q
   split at q
   · rename_i xs d' e2
     unfold Rep at r1
     obtain⟨a,vs,rfl,na,ha,ra⟩:=r1
     obtain⟨z,ez,rz⟩:=ra.eh e2
     exact zG value slice pins s σ H _ _ v u Q I rx ry ⟨a,vs,_,z,rfl,r2,.inl (gL P ha),ez,k.here P q S rz⟩ hs
   · exact q.elim
 · unfold pJ at q
   simp only at q
   split at q
   · rename_i xs d' e2
     unfold Rep at r1
     obtain⟨a,vs,rfl,na,ha,ra⟩:=r1
     obtain⟨z,ez,rz⟩:=ra.eh e2
     exact Kd value slice pins s σ H _ _ v u Q I rx ry ⟨a,vs,_,z,rfl,r2,.of (P.get ha),ez,k.here P q S rz⟩ hs
   · exact q.elim
theorem Ng{a b:Expr}{ta tb:DE}{pos:Pos}(ha:PE X a (LE ta))(hb:PE X b (LE tb))(hs:qZ b:=by intro _ _;rfl):PE X (.Subscript a b pos) (LE (ay pJ ta tb)):=PE.imp (Ls Nm ha hb hs) fun _ _ _ h=>LE.op h
end
end L3
namespace L3
open PySem PySem.Spec L2
open PyProof.Rows hiding St
section
variable {X:Cx}
noncomputable def items?(st:ai):D→Option (List D)
 | .lst xs=>some xs
 | .tup xs=>some xs
 | .ref n=>(match st[n]? with|some (.lst xs)=>some xs|_=>none)
 |_=>none
@[simp] theorem ME(st:ai)(xs:List D):items? st (.lst xs)=some xs:=rfl
@[simp] theorem MM(st:ai)(xs:List D):items? st (.tup xs)=some xs:=rfl
@[simp] theorem items_int(st:ai)(i:Int):items? st (.int i)=none:=rfl
@[simp] theorem M_(st:ai)(i:Bool):items? st (.bl i)=none:=rfl
@[simp] theorem items_str(st:ai)(i:Str):items? st (.str i)=none:=rfl
@[simp] theorem Mu(st:ai):items? st .aH=none:=rfl
theorem aI{st:ai}{n:Nat}{xs:List D}(h:st[n]?=some (.lst xs)):items? st (.ref n)=some xs:=by unfold items?;simp only[h]
theorem nS{α:List (Option Addr)}{H:Hp}{st:ai}{d:D}{v:V}{xs:List D}(S:aX α st H)(r:Rep α H d v)(e:items? st d=some xs):
 ∃p vs,v= .ref p∧aO α H xs vs∧(Rd H p (.lst vs)∨H p=some (.tup vs)):=by
 cases d<;>try(cases e;done)
 · unfold items? at e
   simp only at e
   split at e
   · rename_i ys q
     cases e
     obtain⟨a,ea,vs,h1,h2⟩:=S.hO q
     have r':=dw ea r
     subst r'
     exact⟨a,vs,rfl,h2,.inl (.of h1)⟩
   · cases e
 · cases e
   unfold Rep at r
   obtain⟨a,vs,rfl,_,h1,h2⟩:=r
   exact⟨a,vs,rfl,h2,.inl h1⟩
 · cases e
   unfold Rep at r
   obtain⟨a,vs,rfl,_,h1,h2⟩:=r
   exact⟨a,vs,rfl,h2,.inr h1⟩
theorem AV{K:PySem.W.Frag}{G F H:Hp}(P:cq G F H){p:Addr}{vs:List V}(h:Rd G p (.lst vs)∨G p=some (.tup vs)):mr K H p vs∨jj K H p vs:=h.elim (fun z=> .inl (.inl (gL P z))) fun z=> .inr (.of (P.get z))
theorem i7{α:List (Option Addr)}{H:Hp}{ds:List D}{xs:List V}{d:D}(r:aO α H ds xs)(e:ds=[d]):∃v,xs=[v]∧Rep α H d v:=by
 subst e
 unfold aO at r
 obtain⟨v,q,rfl,h1,h2⟩:=r
 unfold aO at h2
 subst h2
 exact⟨v,rfl,h1⟩
theorem mR{α:List (Option Addr)}{H:Hp}{ds:List D}{xs:List V}{d e:D}(r:aO α H ds xs)(q:ds=[d,e]):∃v u,xs=[v,u]∧Rep α H d v∧Rep α H e u:=by
 subst q
 unfold aO at r
 obtain⟨v,q,rfl,h1,h2⟩:=r
 obtain⟨u,rfl,h3⟩:=i7 h2 rfl
 exact⟨v,u,rfl,h1,h3⟩
noncomputable def wm:gd:=fun ds st K=>match ds with
 | [.str x]=>x.length≤sizeLine∧K (.int x.length) st
 | [d]=>(match items? st d with|some xs=>K (.int xs.length) st|none=>False)
 |_=>False
theorem Lw:b_ X (.builtin "len") (ip wm):=fun pins s σ H xs us Q I rs ⟨α,ds,st,K,G,F',P,r,S,q,k⟩=>by
 unfold wm at q
 split at q
 · rename_i x
   obtain⟨v,rfl,r1⟩:=i7 r rfl
   unfold Rep at r1
   subst r1
   exact xS pins s σ H _ us Q I rs ⟨x,rfl,q.1,k.here P q.2 S (by unfold Rep;rfl)⟩
 · rename_i d _
   split at q
   · rename_i ys e
     obtain⟨v,rfl,r1⟩:=i7 r rfl
     obtain⟨p,vs,rfl,r2,h⟩:=nS S r1 e
     refine xN pins s σ H _ us Q I rs ⟨p,vs,rfl,AV P h,k.here P q S (by unfold Rep;rw[r2.length])⟩
   · exact q.elim
 · exact q.elim
noncomputable def Mw(g:Int→Int):gd:=fun ds st K=>match ds with| [.int i]=>K (.int (g i)) st|_=>False
noncomputable abbrev Av:gd:=Mw fun i=>if i<0 then-i else i
theorem Mn:b_ X (.builtin "abs") (ip Av):=b_.imp EM fun xs H Q ⟨α,ds,st,K,G,F',P,r,S,q,k⟩=>by
 unfold Av Mw at q
 split at q
 · obtain⟨v,rfl,r1⟩:=i7 r rfl
   unfold Rep at r1
   subst r1
   exact⟨_,rfl,k.here P q S (by unfold Rep;rfl)⟩
 · exact q.elim
noncomputable def Af(g:Int→Int→Int):gd:=fun ds st K=>match ds with| [.int i,.int j]=>K (.int (g i j)) st|_=>False
noncomputable abbrev Ao:gd:=Af fun i j=>if j>i then j else i
noncomputable abbrev AN:gd:=Af fun i j=>if j<i then j else i
theorem Mp(hc:X.calm=true):b_ X (.builtin "max") (ip Ao):=b_.imp (CD hc) fun xs H Q ⟨α,ds,st,K,G,F',P,r,S,q,k⟩=>by
 unfold Ao Af at q
 split at q
 · obtain⟨v,u,rfl,r1,r2⟩:=mR r rfl
   unfold Rep at r1 r2
   subst r1 r2
   exact⟨_,_,rfl,k.here P q S (by unfold Rep;rfl)⟩
 · exact q.elim
theorem Ma(hc:X.calm=true):b_ X (.builtin "min") (ip AN):=b_.imp (C0 hc) fun xs H Q ⟨α,ds,st,K,G,F',P,r,S,q,k⟩=>by
 unfold AN Af at q
 split at q
 · obtain⟨v,u,rfl,r1,r2⟩:=mR r rfl
   unfold Rep at r1 r2
   subst r1 r2
   exact⟨_,_,rfl,k.here P q S (by unfold Rep;rfl)⟩
 · exact q.elim
noncomputable def AJ:gd:=fun ds st K=>match ds with| [.int i]=>K (.int i) st| [.bl b]=>K (.int (if b then 1 else 0)) st|_=>False
theorem K5:b_ X (.type "int") (ip AJ):=b_.imp Bq fun xs H Q ⟨α,ds,st,K,G,F',P,r,S,q,k⟩=>by
 unfold AJ at q
 split at q
 · obtain⟨v,rfl,r1⟩:=i7 r rfl
   unfold Rep at r1
   subst r1
   exact .inl ⟨_,rfl,k.here P q S (by unfold Rep;rfl)⟩
 · obtain⟨v,rfl,r1⟩:=i7 r rfl
   unfold Rep at r1
   subst r1
   exact .inr ⟨_,rfl,k.here P q S (by unfold Rep;rfl)⟩
 · exact q.elim
noncomputable def qS:gd:=fun ds st K=>match ds with| [d]=>(match items? st d with|some xs=>K (.tup xs) st|none=>False)|_=>False
theorem HW:b_ X (.type "tuple") (ip qS):=b_.imp vN fun xs H Q ⟨α,ds,st,K,G,F',P,r,S,q,k⟩=>by
 unfold qS at q
 split at q
 · rename_i d
   split at q
   · rename_i ys e
     obtain⟨v,rfl,r1⟩:=i7 r rfl
     cases d with
     |tup zs=>
      cases e
      have r0:=r1
      unfold Rep at r1
      obtain⟨a,vs,rfl,na,h1,h2⟩:=r1
      exact⟨a,vs,rfl,.inr ⟨.of (P.get h1),k.here P q S r0⟩⟩
     |_=>
      obtain⟨p,vs,rfl,r2,h⟩:=nS S r1 e
      refine⟨p,vs,rfl,?_⟩
      rcases h with h|h
      · exact .inl ⟨.inl (gL P h),fun l hl=>k.tup P q S r2 hl⟩
      · first
         |(cases e;done)
         |(exfalso
           unfold items? at e
           simp only at e
           first
            |(split at e
              · rename_i z
                obtain⟨a,ea,vs',h1,h2⟩:=S.hO z
                have e':=dw ea r1
                cases e'
                rw[h]at h1;cases h1
              · cases e)
            |(unfold Rep at r1
              obtain⟨a,vs',e',_,h1,_⟩:=r1
              cases e'
              rcases h1 with h1|⟨o,h1⟩<;>(rw[h]at h1;cases h1)))
   · exact q.elim
 · exact q.elim
noncomputable def tX:gd:=fun ds st K=>match ds with| [d]=>(match items? st d with|some xs=>K (.lst xs) st|none=>False)|_=>False
theorem Jv:b_ X (.type "list") (ip tX):=b_.imp qf fun xs H Q ⟨α,ds,st,K,G,F',P,r,S,q,k⟩=>by
 unfold tX at q
 split at q
 · split at q
   · rename_i ys e
     obtain⟨v,rfl,r1⟩:=i7 r rfl
     obtain⟨p,vs,rfl,r2,h⟩:=nS S r1 e
     exact⟨p,vs,rfl,AV P h,fun l hl=>k.lst P q S r2 hl⟩
   · exact q.elim
 · exact q.elim
noncomputable def rq:gd:=fun ds st K=>match ds with| [d]=>(match items? st d with|some xs=>K (.ref st.length) (st++[.lst xs])|none=>False)|_=>False
theorem HZ:b_ X (.type "list") (ip rq):=b_.imp qf fun xs H Q ⟨α,ds,st,K,G,F',P,r,S,q,k⟩=>by
 unfold rq at q
 split at q
 · split at q
   · rename_i ys e
     obtain⟨v,rfl,r1⟩:=i7 r rfl
     obtain⟨p,vs,rfl,r2,h⟩:=nS S r1 e
     exact⟨p,vs,rfl,AV P h,fun l hl=>k.new P q S r2 hl⟩
   · exact q.elim
 · exact q.elim
noncomputable def jK:List D→Option (List Bool)
 | []=>some []
 | .bl b::r=>(jK r).map (b:: ·)
 |_::_=>none
theorem t_{α:List (Option Addr)}{H:Hp}:∀ {ds:List D} {vs:List V} {bs:List Bool},aO α H ds vs→jK ds=some bs→vs=bs.map V.bl
 | [],vs,bs,r,e=>by
   unfold aO at r
   cases e
   exact r
 |d::ds,vs,bs,r,e=>by
  unfold aO at r
  obtain⟨v,q,rfl,h1,h2⟩:=r
  cases d<;>try(cases e;done)
  unfold jK at e
  cases z:jK ds with
  |none=>rw[z]at e;cases e
  |some cs=>
   rw[z]at e
   cases e
   unfold Rep at h1
   rw[h1,t_ h2 z]
   rfl
theorem uf:∀ {bs:List Bool} {us:List Value},Vals (bs.map V.bl) us→us=bs.map Value.bool
 | [],_,.nil=>rfl
 |b::bs,_,.cons h t=>by
  have h:_=Value.bool b:=h
  rw[h,uf t]
  rfl
end
end L3
namespace L3
open PySem PySem.Spec L2
open PyProof.Rows hiding St
section
variable {X:Cx}
noncomputable def wq:gd:=fun ds st K=>match ds with| [.lst xs]=>(match jK xs with|some bs=>K (.bl (bs.all id)) st|none=>False)|_=>False
theorem range_all{α:Type}(l:List α)(f:α→Bool)(tr:Nat→Bool)(h:∀i x,l[i]?=some x→tr i=f x):(List.range l.length).all tr=l.all f:=by
 induction l generalizing tr with
 |nil=>rfl
 |cons a l ih=>
  rw[List.length_cons,List.range_succ_eq_map,List.all_cons,List.all_cons,List.all_map,h 0 a rfl]
  congr 1
  exact ih (tr∘Nat.succ) fun i x e=>h (i+1) x (by simpa using e)
theorem K2(hc:X.calm=true):b_ X (.builtin "all") (ip wq):=fun pins s σ H xs us Q I rs ⟨α,ds,st,K,G,F',P,r,S,q,k⟩=>by
 unfold wq at q
 split at q
 · rename_i ys
   split at q
   · rename_i bs e
     obtain⟨v,rfl,r1⟩:=i7 r rfl
     unfold Rep at r1
     obtain⟨a,vs,rfl,na,h1,h2⟩:=r1
     obtain⟨u,rfl,ru⟩:=vals1 rs
     cases ru
     have hv:=t_ h2 e
     subst hv
     obtain⟨z,its,n,rv,hl,eo⟩:=Inv.u6 I (gL P h1)
     have hits:=uf rv
     subst hits
     have isL:s.heap.IsList a (bs.map Value.bool).toArray:=⟨_,eo,rfl,n,rfl⟩
     refine call_all_walk (wpAny_pyIter_list isL ?_)
     have hne:a≠s.heap.objs.size:=Nat.ne_of_lt (Heap.lt_size eo)
     refine⟨s.heap.objs.size,_,_,_,_,_,fun i=>(bs[i]?).getD true,rfl,Walks.list (A:=X.A.in1) (I.ok.hd hc) _ a hne (bs.map Value.bool).toArray,⟨⟨_,Heap.get?_push_size _ rfl,rfl,rfl⟩,⟨_,Heap.get?_push_of_some _ eo,rfl,n,rfl⟩⟩,?_,?_⟩
     · intro i w s' Q' E' hP hQ
       rw[List.getElem?_toArray,List.getElem?_map]at hP
       cases zb:bs[i]? with
       |none=>rw[zb]at hP;cases hP
       |some b=>
        rw[zb]at hP
        cases hP
        simp only[zb]at hQ
        exact wpAny_truthy_bool hQ
     · intro h' tk hk
       have kp:∀b o,s.heap.get? b=some o→h'.get? b=some o:=fun b o q=>hk b o (by
        intro hb
        have:b=s.heap.objs.size:=by simpa using hb
        exact absurd (Heap.lt_size q) (by rw[this];exact Nat.lt_irrefl _)) (Heap.get?_push_of_some _ q)
       have ea:(List.range (bs.map Value.bool).toArray.size).all (fun i=>(bs[i]?).getD true)=bs.all id:=by
        rw[List.size_toArray,List.length_map]
        exact range_all bs id _ fun i x e=>by rw[e];rfl
       rw[ea]
       exact⟨.bl (bs.all id),H,I.kept (t':=tk) kp,rfl,k.here P q S (by unfold Rep;rfl)⟩
   · exact q.elim
 · exact q.elim
noncomputable def jv(st:ai):D→Option String
 | .aH=>some "NoneType"
 | .bl _=>some "bool"
 | .int _=>some "int"
 | .str _=>some "str"
 | .lst _=>some "list"
 | .tup _=>some "tuple"
 | .ref n=>(match st[n]? with|some (.lst _)=>some "list"|_=>none)
 | .ty _=>none
@[simp] theorem NJ(st:ai)(xs:List D):jv st (.lst xs)=some "list":=rfl
@[simp] theorem NV(st:ai)(xs:List D):jv st (.tup xs)=some "tuple":=rfl
@[simp] theorem ty_int(st:ai)(i:Int):jv st (.int i)=some "int":=rfl
@[simp] theorem NX(st:ai)(i:Bool):jv st (.bl i)=some "bool":=rfl
@[simp] theorem ty_str(st:ai)(i:Str):jv st (.str i)=some "str":=rfl
@[simp] theorem NA(st:ai):jv st .aH=some "NoneType":=rfl
noncomputable def sv(t c:String):Bool:=t==c||(t=="bool"&&c=="int")
theorem xG{α:List (Option Addr)}{H:Hp}{st:ai}{K:PySem.W.Frag}{d:D}{v:V}{t:String}(S:aX α st H)(r:Rep α H d v)(e:jv st d=some t):jG K H v (.type t):=by
 cases d<;>unfold jv at e<;>try(cases e;done)
 · unfold Rep at r;cases e;subst r;exact .aH
 · unfold Rep at r;cases e;subst r;exact .bl _
 · unfold Rep at r;cases e;subst r;exact .int _
 · unfold Rep at r;cases e;subst r;exact .str _
 · simp only at e
   split at e
   · rename_i z
     cases e
     obtain⟨a,ea,vs',h1,h2⟩:=S.hO z
     have r':=dw ea r
     subst r'
     exact .lst h1
   · cases e
 · cases e
   unfold Rep at r
   obtain⟨a,vs,rfl,na,h1,h2⟩:=r
   rcases h1 with h1|⟨o,h1⟩
   · exact .lst h1
   · exact .g9 h1
 · cases e
   unfold Rep at r
   obtain⟨a,vs,rfl,na,h1,h2⟩:=r
   exact .tup h1
theorem zw{G F H:Hp}{K:PySem.W.Frag}(P:cq G F H){x:V}{t:Value}(h:jG K G x t):jG K H x t:=by
 cases h with
 |aH=>exact .aH
 |bl x=>exact .bl x
 |int x=>exact .int x
 |str x=>exact .str x
 |rV x=>exact .rV x
 |lst e=>exact .lst (P.get e)
 |g9 e=>exact .g9 (P.get e)
 |tup e=>exact .tup (P.get e)
 |dK e=>exact .dK (P.get e)
 |dT e=>exact .dT (P.get e)
 |ins e a b c d f=>exact .ins (P.get e) a b c d f
noncomputable def rp:List String:=["NoneType","bool","int","str","list","tuple"]
noncomputable def nr:List String:=["bool","int","str","list","tuple"]
theorem za(K:PySem.W.Frag){t c:String}(ht:t∈rp)(hc:c∈nr):PySem.W.kitOne K (.type t) (.type c)=some (sv t c):=by
 simp only[rp,nr,List.mem_cons,List.not_mem_nil,or_false]at ht hc
 rcases ht with rfl|rfl|rfl|rfl|rfl|rfl<;>rcases hc with rfl|rfl|rfl|rfl|rfl<;>with_unfolding_all rfl
theorem wM{st:ai}{d:D}{t:String}(e:jv st d=some t):t∈rp:=by
 cases d<;>unfold jv at e<;>first
  |(cases e;done)
  |(cases e;decide)
  |(simp only at e;split at e<;>cases e;decide)
theorem kitx_of{pins:List (Addr×Obj)}{σ:L2.St}{H:Hp}{s:Shared}{x:V}{u:Value}{t:String}(I:Inv X pins σ H s)(rx:RelV x u)(ty:jG X.K H x (.type t)):
 ∃Hh:Heap→Prop,PySem.W.KitX X.K u (.type t) Hh∧Hh s.heap∧u≠ .builtin "__main__.__loader__#opaque":=by
 cases ty with
 |aH=>cases (show u=Value.none from rx);exact⟨_,PySem.W.kitx_none,True.intro,fun z=>nomatch z⟩
 |bl y=>cases (show u=Value.bool y from rx);exact⟨_,PySem.W.kitx_bool,True.intro,fun z=>nomatch z⟩
 |int i=>obtain⟨t,q⟩:=(show∃t,u=Value.int i t from rx);cases q;exact⟨_,PySem.W.kitx_int,True.intro,fun z=>nomatch z⟩
 |str y=>obtain⟨t,q⟩:=(show∃t,u=Value.str y t from rx);cases q;exact⟨_,PySem.W.kitx_str,True.intro,fun z=>nomatch z⟩
 |rV y=>obtain⟨t,q⟩:=(show∃t,u=Value.float y t from rx);cases q;exact⟨_,PySem.W.kitx_float,True.intro,fun z=>nomatch z⟩
 | @lst a xs ea=>
   cases (show u=Value.ref a from rx)
   obtain⟨_,_,n,_,h1⟩:=(show dO X.prog X.w H s.heap a (.lst xs)from I.aM a _ ea)
   exact⟨_,PySem.W.kitx_list,⟨_,h1,rfl⟩,fun z=>nomatch z⟩
 | @g9 a ob xs ea=>
   cases (show u=Value.ref a from rx)
   obtain⟨_,_,_,n,_,h1⟩:=(show dO X.prog X.w H s.heap a (.g9 ob (.lst xs))from I.aM a _ ea)
   exact⟨_,PySem.W.kitx_list,⟨_,h1,rfl⟩,fun z=>nomatch z⟩
 | @tup a xs ea=>
   cases (show u=Value.ref a from rx)
   obtain⟨_,_,_,p⟩:=(show dO X.prog X.w H s.heap a (.tup xs)from I.aM a _ ea)
   obtain⟨o,h1,h2,_⟩:=p
   exact⟨_,PySem.W.kitx_tuple,⟨o,h1,h2⟩,fun z=>nomatch z⟩
 | @dK a kvs ea=>
   cases (show u=Value.ref a from rx)
   obtain⟨_,_,vs,_,p⟩:=(show dO X.prog X.w H s.heap a (.dK kvs)from I.aM a _ ea)
   obtain⟨o,es,ep,h1,h2,_⟩:=p
   exact⟨_,PySem.W.kitx_dict,⟨o,h1,h2.1⟩,fun z=>nomatch z⟩
 | @dT a kvs ea=>
   cases (show u=Value.ref a from rx)
   obtain⟨_,_,xs,_,o,es,ep,h1,h2,_⟩:=(show dO X.prog X.w H s.heap a (.dT kvs)from I.aM a _ ea)
   exact⟨_,PySem.W.kitx_dict,⟨o,h1,h2.1⟩,fun z=>nomatch z⟩
noncomputable def oX:List D→Option (List String)
 | []=>some []
 | .ty b::r=>(oX r).map (b:: ·)
 |_::_=>none
theorem yf{α:List (Option Addr)}{H:Hp}:∀ {ds:List D} {vs:List V} {bs:List String},aO α H ds vs→oX ds=some bs→vs=bs.map V.ty
 | [],vs,bs,r,e=>by
   unfold aO at r
   cases e
   exact r
 |d::ds,vs,bs,r,e=>by
  unfold aO at r
  obtain⟨v,q,rfl,h1,h2⟩:=r
  cases d<;>try(cases e;done)
  unfold oX at e
  cases z:oX ds with
  |none=>rw[z]at e;cases e
  |some cs=>
   rw[z]at e
   cases e
   unfold Rep at h1
   rw[h1,yf h2 z]
   rfl
theorem wL:∀ {bs:List String} {us:List Value},Vals (bs.map V.ty) us→us=bs.map Value.type
 | [],_,.nil=>rfl
 |b::bs,_,.cons h t=>by
  have h:_=Value.type b:=h
  rw[h,wL t]
  rfl
theorem zK(K:PySem.W.Frag){t:String}(ht:t∈rp):∀cs:List String,(∀c∈cs,c∈nr)→PySem.W.kitAny K (.type t) (cs.map Value.type)=some (cs.any (sv t))
 | [],_=>rfl
 |c::cs,h=>by
  show(match PySem.W.kitOne K (.type t) (.type c)with|some true=>some true|some false=>PySem.W.kitAny K (.type t) (cs.map Value.type)|none=>none)=_
  rw[za K ht (h c List.mem_cons_self),List.any_cons]
  cases sv t c with
  |true=>rfl
  |false=>exact zK K ht cs fun c hc=>h c (List.mem_cons_of_mem _ hc)
noncomputable def wu:gd:=fun ds st K=>match ds with
 | [d,.ty c]=>(match jv st d with|some t=>c∈nr∧K (.bl (sv t c)) st|none=>False)
 | [d,.tup cs]=>(match jv st d,oX cs with|some t,some cl=>(∀c∈cl,c∈nr)∧K (.bl (cl.any (sv t))) st|_,_=>False)
 |_=>False
theorem L9:b_ X (.builtin "isinstance") (ip wu):=fun pins s σ H xs us Q I rs ⟨α,ds,st,K,G,F',P,r,S,q,k⟩=>by
 unfold wu at q
 split at q
 · rename_i d c
   split at q
   · rename_i t e
     obtain⟨v,v2,rfl,r1,r2⟩:=mR r rfl
     obtain⟨u,u2,rfl,ru,ru2⟩:=vals2 rs
     unfold Rep at r2
     subst r2
     cases (show u2=Value.type c from ru2)
     exact BH I ru (zw P (xG S r1 e)) (za _ (wM e) q.1) fun tk=>⟨.bl (sv t c),H,I.tok tk,rfl,k.here P q.2 S (by unfold Rep;rfl)⟩
   · exact q.elim
 · rename_i d cs
   split at q
   · rename_i t cl e ec
     obtain⟨v,v2,rfl,r1,r2⟩:=mR r rfl
     obtain⟨u,u2,rfl,ru,ru2⟩:=vals2 rs
     unfold Rep at r2
     obtain⟨a,vs,rfl,na,h1,h2⟩:=r2
     cases (show u2=Value.ref a from ru2)
     have hv:=yf h2 ec
     subst hv
     obtain⟨Hh,Z,hh,hne⟩:=kitx_of I ru (zw P (xG S r1 e))
     obtain⟨its,r',pl,hz⟩:=I.tuple (jj.of (P.get h1))
     have hi:=wL r'
     subst hi
     obtain⟨⟨cls,dd,data,sl⟩,ho,hc,n,hd⟩:=pl
     simp only at hc hd
     subst hc hd
     exact PySem.W.kia_tup Z I.iz hh ho (zK _ (wM e) cl q.1) hne fun tk=>⟨.bl _,H,I.tok tk,rfl,k.here P q.2 S (by unfold Rep;rfl)⟩
   · exact q.elim
 · exact q.elim
end
end L3
namespace L3
open PySem PySem.Spec L2 PySem.SeqAt
open PyProof.Rows hiding St
mutual
noncomputable def cV:D→D→Bool
 | .aH,.aH=>true
 | .bl a,.bl b=>a==b
 | .bl a,.int b=>(if a then 1 else 0)==b
 | .int a,.bl b=>a==(if b then 1 else 0)
 | .int a,.int b=>a==b
 | .str a,.str b=>a==b
 | .lst xs,.lst ys=>i5 xs ys
 | .tup xs,.tup ys=>i5 xs ys
 |_,_=>false
noncomputable def i5:List D→List D→Bool
 | [],[]=>true
 |x::xs,y::ys=>cV x y&&i5 xs ys
 |_,_=>false
end
noncomputable def pl:Nat→D→Bool
 |_,.aH=>true
 |_,.bl _=>true
 |_,.int _=>true
 |_,.str _=>true
 |n+1,.lst xs=>xs.all (pl n)
 |n+1,.tup xs=>xs.all (pl n)
 |_,_=>false
mutual
theorem sS:∀(n:Nat) (d:D),pl n d=true→cV d d=true
 |_,.aH,_=>rfl
 |_,.bl _,_=>by simp[cV]
 |_,.int _,_=>by simp[cV]
 |_,.str _,_=>by simp[cV]
 |n+1,.lst xs,h=>by unfold cV;exact qL n xs (by unfold pl at h;exact h)
 |n+1,.tup xs,h=>by unfold cV;exact qL n xs (by unfold pl at h;exact h)
 |0,.lst xs,h=>by cases h
 |0,.tup xs,h=>by cases h
 |_,.ref _,h=>by unfold pl at h;cases h
 |_,.ty _,h=>by unfold pl at h;cases h
theorem qL:∀(n:Nat) (xs:List D),xs.all (pl n)=true→i5 xs xs=true
 |_,[],_=>by unfold i5;rfl
 |n,x::xs,h=>by
  rw[List.all_cons,Bool.and_eq_true]at h
  unfold i5
  rw[sS n x h.1,qL n xs h.2]
  rfl
end
mutual
theorem Rep.inj{α:List (Option Addr)}{H:Hp}:∀ {d e:D} {v:V} (n:Nat),pl n d=true→pl n e=true→Rep α H d v→Rep α H e v→d=e
 | .aH,e,v,n,_,he,h1,h2=>by
   unfold Rep at h1;subst h1
   cases e<;>first|(unfold pl at he;cases he;done)|(unfold Rep at h2;cases h2;rfl)|(unfold Rep at h2;cases h2;done)|(unfold Rep at h2;obtain⟨_,_,h2,_⟩:=h2;cases h2)|rfl|(cases h2;done)|(obtain⟨_,_,h2,_⟩:=h2;cases h2)|(obtain⟨_,_,h2⟩:=h2;cases h2)
 | .bl b,e,v,n,_,he,h1,h2=>by
   unfold Rep at h1;subst h1
   cases e<;>first|(unfold pl at he;cases he;done)|(unfold Rep at h2;cases h2;rfl)|(unfold Rep at h2;cases h2;done)|(unfold Rep at h2;obtain⟨_,_,h2,_⟩:=h2;cases h2)|(cases h2;rfl)|(cases h2;done)|(obtain⟨_,_,h2,_⟩:=h2;cases h2)|(obtain⟨_,_,h2⟩:=h2;cases h2)
 | .int b,e,v,n,_,he,h1,h2=>by
   unfold Rep at h1;subst h1
   cases e<;>first|(unfold pl at he;cases he;done)|(unfold Rep at h2;cases h2;rfl)|(unfold Rep at h2;cases h2;done)|(unfold Rep at h2;obtain⟨_,_,h2,_⟩:=h2;cases h2)|(cases h2;rfl)|(cases h2;done)|(obtain⟨_,_,h2,_⟩:=h2;cases h2)|(obtain⟨_,_,h2⟩:=h2;cases h2)
 | .str b,e,v,n,_,he,h1,h2=>by
   unfold Rep at h1;subst h1
   cases e<;>first|(unfold pl at he;cases he;done)|(unfold Rep at h2;cases h2;rfl)|(unfold Rep at h2;cases h2;done)|(unfold Rep at h2;obtain⟨_,_,h2,_⟩:=h2;cases h2)|(cases h2;rfl)|(cases h2;done)|(obtain⟨_,_,h2,_⟩:=h2;cases h2)|(obtain⟨_,_,h2⟩:=h2;cases h2)
 | .ty b,e,v,n,hd,he,h1,h2=>by unfold pl at hd;cases hd
 | .ref b,e,v,n,hd,he,h1,h2=>by unfold pl at hd;cases hd
 | .lst xs,e,v,0,hd,he,h1,h2=>by cases hd
 | .tup xs,e,v,0,hd,he,h1,h2=>by cases hd
 | .lst xs,e,v,n+1,hd,he,h1,h2=>by
   unfold Rep at h1
   obtain⟨a,vs,rfl,na,ha,ra⟩:=h1
   cases e<;>unfold Rep at h2<;>try(cases h2;done)
   · unfold pl at he;cases he
   · obtain⟨a',vs',e',na',ha',ra'⟩:=h2
     cases e'
     have:vs=vs':=by
      rcases ha with ha|⟨o,ha⟩<;>rcases ha' with ha'|⟨o',ha'⟩<;>(rw[ha]at ha';first|(cases ha';rfl)|(cases ha';done))
     subst this
     rw[aO.inj n (by unfold pl at hd;exact hd) (by unfold pl at he;exact he) ra ra']
   · obtain⟨a',vs',e',na',ha',ra'⟩:=h2
     cases e'
     rcases ha with ha|⟨o,ha⟩<;>(rw[ha]at ha';cases ha')
 | .tup xs,e,v,n+1,hd,he,h1,h2=>by
   unfold Rep at h1
   obtain⟨a,vs,rfl,na,ha,ra⟩:=h1
   cases e<;>unfold Rep at h2<;>try(cases h2;done)
   · unfold pl at he;cases he
   · obtain⟨a',vs',e',na',ha',ra'⟩:=h2
     cases e'
     rcases ha' with ha'|⟨o,ha'⟩<;>(rw[ha]at ha';cases ha')
   · obtain⟨a',vs',e',na',ha',ra'⟩:=h2
     cases e'
     rw[ha]at ha'
     cases ha'
     rw[aO.inj n (by unfold pl at hd;exact hd) (by unfold pl at he;exact he) ra ra']
theorem aO.inj{α:List (Option Addr)}{H:Hp}:∀ {ds es:List D} {vs:List V} (n:Nat),ds.all (pl n)=true→es.all (pl n)=true→aO α H ds vs→aO α H es vs→ds=es
 | [],es,vs,n,_,_,h1,h2=>by
   unfold aO at h1
   subst h1
   cases es with
   |nil=>rfl
   |cons e es=>unfold aO at h2;obtain⟨_,_,h,_⟩:=h2;cases h
 |d::ds,es,vs,n,hd,he,h1,h2=>by
  unfold aO at h1
  obtain⟨v,r,rfl,r1,r2⟩:=h1
  cases es with
  |nil=>unfold aO at h2;cases h2
  |cons e es=>
   unfold aO at h2
   obtain⟨v',r',h,q1,q2⟩:=h2
   cases h
   rw[List.all_cons,Bool.and_eq_true]at hd he
   rw[Rep.inj n hd.1 he.1 r1 q1,aO.inj n hd.2 he.2 r2 q2]
end
theorem nA:∀ {xs ys:List D},xs.length≠ys.length→i5 xs ys=false
 | [],[],h=>absurd rfl h
 | [],_::_,_=>by unfold i5;rfl
 |_::_,[],_=>by unfold i5;rfl
 |x::xs,y::ys,h=>by
  unfold i5
  rw[nA (by simpa using h),Bool.and_false]
theorem nL:∀ {xs ys:List D},xs.length=ys.length→i5 xs ys=(List.range xs.length).all fun j=>cV (xs.getD j .aH) (ys.getD j .aH)
 | [],[],_=>by unfold i5;rfl
 | [],_::_,h=>by cases h
 |_::_,[],h=>by cases h
 |x::xs,y::ys,h=>by
  unfold i5
  rw[List.length_cons,List.range_succ_eq_map,List.all_cons,List.all_map,nL (by simpa using h)]
  rfl
section
variable {X:Cx}{pins:List (Addr×Obj)}{σ:L2.St}{H:Hp}{s:Shared}{α:List (Option Addr)}
theorem j_{xs:List D}{vs:List V}{its:List Value}(r:aO α H xs vs)(v:Vals vs its)(j:Nat)(hj:j<its.length):∃x,xs[j]?=some (xs.getD j .aH)∧Rep α H (xs.getD j .aH) x∧RelV x its[j]:=by
 have h1:=r.length
 have h2:=v.length
 have hx:j<xs.length:=by omega
 have e:xs[j]?=some (xs.getD j .aH):=by rw[List.getElem?_eq_getElem hx,List.getD_eq_getElem?_getD,List.getElem?_eq_getElem hx];rfl
 obtain⟨x,q,rr⟩:=r.get e
 obtain⟨u,q2,rv⟩:=v.get q
 rw[List.getElem?_eq_getElem hj]at q2
 cases q2
 exact⟨x,e,rr,rv⟩
theorem jo{xs:List D}{n:Nat}(h:xs.all (pl n)=true)(j:Nat):pl n (xs.getD j .aH)=true:=by
 rw[List.getD_eq_getElem?_getD]
 cases e:xs[j]? with
 |none=>cases n<;>rfl
 |some d=>exact List.all_eq_true.mp h d (List.mem_of_getElem? e)
noncomputable def vG:D→Bool
 | .aH=>true
 | .bl _=>true
 | .int _=>true
 | .str _=>true
 |_=>false
theorem y9{A:Around}{d e:D}{x y:V}{u v:Value}(hd:vG d=true)(he:vG e=true)(rd:Rep α H d x)(re:Rep α H e y)(rx:RelV x u)(ry:RelV y v):RcAt A s u v (cV d e)∧EqAt A s u v (cV d e):=by
 cases d<;>cases e<;>try(first|(cases hd;done)|(cases he;done))
 all_goals(unfold Rep at rd re;subst rd re)
 all_goals(first|(obtain⟨t,rfl⟩:=rx;obtain⟨t',rfl⟩:=ry)|(obtain⟨t,rfl⟩:=rx;cases ry)|(cases rx;obtain⟨t,rfl⟩:=ry)|(cases rx;cases ry))
 all_goals unfold cV
 · exact⟨RcAt.none_none,EqAt.same _⟩
 · exact⟨RcAt.none_bool _,EqAt.none_bool _⟩
 · exact⟨RcAt.none_int _ _,EqAt.none_int _ _⟩
 · exact⟨RcAt.none_str _ _,EqAt.none_str _ _⟩
 · exact⟨RcAt.bool_none _,EqAt.bool_none _⟩
 · exact⟨RcAt.bool_bool _ _,EqAt.bool_bool _ _⟩
 · exact⟨RcAt.bool_int _ _ _,EqAt.bool_int _ _ _⟩
 · exact⟨RcAt.bool_str _ _ _,EqAt.bool_str _ _ _⟩
 · exact⟨RcAt.int_none _ _,EqAt.int_none _ _⟩
 · exact⟨RcAt.int_bool _ _ _,EqAt.int_bool _ _ _⟩
 · exact⟨RcAt.int_int _ _ _ _,EqAt.int_int _ _ _ _⟩
 · exact⟨RcAt.int_str _ _ _ _,EqAt.int_str _ _ _ _⟩
 · exact⟨RcAt.str_none _ _,EqAt.str_none _ _⟩
 · exact⟨RcAt.str_bool _ _ _,EqAt.str_bool _ _ _⟩
 · exact⟨RcAt.str_int _ _ _ _,EqAt.str_int _ _ _ _⟩
 · exact⟨RcAt.str_str _ _ _ _,EqAt.str_str _ _ _ _⟩
theorem lst_is(I:Inv X pins σ H s){xs:List D}{x:V}{u:Value}(r:Rep α H (.lst xs) x)(rx:RelV x u):∃a vs its,u= .ref a∧aO α H xs vs∧Vals vs its∧s.heap.IsList a its.toArray:=by
 unfold Rep at r
 obtain⟨a,vs,rfl,na,ha,ra⟩:=r
 cases rx
 obtain⟨z,its,n,rv,hl,eo⟩:=Inv.u6 I ha
 exact⟨a,vs,its,rfl,ra,rv,⟨_,eo,rfl,n,rfl⟩⟩
theorem tup_is(I:Inv X pins σ H s){xs:List D}{x:V}{u:Value}(r:Rep α H (.tup xs) x)(rx:RelV x u):∃a vs its,u= .ref a∧aO α H xs vs∧Vals vs its∧s.heap.IsTuple a its.toArray:=by
 unfold Rep at r
 obtain⟨a,vs,rfl,na,ha,ra⟩:=r
 cases rx
 obtain⟨its,r',p,hz⟩:=I.tuple (jj.of ha)
 exact⟨a,vs,its,rfl,ra,r',p⟩
theorem ve(I:Inv X pins σ H s){A:Around}{xs:List D}{e:D}{x y:V}{u v:Value}(he:vG e=true)(rd:Rep α H (.lst xs) x)(re:Rep α H e y)(rx:RelV x u)(ry:RelV y v)(hu:A.units<cLine):
 (RcAt A s u v (cV (.lst xs) e)∧EqAt A s u v (cV (.lst xs) e))∧RcAt A s v u (cV e (.lst xs))∧EqAt A s v u (cV e (.lst xs)):=by
 obtain⟨a,vs,its,rfl,_,_,hl⟩:=lst_is I rd rx
 cases e<;>try(cases he;done)
 all_goals(unfold Rep at re;subst re)
 all_goals(first|(obtain⟨t,rfl⟩:=ry)|(cases ry))
 all_goals unfold cV
 · exact⟨⟨RcAt.list_none hl hu,EqAt.list_none hl hu⟩,RcAt.none_list hl hu,EqAt.none_list hl hu⟩
 · exact⟨⟨RcAt.list_bool _ hl hu,EqAt.list_bool _ hl hu⟩,RcAt.bool_list _ hl hu,EqAt.bool_list _ hl hu⟩
 · exact⟨⟨RcAt.list_int _ _ hl hu,EqAt.list_int _ _ hl hu⟩,RcAt.int_list _ _ hl hu,EqAt.int_list _ _ hl hu⟩
 · exact⟨⟨RcAt.list_str _ _ hl hu,EqAt.list_str _ _ hl hu⟩,RcAt.str_list _ _ hl hu,EqAt.str_list _ _ hl hu⟩
theorem vk(I:Inv X pins σ H s){A:Around}{xs:List D}{e:D}{x y:V}{u v:Value}(he:vG e=true)(rd:Rep α H (.tup xs) x)(re:Rep α H e y)(rx:RelV x u)(ry:RelV y v)(hu:A.units<cLine):
 (RcAt A s u v (cV (.tup xs) e)∧EqAt A s u v (cV (.tup xs) e))∧RcAt A s v u (cV e (.tup xs))∧EqAt A s v u (cV e (.tup xs)):=by
 obtain⟨a,vs,its,rfl,_,_,hl⟩:=tup_is I rd rx
 cases e<;>try(cases he;done)
 all_goals(unfold Rep at re;subst re)
 all_goals(first|(obtain⟨t,rfl⟩:=ry)|(cases ry))
 all_goals unfold cV
 · exact⟨⟨RcAt.tuple_none hl hu,EqAt.tuple_none hl hu⟩,RcAt.none_tuple hl hu,EqAt.none_tuple hl hu⟩
 · exact⟨⟨RcAt.tuple_bool _ hl hu,EqAt.tuple_bool _ hl hu⟩,RcAt.bool_tuple _ hl hu,EqAt.bool_tuple _ hl hu⟩
 · exact⟨⟨RcAt.tuple_int _ _ hl hu,EqAt.tuple_int _ _ hl hu⟩,RcAt.int_tuple _ _ hl hu,EqAt.int_tuple _ _ hl hu⟩
 · exact⟨⟨RcAt.tuple_str _ _ hl hu,EqAt.tuple_str _ _ hl hu⟩,RcAt.str_tuple _ _ hl hu,EqAt.str_tuple _ _ hl hu⟩
theorem y_{A:Around}{n:Nat}{d e:D}{x y:V}{a b:Addr}(hd:pl n d=true)(he:pl n e=true)(rd:Rep α H d x)(re:Rep α H e y)(rx:RelV x (.ref a))(ry:RelV y (.ref b))(h:RcAt A s (.ref a) (.ref b) (cV d e)):
 RcAt A s (.ref a) (.ref b) (cV d e)∧EqAt A s (.ref a) (.ref b) (cV d e):=by
 refine⟨h,?_⟩
 by_cases hab:a=b
 · subst hab
   have hx:x=y:=RelV.inj rx ry
   subst hx
   have:=Rep.inj n hd he rd re
   subst this
   rw[sS n d hd]
   exact EqAt.same _
 · exact EqAt.of_refs hab h
theorem z_(I:Inv X pins σ H s):∀(n:Nat) (A:Around) (d e:D) (x y:V) (u v:Value),pl n d=true→pl n e=true→Rep α H d x→Rep α H e y→RelV x u→RelV y v→A.units+n<cLine→
 RcAt A s u v (cV d e)∧EqAt A s u v (cV d e):=by
 intro n
 induction n with
 |zero=>
  intro A d e x y u v hd he rd re rx ry hu
  refine y9 ?_ ?_ rd re rx ry
  · cases d<;>first|rfl|(cases hd)
  · cases e<;>first|rfl|(cases he)
 |succ n ih=>
  intro A d e x y u v hd he rd re rx ry hu
  have hu0:A.units<cLine:=by omega
  have hin:A.in1.units+n<cLine:=by rw[Around.in1_units];omega
  cases d<;>try(cases hd;done)
  case lst xs=>
   cases e<;>try(cases he;done)
   case lst ys=>
    have rd0:=rd
    have re0:=re
    have rx0:=rx
    have ry0:=ry
    obtain⟨a,vs,its,rfl,r1,v1,l1⟩:=lst_is I rd rx
    obtain⟨b,ws,jts,rfl,r2,v2,l2⟩:=lst_is I re ry
    have e1:=r1.length
    have e2:=v1.length
    have e3:=r2.length
    have e4:=v2.length
    refine y_ hd he rd0 re0 rx0 ry0 ?_
    unfold cV
    by_cases hlen:xs.length=ys.length
    · rw[nL hlen]
      have hsz:its.toArray.size=jts.toArray.size:=by simp only[List.size_toArray];omega
      have hx:xs.length=its.toArray.size:=by simp only[List.size_toArray];omega
      rw[hx]
      refine RcAt.lists l1 l2 hsz hu0 fun j h1 h2=>?_
      have h1':j<its.length:=by simpa using h1
      have h2':j<jts.length:=by simpa using h2
      obtain⟨p,_,q1,q2⟩:=j_ r1 v1 j h1'
      obtain⟨p',_,q1',q2'⟩:=j_ r2 v2 j h2'
      exact(ih A.in1 _ _ p p' _ _ (jo (by unfold pl at hd;exact hd) j) (jo (by unfold pl at he;exact he) j) q1 q1' (by simpa using q2) (by simpa using q2') hin).2
    · rw[nA hlen]
      exact RcAt.lists_lengths l1 l2 (by simp only[List.size_toArray,bne_iff_ne,ne_eq];omega) hu0
   case tup ys=>
    obtain⟨a,vs,its,rfl,r1,v1,l1⟩:=lst_is I rd rx
    obtain⟨b,ws,jts,rfl,r2,v2,l2⟩:=tup_is I re ry
    unfold cV
    exact⟨RcAt.list_tuple l1 l2 hu0,EqAt.list_tuple l1 l2 hu0⟩
   all_goals exact(ve I rfl rd re rx ry hu0).1
  case tup xs=>
   cases e<;>try(cases he;done)
   case tup ys=>
    have rd0:=rd
    have re0:=re
    have rx0:=rx
    have ry0:=ry
    obtain⟨a,vs,its,rfl,r1,v1,l1⟩:=tup_is I rd rx
    obtain⟨b,ws,jts,rfl,r2,v2,l2⟩:=tup_is I re ry
    have e1:=r1.length
    have e2:=v1.length
    have e3:=r2.length
    have e4:=v2.length
    refine y_ hd he rd0 re0 rx0 ry0 ?_
    unfold cV
    have key:=RcAt.tuples (e:=fun j=>cV (xs.getD j .aH) (ys.getD j .aH)) l1 l2 hu0 fun j h1 h2=>by
     have h1':j<its.length:=by simpa using h1
     have h2':j<jts.length:=by simpa using h2
     obtain⟨p,_,q1,q2⟩:=j_ r1 v1 j h1'
     obtain⟨p',_,q1',q2'⟩:=j_ r2 v2 j h2'
     exact(ih A.in1 _ _ p p' _ _ (jo (by unfold pl at hd;exact hd) j) (jo (by unfold pl at he;exact he) j) q1 q1' (by simpa using q2) (by simpa using q2') hin).2
    by_cases hlen:xs.length=ys.length
    · rw[nL hlen]
      have hsz:its.toArray.size=jts.toArray.size:=by simp only[List.size_toArray];omega
      have hx:xs.length=its.toArray.size:=by simp only[List.size_toArray];omega
      rw[hsz,Nat.min_self,beq_self_eq_true,Bool.and_true,←hsz,←hx]at key
      exact key
    · rw[nA hlen]
      have hne:(its.toArray.size==jts.toArray.size)=false:=by simp only[List.size_toArray,beq_eq_false_iff_ne,ne_eq];omega
      rw[hne,Bool.and_false]at key
      exact key
   case lst ys=>
    obtain⟨a,vs,its,rfl,r1,v1,l1⟩:=tup_is I rd rx
    obtain⟨b,ws,jts,rfl,r2,v2,l2⟩:=lst_is I re ry
    unfold cV
    exact⟨RcAt.tuple_list l1 l2 hu0,EqAt.tuple_list l1 l2 hu0⟩
   all_goals exact(vk I rfl rd re rx ry hu0).1
  all_goals
   cases e<;>try(cases he;done)
   case lst ys=>exact(ve I rfl re rd ry rx hu0).2
   case tup ys=>exact(vk I rfl re rd ry rx hu0).2
   all_goals exact y9 rfl rfl rd re rx ry
noncomputable def IL:dJ:=fun x y st K=>pl 40 x=true∧pl 40 y=true∧K (.bl (cV x y)) st
theorem MV{k:Nat}(hr:dg k X.A):cx X (compareOp .Eq) (LR IL):=fun pins s σ H x y v u Q I rx ry ⟨α,d,e,st,K,G,F',P,r1,r2,S,q,k⟩=>by
 have hu:=hr.units
 exact(z_ I 40 X.A d e x y v u q.1 q.2.1 (r1.mono P.same) (r2.mono P.same) rx ry (by omega)).1 _ _ _ _ ⟨.bl (cV d e),H,I,rfl,k.here P q.2.2 S (by unfold Rep;rfl)⟩
noncomputable def Kk:dJ:=fun x y st K=>match x,y with
 | .int i,.int j=>K (.bl (!decide (i=j))) st
 | .bl i,.bl j=>K (.bl (!decide (i=j))) st
 | .str i,.str j=>K (.bl (!decide (i=j))) st
 |_,_=>False
theorem Nj:cx X (compareOp .NotEq) (LR Kk):=cx.imp Ms fun x y H Q ⟨α,d,e,st,K,G,F',P,r1,r2,S,q,k⟩=>by
 cases d<;>cases e<;>try exact q.elim
 all_goals(unfold Rep at r1 r2;subst r1 r2)
 · exact⟨rfl,k.here P q S (by unfold Rep;congr 2;exact decide_eq_decide.mpr ⟨fun h=>by cases h;rfl,fun h=>by rw[h]⟩)⟩
 · exact⟨rfl,k.here P q S (by unfold Rep;congr 2;exact decide_eq_decide.mpr ⟨fun h=>by cases h;rfl,fun h=>by rw[h]⟩)⟩
 · exact⟨rfl,k.here P q S (by unfold Rep;congr 2;exact decide_eq_decide.mpr ⟨fun h=>by cases h;rfl,fun h=>by rw[h]⟩)⟩
end
end L3
namespace L3
open PySem PySem.Spec L2
open PyProof.Rows hiding St
noncomputable def LC(α:List (Option Addr))(G F:Hp)(K:bN→ai→Prop)(Q:L2.St→Hp→Prop):Prop:=∀σd' st',K σd' st'→∀α' G' H' σ',Step α G α' G'→cq G' F H'→eE α' G' σd' σ'→aX α' st' G'→Q σ' H'
structure wa(α:List (Option Addr))(G F:Hp)(DD:kv)(D:Ends):Prop where
 nx:LC α G F DD.nx D.nx
 rt:LK α G F DD.rt D.rt
 bk:LC α G F DD.bk D.bk
 ct:LC α G F DD.ct D.ct
inductive MA(t:DS)(D:Ends)(σ:L2.St)(H:Hp):Prop
 |mk (α:List (Option Addr)) (σd:bN) (st:ai) (DD:kv) (G F:Hp) (P:cq G F H) (R:eE α G σd σ) (S:aX α st G) (h:t DD σd st) (k:wa α G F DD D):MA t D σ H
noncomputable def LS(t:DS):TS:=MA t
theorem LC.at{α α1:List (Option Addr)}{G F G1:Hp}{K:bN→ai→Prop}{Q:L2.St→Hp→Prop}(h:LC α G F K Q)(s:Step α G α1 G1):LC α1 G1 F K Q:=fun d st' k α' G' H' v s' P R S=>h d st' k α' G' H' v (s.trans s') P R S
theorem LC.here{α:List (Option Addr)}{G F H:Hp}{K:bN→ai→Prop}{Q:L2.St→Hp→Prop}(h:LC α G F K Q)(P:cq G F H){σd:bN}{st:ai}{σ:L2.St}(k:K σd st)(R:eE α G σd σ)(S:aX α st G):Q σ H:=h σd st k α G H σ Step.refl P R S
theorem wa.at{α α1:List (Option Addr)}{G F G1:Hp}{DD:kv}{D:Ends}(h:wa α G F DD D)(s:Step α G α1 G1):wa α1 G1 F DD D:=⟨h.nx.at s,h.rt.at s,h.bk.at s,h.ct.at s⟩
section
variable {X:Cx}{a b c e o i:Expr}{es:List Expr}{ta tb tc te:DE}{pos:Pos}{st:Stmt}{sts:List Stmt}{t u:DS}
theorem PS.imp{t t':TS}(h:PS X st t)(f:∀D σ H,t' D σ H→t D σ H):PS X st t':=fun pins s σ H D I q=>h pins s σ H D I (f D σ H q)
theorem iA.imp{t t':TS}(h:iA X sts t)(f:∀D σ H,t' D σ H→t D σ H):iA X sts t':=fun pins s σ H D I q=>h pins s σ H D I (f D σ H q)
noncomputable def e7:DS:=fun D σ st=>D.nx σ st
noncomputable def aK(t u:DS):DS:=fun D σ st=>t {D with nx:=u D} σ st
theorem HL:iA X [] (LS e7):=iA.imp HH fun D σ H ⟨α,σd,st,DD,G,F,P,R,S,t,k⟩=>k.nx.here P t R S
theorem GH(h:PS X st (LS t)):iA X [st] (LS t):=GA h
theorem El(h:PS X st (LS t))(h2:iA X sts (LS u)):iA X (st::sts) (LS (aK t u)):=iA.imp (Ee h h2) fun D σ H ⟨α,σd,st,DD,G,F,P,R,S,t,k⟩=>
 ⟨α,σd,st,_,G,F,P,R,S,t,fun σd' st' q α' G' H' σ' s' P' R' S'=>⟨α',σd',st',DD,G',F,P',R',S',q,k.at s'⟩,k.rt,k.bk,k.ct⟩
noncomputable def bT(te:DE):DS:=fun D σ st=>te σ st D.rt
theorem JU(h:PE X e (LE te)):PS X (.Return (some e) pos) (LS (bT te)):=PS.imp (Js h) fun D σ H ⟨α,σd,st,DD,G,F,P,R,S,t,k⟩=>⟨α,σd,st,_,G,F,P,R,S,t,k.rt⟩
noncomputable def jX(te:DE):DS:=fun D σ st=>te σ st fun _ st1=>D.nx σ st1
theorem GG(h:PE X e (LE te))(hs:swapsWith e none pos.line X.env=pure false:=by rfl):PS X (.Expr e pos) (LS (jX te)):=PS.imp (FX h hs) fun D σ H ⟨α,σd,st,DD,G,F,P,R,S,t,k⟩=>
 ⟨α,σd,st,_,G,F,P,R,S,t,fun d st1 q α1 G1 H1 v s1 P1 S1 r1=>(k.nx.at s1).here P1 q (R.step s1) S1⟩
noncomputable def gc(c:DT)(t u:DS):DS:=fun D σ st=>c σ st fun b st1=>if b=true then t D σ st1 else u D σ st1
theorem K0{x y:List Stmt}{tc:DT}(hc:PT X c (LT tc))(ha:iA X x (LS t))(hb:iA X y (LS u)):PS X (.If c x y pos) (LS (gc tc t u)):=PS.imp (Ld hc ha hb) fun D σ H ⟨α,σd,st,DD,G,F,P,R,S,t,k⟩=>by
 refine⟨α,σd,st,_,G,F,P,R,S,t,fun b st1 q α1 G1 H1 s1 P1 S1=>?_⟩
 cases b with
 |true=>exact⟨α1,σd,st1,DD,G1,F,P1,R.step s1,S1,q,k.at s1⟩
 |false=>exact⟨α1,σd,st1,DD,G1,F,P1,R.step s1,S1,q,k.at s1⟩
noncomputable abbrev fz:=D→bN→Option bN
noncomputable def bW(i:Nat):fz:=fun d σ=>some (σ.set i (some d))
noncomputable def iM(i j:Nat):fz:=fun d σ=>match d with| .tup [x,y]=>some ((σ.set i (some x)).set j (some y))|_=>none
inductive MI(t:fz)(v:V)(σ:L2.St)(H:Hp)(Q:L2.St→Hp→Prop):Prop
 |mk (α:List (Option Addr)) (σd:bN) (st:ai) (d:D) (K:bN→ai→Prop) (G F:Hp) (P:cq G F H) (R:eE α G σd σ) (S:aX α st G) (r:Rep α G d v) (h:∃σ',t d σd=some σ'∧K σ' st) (k:LC α G F K Q):MI t v σ H Q
noncomputable def LG(t:fz):TG:=MI t
theorem PG.imp{tg:Expr}{t t':TG}(h:PG X tg t)(f:∀v σ H Q,t' v σ H Q→t v σ H Q):PG X tg t':=fun pins s σ H v u Q I r q=>h pins s σ H v u Q I r (f v σ H Q q)
theorem Hn{tg:Expr}{i:Nat}(h:PG X tg (jy i)):PG X tg (LG (bW i)):=PG.imp h fun v σ H Q ⟨α,σd,st,d,K,G,F,P,R,S,r,⟨σ',e,q⟩,k⟩=>by
 cases e
 exact k.here P q (R.set i r) S
theorem Jd{tg:Expr}{i j:Nat}(h:PG X tg (Kb X.K 2 (nP (jy i) (nP (jy j) AD)))):PG X tg (LG (iM i j)):=PG.imp h fun v σ H Q ⟨α,σd,st,d,K,G,F,P,R,S,r,⟨σ',e,q⟩,k⟩=>by
 unfold iM at e
 split at e
 · rename_i x y
   cases e
   unfold Rep at r
   obtain⟨a,vs,rfl,na,h1,h2⟩:=r
   obtain⟨v1,v2,rfl,r1,r2⟩:=mR h2 rfl
   exact⟨a,_,rfl,.of (P.get h1),rfl,v1,_,rfl,v2,_,rfl,rfl,k.here P q ((R.set i r1).set j r2) S⟩
 · cases e
noncomputable def bp(i:Nat)(te:DE):DS:=fun D σ st=>te σ st fun d st1=>D.nx (σ.set i (some d)) st1
theorem Kw{i:Nat}(h:PS X st (kR (LE te) (jy i))):PS X st (LS (bp i te)):=PS.imp h fun D σ H ⟨α,σd,st,DD,G,F,P,R,S,t,k⟩=>
 ⟨α,σd,st,_,G,F,P,R,S,t,fun d st1 q α1 G1 H1 v s1 P1 S1 r1=>(k.nx.at s1).here P1 q ((R.step s1).set i r1) S1⟩
noncomputable def An(tg:fz)(te:DE):DS:=fun D σ st=>te σ st fun d st1=>∃σ',tg d σ=some σ'∧D.nx σ' st1
theorem IU{tg:fz}(h:PS X st (kR (LE te) (LG tg))):PS X st (LS (An tg te)):=PS.imp h fun D σ H ⟨α,σd,st,DD,G,F,P,R,S,t,k⟩=>
 ⟨α,σd,st,_,G,F,P,R,S,t,fun d st1 q α1 G1 H1 v s1 P1 S1 r1=>⟨α1,σd,st1,d,DD.nx,G1,F,P1,R.step s1,S1,r1,q,k.nx.at s1⟩⟩
noncomputable def AZ(i:Nat)(r:dJ)(te:DE):DS:=fun D σ st=>match σ[i]? with|some (some x)=>te σ st fun y st1=>r x y st1 fun z st2=>D.nx (σ.set i (some z)) st2|_=>False
noncomputable def xC(f:Int→Int→Int):dJ:=fun x y st K=>match x,y with| .int i,.int j=>K (.int (f i j)) st|_,_=>False
theorem Kz{i:Nat}{f:Int→Int→Int}(h:PS X st (Ka i (LE te) (Jy f))):PS X st (LS (AZ i (xC f) te)):=PS.imp h fun D σ H ⟨α,σd,st,DD,G,F,P,R,S,t,k⟩=>by
 unfold AZ at t
 split at t
 · rename_i x e
   obtain⟨v,ev,rv⟩:=R.at' i x e
   refine⟨v,ev,α,σd,st,_,G,F,P,R,S,t,fun y st1 q α1 G1 H1 w s1 P1 S1 r1=>?_⟩
   cases x<;>cases y<;>try exact q.elim
   have rv':=rv
   unfold Rep at rv r1
   exact⟨_,_,rv,r1,(k.nx.at s1).here P1 q ((R.step s1).set i (by unfold Rep;rfl)) S1⟩
 · exact t.elim
noncomputable def xB(x y d:D)(st:ai)(K:ai→Prop):Prop:=match x,y with
 | .ref n,.int k=>(match st[n]? with
   |some (.lst xs)=>(match kM xs.length k with|some j=>K (st.set n (.lst (xs.set j d)))|none=>False)
   |_=>False)
 |_,_=>False
noncomputable def IF(to ti te:DE):DS:=fun D σ st=>te σ st fun d st1=>to σ st1 fun x st2=>ti σ st2 fun y st3=>xB x y d st3 fun st4=>D.nx σ st4
theorem DZ{to ti:DE}(h:PS X st (kR (LE te) (uJ (LE to) (LE ti) rh))):PS X st (LS (IF to ti te)):=PS.imp h fun D σ H ⟨α,σd,st,DD,G,F,P,R,S,t,k⟩=>by
 refine⟨α,σd,st,_,G,F,P,R,S,t,fun d st1 q α1 G1 H1 v s1 P1 S1 r1=>?_⟩
 refine⟨α1,σd,st1,_,G1,F,P1,R.step s1,S1,q,fun x st2 q2 α2 G2 H2 v2 s2 P2 S2 r2=>?_⟩
 refine⟨α2,σd,st2,_,G2,F,P2,(R.step s1).step s2,S2,q2,fun y st3 q3 α3 G3 H3 v3 s3 P3 S3 r3=>?_⟩
 cases x<;>cases y<;>try exact q3.elim
 rename_i n kk
 unfold xB at q3
 simp only at q3
 split at q3
 · rename_i xs e
   split at q3
   · rename_i j ej
     obtain⟨p,ep,vs,hv,rv⟩:=S3.hO e
     have r2':=dw ep (r2.step s3)
     subst r2'
     unfold Rep at r3
     have hm:some p∈α3:=List.mem_of_getElem? ep
     have rd:=(r1.step s2).step s3
     refine⟨p,vs,kk,j,rfl,r3,P3.get hv,by rw[←rv.length];exact ej,?_⟩
     refine(((k.nx.at s1).at s2).at s3) σd _ q3 α3 (upd G3 p (.lst (vs.set j v))) _ σ (Step.write hm) (P3.write hv) ((((R.step s1).step s2).step s3).step (Step.write hm)) ?_
     exact S3.write ep ⟨vs.set j v,aY,(aZ.mpr (o7 rd j (aZ.mp rv))).step (Step.write hm)⟩
   · exact q3.elim
 · exact q3.elim
noncomputable def uc(c:DT)(tb:DS):DS:=fun D σ st=>∃W:Nat→bN→ai→Prop,(∃m,W m σ st)∧∀m σ st,W m σ st→
 c σ st fun b st1=>if b=true then tb {D with nx:=fun σ' st'=>∃m',m'<m∧W m' σ' st',ct:=fun σ' st'=>∃m',m'<m∧W m' σ' st',bk:=D.nx} σ st1 else D.nx σ st1
theorem EO{tc:DT}(h:PS X st (CG (LT tc) (LS t))):PS X st (LS (uc tc t)):=PS.imp h fun D σ H ⟨α,σd,st,DD,G,F,P,R,S,⟨W,⟨m0,w0⟩,turn⟩,k⟩=>by
 refine⟨fun m σ' H'=>∃α' σd' st' G',Step α G α' G'∧cq G' F H'∧eE α' G' σd' σ'∧aX α' st' G'∧W m σd' st',⟨m0,α,σd,st,G,Step.refl,P,R,S,w0⟩,?_⟩
 rintro m σ1 H1 ⟨α1,σd1,st1,G1,s1,P1,R1,S1,w1⟩
 refine⟨α1,σd1,st1,_,G1,F,P1,R1,S1,turn m σd1 st1 w1,fun b st2 q α2 G2 H2 s2 P2 S2=>?_⟩
 cases b with
 |false=>exact((k.nx.at s1).at s2).here P2 q (R1.step s2) S2
 |true=>
  refine⟨fun σ' H'=>∃m',m'<m∧∃α' σd' st' G',Step α G α' G'∧cq G' F H'∧eE α' G' σd' σ'∧aX α' st' G'∧W m' σd' st',fun σ' H' z=>z,?_⟩
  refine⟨α2,σd1,st2,_,G2,F,P2,R1.step s2,S2,q,?_⟩
  refine⟨?_,(k.rt.at s1).at s2,(k.nx.at s1).at s2,?_⟩
  · rintro σd3 st3 ⟨m',hm,w3⟩ α3 G3 H3 σ3 s3 P3 R3 S3
    exact⟨m',hm,α3,σd3,st3,G3,(s1.trans s2).trans s3,P3,R3,S3,w3⟩
  · rintro σd3 st3 ⟨m',hm,w3⟩ α3 G3 H3 σ3 s3 P3 R3 S3
    exact⟨m',hm,α3,σd3,st3,G3,(s1.trans s2).trans s3,P3,R3,S3,w3⟩
noncomputable abbrev DI:=bN→ai→(List D→(ai→Prop)→ai→Prop)→Prop
structure sZ(J:It)(α:List (Option Addr))(G:Hp)(ok:ai→Prop)(xs:List D):Prop where
 stop:∀(n:Nat) α' G' F' H' st',Step α G α' G'→cq G' F' H'→aX α' st' G'→ok st'→xs.length≤n→J.stop n H'
 go:∀(n:Nat) d α' G' F' H' st',Step α G α' G'→cq G' F' H'→aX α' st' G'→ok st'→xs[n]?=some d→J.go n H'
 oo:∀(n:Nat) d α' G' F' H' st' x H'',Step α G α' G'→cq G' F' H'→aX α' st' G'→ok st'→xs[n]?=some d→J.oo n H' x H''→∃G'',Step α' G' α' G''∧cq G'' F' H''∧aX α' st' G''∧Rep α' G'' d x
noncomputable def LI(t:DI):TI:=fun σ H R=>∃α σd st K G F,cq G F H∧eE α G σd σ∧aX α st G∧t σd st K∧∀xs ok st1,K xs ok st1→∀J α1 G1 H1,Step α G α1 G1→cq G1 F H1→aX α1 st1 G1→sZ J α1 G1 ok xs→R J H1
noncomputable def uB(d:D)(st1:ai)(K:List D→(ai→Prop)→ai→Prop):Prop:=match d with
 | .lst xs=>K xs (fun _=>True) st1
 | .tup xs=>K xs (fun _=>True) st1
 | .ref n=>(match st1[n]? with|some (.lst xs)=>K xs (fun st'=>st'[n]?=some (.lst xs)) st1|_=>False)
 |_=>False
noncomputable def L7(t:DE):DI:=fun σ st K=>t σ st fun d st1=>uB d st1 K
theorem zm{K:PySem.W.Frag}{a:Addr}{α:List (Option Addr)}{G:Hp}{ok:ai→Prop}{xs:List D}
 (h:∀α' G' st',Step α G α' G'→aX α' st' G'→ok st'→∃vs,Rd G' a (.lst vs)∧aO α' G' xs vs):sZ (Jf K a) α G ok xs where
 stop:=fun n α' G' F' H' st' s P S o hn=>by
  obtain⟨vs,h1,h2⟩:=h α' G' st' s S o
  exact⟨vs,.inl (gL P h1),by rw[←h2.length];exact hn⟩
 go:=fun n d α' G' F' H' st' s P S o hn=>by
  obtain⟨vs,h1,h2⟩:=h α' G' st' s S o
  obtain⟨v,e,_⟩:=h2.get hn
  exact⟨vs,v,.inl (gL P h1),e⟩
 oo:=fun n d α' G' F' H' st' x H'' s P S o hn y=>by
  obtain⟨vs,h1,h2⟩:=h α' G' st' s S o
  obtain⟨v,e,r⟩:=h2.get hn
  obtain⟨rfl,y⟩:=y
  have:=y vs (.inl (gL P h1))
  rw[e]at this
  cases this
  exact⟨G',Step.refl,P,S,r⟩
theorem JH{K:PySem.W.Frag}{a:Addr}{α:List (Option Addr)}{G:Hp}{ok:ai→Prop}{xs:List D}
 (h:∀α' G' st',Step α G α' G'→aX α' st' G'→ok st'→∃vs,G' a=some (.tup vs)∧aO α' G' xs vs):sZ (KR K a) α G ok xs where
 stop:=fun n α' G' F' H' st' s P S o hn=>by
  obtain⟨vs,h1,h2⟩:=h α' G' st' s S o
  exact⟨vs,.of (P.get h1),by rw[←h2.length];exact hn⟩
 go:=fun n d α' G' F' H' st' s P S o hn=>by
  obtain⟨vs,h1,h2⟩:=h α' G' st' s S o
  obtain⟨v,e,_⟩:=h2.get hn
  exact⟨vs,v,.of (P.get h1),e⟩
 oo:=fun n d α' G' F' H' st' x H'' s P S o hn y=>by
  obtain⟨vs,h1,h2⟩:=h α' G' st' s S o
  obtain⟨v,e,r⟩:=h2.get hn
  obtain⟨rfl,y⟩:=y
  have:=y vs (.of (P.get h1))
  rw[e]at this
  cases this
  exact⟨G',Step.refl,P,S,r⟩
theorem DH{α α':List (Option Addr)}{G G':Hp}{a:Addr}{vs:List V}{xs:List D}(s:Step α G α' G')(na:some a∉α)(h1:Rd G a (.lst vs))(h2:aO α G xs vs):Rd G' a (.lst vs)∧aO α' G' xs vs:=by
 refine⟨?_,h2.step s⟩
 rcases h1 with h|⟨o,h⟩
 · exact .inl (s.ext _ _ na h)
 · exact .inr ⟨o,s.ext _ _ na h⟩
theorem JM{l tg:Expr}{tl:DE}(hl:PE X l (LE tl)):PI X tg l (LI (L7 tl)):=by
 intro pins s σ H R I h
 obtain⟨α,σd,st,K,G,F,P,RS,S,t,k⟩:=h
 refine cv (hl pins s σ H (fun x H1=>∃d α1 G1 st1,Step α G α1 G1∧cq G1 F H1∧aX α1 st1 G1∧Rep α1 G1 d x∧uB d st1 K) I ⟨α,σd,st,_,G,F,P,RS,S,t,fun d st1 q α1 G1 H1 v s1 P1 S1 r1=>⟨d,α1,G1,st1,s1,P1,S1,r1,q⟩⟩) fun v s1 ⟨x,H1,I1,rx,d,α1,G1,st1,s1',P1,S1,r1,q⟩=>?_
 unfold uB at q
 have viaL:∀ {a:Addr} {vs:List V},x= .ref a→Rd H1 a (.lst vs)→R (Jf X.K a) H1→wpAny (model X.prog X.w) X.A (pyIter v) (Fq X pins σ tg R) X.xe s1:=by
  intro a vs ex hr hR
  subst ex
  cases rx
  obtain⟨its,rv,p,hz⟩:=I1.list (.inl hr)
  refine wpAny_pyIter_list p.isList ?_
  refine⟨s1.heap.objs.size,[s1.heap.objs.size],_,_,H1,rfl,I1.kept (t':=s1.toks) fun b o e=>Heap.get?_push_of_some _ e,BX a _,⟨_,Heap.get?_push_size _ rfl,rfl,rfl⟩,fun b hb=>?_,hR⟩
  have e:b=s1.heap.objs.size:=by simpa using hb
  subst e
  exact I1.sQ (Nat.le_refl _) (I1.aM.fresh (Nat.le_refl _))
 have viaT:∀ {a:Addr} {vs:List V},x= .ref a→H1 a=some (.tup vs)→R (KR X.K a) H1→wpAny (model X.prog X.w) X.A (pyIter v) (Fq X pins σ tg R) X.xe s1:=by
  intro a vs ex hr hR
  subst ex
  cases rx
  obtain⟨its,rv,p,hz⟩:=I1.tuple (jj.of hr)
  refine wpAny_pyIter_tuple (show s1.heap.IsTuple a its.toArray from p) ?_
  refine⟨s1.heap.objs.size,[s1.heap.objs.size],_,_,H1,rfl,I1.kept (t':=s1.toks) fun b o e=>Heap.get?_push_of_some _ e,Ay a _,⟨_,Heap.get?_push_size _ rfl,rfl,rfl⟩,fun b hb=>?_,hR⟩
  have e:b=s1.heap.objs.size:=by simpa using hb
  subst e
  exact I1.sQ (Nat.le_refl _) (I1.aM.fresh (Nat.le_refl _))
 cases d<;>try exact q.elim
 · rename_i n
   simp only at q
   split at q
   · rename_i xs e
     obtain⟨a,ea,vs,h1,h2⟩:=S1.hO e
     have r1':=dw ea r1
     subst r1'
     refine viaL rfl (gL P1 (.of h1)) (k _ _ st1 q _ α1 G1 H1 s1' P1 S1 (zm fun α' G' st' s S o=>?_))
     obtain⟨b,eb,ws,g1,g2⟩:=S.hO o
     have hb:b=a:=by
      rcases s.pre _ _ ea with z|z<;>(rw[z]at eb;cases eb)
      rfl
     subst hb
     exact⟨ws,.of g1,g2⟩
   · exact q.elim
 · unfold Rep at r1
   obtain⟨a,vs,rfl,na,ha,ra⟩:=r1
   exact viaL rfl (gL P1 ha) (k _ _ st1 q _ α1 G1 H1 s1' P1 S1 (zm fun α' G' st' s S o=>⟨vs,DH s na ha ra⟩))
 · unfold Rep at r1
   obtain⟨a,vs,rfl,na,ha,ra⟩:=r1
   exact viaT rfl (P1.get ha) (k _ _ st1 q _ α1 G1 H1 s1' P1 S1 (JH fun α' G' st' s S o=>⟨vs,s.ext _ _ na ha,ra.step s⟩))
noncomputable def dS(lo:Int)(n:Nat):List D:=(List.range n).map fun(k:Nat)=>D.int (lo+(k:Int))
theorem uk{lo:Int}{n k:Nat}:(dS lo n)[k]?=if k<n then some (.int (lo+(k:Int)))else none:=by
 unfold dS
 rw[List.getElem?_map]
 by_cases h:k<n
 · rw[List.getElem?_range h,if_pos h];rfl
 · rw[List.getElem?_eq_none (by simpa using h),if_neg h];rfl
theorem fj{lo:Int}{n:Nat}:(dS lo n).length=n:=by unfold dS;simp
theorem wB{α:List (Option Addr)}{G:Hp}{lo:Int}{n:Nat}:sZ (vw lo n) α G (fun _=>True) (dS lo n) where
 stop:=fun m α' G' F' H' st' s P S o hn=>by rw[fj]at hn;exact hn
 go:=fun m d α' G' F' H' st' s P S o hn=>by
  rw[uk]at hn
  split at hn
  · assumption
  · cases hn
 oo:=fun m d α' G' F' H' st' x H'' s P S o hn y=>by
  obtain⟨rfl,rfl⟩:=y
  rw[uk]at hn
  split at hn
  · cases hn
    exact⟨G',Step.refl,P,S,by unfold Rep;rfl⟩
  · cases hn
theorem PI.imp{tg iter:Expr}{t t':TI}(h:PI X tg iter t)(f:∀σ H R,t' σ H R→t σ H R):PI X tg iter t':=fun pins s σ H R I q=>h pins s σ H R I (f σ H R q)
noncomputable def EY(ds:List D)(st1:ai)(K:List D→(ai→Prop)→ai→Prop):Prop:=match ds with
 | [.int j]=>(-(2^62)≤j∧j<2^62)∧K (dS 0 j.toNat) (fun _=>True) st1
 |_=>False
noncomputable def E7(ds:List D)(st1:ai)(K:List D→(ai→Prop)→ai→Prop):Prop:=match ds with
 | [.int i,.int j]=>(-(2^62)≤i∧i<2^62∧ -(2^62)≤j∧j<2^62)∧K (dS i (j-i).toNat) (fun _=>True) st1
 |_=>False
noncomputable def GW(t:DA):DI:=fun σ st K=>t σ st fun ds st1=>EY ds st1 K
noncomputable def Gq(t:DA):DI:=fun σ st K=>t σ st fun ds st1=>E7 ds st1 K
theorem CK{tg iter:Expr}{t:DA}(h:PI X tg iter (zU (LA t))):PI X tg iter (LI (GW t)):=PI.imp h fun σ H R ⟨α,σd,st,K,G,F,P,RS,S,t,k⟩=>by
 refine⟨α,σd,st,_,G,F,P,RS,S,t,fun ds st1 q α1 G1 H1 vs s1 P1 S1 r1=>?_⟩
 match ds,q,r1 with
 | [.int j],q,r1=>
   obtain⟨v,rfl,r2⟩:=i7 r1 rfl
   unfold Rep at r2
   subst r2
   exact⟨j,rfl,q.1.1,q.1.2,k _ _ st1 q.2 _ α1 G1 H1 s1 P1 S1 wB⟩
theorem CO{tg iter:Expr}{t:DA}(h:PI X tg iter (AL (LA t))):PI X tg iter (LI (Gq t)):=PI.imp h fun σ H R ⟨α,σd,st,K,G,F,P,RS,S,t,k⟩=>by
 refine⟨α,σd,st,_,G,F,P,RS,S,t,fun ds st1 q α1 G1 H1 vs s1 P1 S1 r1=>?_⟩
 match ds,q,r1 with
 | [.int i,.int j],q,r1=>
   obtain⟨v,u,rfl,r2,r3⟩:=mR r1 rfl
   unfold Rep at r2 r3
   subst r2 r3
   exact⟨i,j,rfl,q.1,k _ _ st1 q.2 _ α1 G1 H1 s1 P1 S1 wB⟩
noncomputable def fD(tg:fz)(body:DS)(ok:ai→Prop)(E:kv):List D→bN→ai→Prop
 | [],σ,st=>ok st∧E.nx σ st
 |x::xs,σ,st=>ok st∧∃σ1,tg x σ=some σ1∧body {E with nx:=fD tg body ok E xs,ct:=fD tg body ok E xs,bk:=E.nx} σ1 st
noncomputable def iG(src:DI)(tg:fz)(body:DS):DS:=fun D σ st=>src σ st fun xs ok st1=>fD tg body ok D xs σ st1
theorem Iz{src:DI}{tg:fz}(h:PS X st (Ih (LI src) (LG tg) (LS t))):PS X st (LS (iG src tg t)):=PS.imp h fun D σ H ⟨α,σd,st,DD,G,F,P,R,S,tt,k⟩=>by
 refine⟨α,σd,st,_,G,F,P,R,S,tt,fun xs ok st1 q J α1 G1 H1 s1 P1 S1 it=>?_⟩
 refine⟨fun i m σ' H'=>∃α' σd' st' G',Step α1 G1 α' G'∧cq G' F H'∧eE α' G' σd' σ'∧aX α' st' G'∧fD tg t ok DD (xs.drop i) σd' st'∧m=xs.length-i,⟨xs.length,α1,σd,st1,G1,Step.refl,P1,R.step s1,S1,q,rfl⟩,?_⟩
 rintro i m σ2 H2 ⟨α2,σd2,st2,G2,s2,P2,R2,S2,q2,rfl⟩
 cases e:xs[i]? with
 |none=>
  have hl:xs.length≤i:=List.getElem?_eq_none_iff.mp e
  rw[List.drop_eq_nil_of_le hl]at q2
  unfold fD at q2
  exact .inl ⟨it.stop i α2 G2 F H2 st2 s2 P2 S2 q2.1 hl,((k.nx.at s1).at s2).here P2 q2.2 R2 S2⟩
 |some d=>
  have hl:i<xs.length:=(List.getElem?_eq_some_iff.mp e).1
  have ed:xs.drop i=d::xs.drop (i+1):=by
   rw[List.drop_eq_getElem_cons hl]
   congr 1
   rw[List.getElem?_eq_getElem hl]at e
   exact Option.some.inj e
  rw[ed]at q2
  unfold fD at q2
  obtain⟨aM,σ3,e3,q3⟩:=q2
  refine .inr ⟨it.go i d α2 G2 F H2 st2 s2 P2 S2 aM e,fun σ' H'=>∃α' σd' st' G',Step α1 G1 α' G'∧cq G' F H'∧eE α' G' σd' σ'∧aX α' st' G'∧fD tg t ok DD (xs.drop (i+1)) σd' st',?_,?_⟩
  · rintro σ' H' ⟨α',σd',st',G',z1,z2,z3,z4,z5⟩
    exact⟨xs.length-(i+1),by omega,α',σd',st',G',z1,z2,z3,z4,z5,rfl⟩
  · intro x H' y
    obtain⟨G3,s3,P3,S3,r3⟩:=it.oo i d α2 G2 F H2 st2 x H' s2 P2 S2 aM e y
    refine⟨α2,σd2,st2,d,fun σ' st'=>σ'=σ3∧st'=st2,G3,F,P3,R2.step s3,S3,r3,⟨σ3,e3,rfl,rfl⟩,?_⟩
    rintro σ' st' ⟨rfl,rfl⟩ α4 G4 H4 σ4 s4 P4 R4 S4
    have s24:=(s2.trans s3).trans s4
    refine⟨α4,σ',st',_,G4,F,P4,R4,S4,q3,?_,((k.rt.at s1).at s24),(k.nx.at s1).at s24,?_⟩
    · intro σd5 st5 q5 α5 G5 H5 σ5 s5 P5 R5 S5
      exact⟨α5,σd5,st5,G5,s24.trans s5,P5,R5,S5,q5⟩
    · intro σd5 st5 q5 α5 G5 H5 σ5 s5 P5 R5 S5
      exact⟨α5,σd5,st5,G5,s24.trans s5,P5,R5,S5,q5⟩
end
end L3
namespace L3
open PySem PySem.Spec L2
open PyProof.Rows hiding St
noncomputable def h_(fr:List (Option Nat))(σ:bN):bN:=fr.map fun o=>o.bind fun j=>(σ[j]?).join
theorem eE.comp{α:List (Option Addr)}{G:Hp}{σd:bN}{σ:L2.St}{fr:List (Option Nat)}(h:eE α G σd σ):eE α G (h_ fr σd) (σC fr σ):=by
 refine⟨by unfold h_ σC;simp,fun i d e=>?_⟩
 unfold h_ at e
 rw[List.getElem?_map]at e
 cases q:fr[i]? with
 |none=>rw[q]at e;cases e
 |some o=>
  rw[q]at e
  cases o with
  |none=>simp at e
  |some j=>
   simp only[Option.map_some,Option.some.injEq,Option.bind_some]at e
   have ej:σd[j]?=some (some d):=by
    cases r:σd[j]? with
    |none=>rw[r]at e;cases e
    |some u=>rw[r]at e;simp at e;rw[e]
   obtain⟨v,ev,rv⟩:=h.at' j d ej
   refine⟨v,?_,rv⟩
   unfold σC
   rw[List.getElem?_map,q]
   simp[ev]
noncomputable def dW(tg:fz)(c:DT)(te:DE)(ok:ai→Prop)(σc:bN):List D→List D→ai→(List D→ai→Prop)→Prop
 | [],acc,st,K=>ok st∧K acc st
 |x::xs,acc,st,K=>ok st∧∃σ2,tg x σc=some σ2∧c σ2 st fun b st1=>if b=true then te σ2 st1 fun y st2=>dW tg c te ok σc xs (acc++[y]) st2 K else dW tg c te ok σc xs acc st1 K
noncomputable def dP(src:DI)(fr:List (Option Nat))(tg:fz)(c:DT)(te:DE):DE:=fun σ st K=>src σ st fun xs ok st1=>xs.length≤sizeLine∧dW tg c te ok (h_ fr σ) xs [] st1 fun ys st2=>K (.lst ys) st2
noncomputable def mj(src:DI)(fr:List (Option Nat))(tg:fz)(c:DT)(te:DE):DE:=fun σ st K=>src σ st fun xs ok st1=>xs.length≤sizeLine∧dW tg c te ok (h_ fr σ) xs [] st1 fun ys st2=>K (.ref st2.length) (st2++[.lst ys])
noncomputable def cT:DT:=fun _ st K=>K true st
noncomputable def pW(fr:List (Option Nat))(tg:fz):Prop:=∀(σ:bN) (d:D) (σ2:bN),tg d (h_ fr σ)=some σ2→σ2.length=(h_ fr σ).length∧∀(i:Nat) (e:D),(h_ fr σ)[i]?=some (some e)→σ2[i]?=some (some e)
theorem qh{fr:List (Option Nat)}{σ:bN}{k:Nat}(h:fr[k]?=some none){e:D}(q:(h_ fr σ)[k]?=some (some e)):False:=by
 unfold h_ at q
 rw[List.getElem?_map,h]at q
 simp at q
theorem cQ{fr:List (Option Nat)}{k:Nat}(h:fr[k]?=some none:=by rfl):pW fr (bW k):=fun σ d σ2 e=>by
 cases e
 refine⟨List.length_set,fun i x q=>?_⟩
 by_cases hi:i=k
 · subst hi;exact(qh h q).elim
 · rw[List.getElem?_set_ne (Ne.symm hi)];exact q
theorem m_{fr:List (Option Nat)}{k j:Nat}(h:fr[k]?=some none:=by rfl)(h':fr[j]?=some none:=by rfl):pW fr (iM k j):=fun σ d σ2 e=>by
 unfold iM at e
 split at e
 · cases e
   refine⟨by rw[List.length_set,List.length_set],fun i x q=>?_⟩
   by_cases hi:i=k
   · subst hi;exact(qh h q).elim
   · by_cases hj:i=j
     · subst hj;exact(qh h' q).elim
     · rw[List.getElem?_set_ne (Ne.symm hj),List.getElem?_set_ne (Ne.symm hi)];exact q
 · cases e
section
variable {X:Cx}
theorem IA{c:Expr}{t:DT}(h:PT X c (LT t)):qc X [c] (LT t):=GI h
theorem DP:qc X [] (LT cT):=fun pins s σ H Q I ⟨α,σd,st,K,G,F,P,R,S,t,k⟩=>GY pins s σ H Q I (k true st t α G H Step.refl P S)
theorem LE.comp{src:DI}{fr:List (Option Nat)}{tg:fz}{c:DT}{te:DE}(fit:pW fr tg){σ:L2.St}{H:Hp}{Q:VK}{α:List (Option Addr)}{σd:bN}{st:ai}{KE:List D→ai→Prop}{G F:Hp}(P:cq G F H)(R:eE α G σd σ)(S:aX α st G)
 (t:src σd st fun xs ok st1=>xs.length≤sizeLine∧dW tg c te ok (h_ fr σd) xs [] st1 KE)
 (fin:∀ys st2 α2 G2 H2 l vs,KE ys st2→Step α G α2 G2→cq G2 (upd F l (.lst vs)) H2→F l=none→aX α2 st2 G2→aO α2 G2 ys vs→Q (.ref l) H2):
 qP (LI src) fr (LG tg) (LT c) (LE te) σ H Q:=by
 refine⟨α,σd,st,_,G,F,P,R,S,t,fun xs ok st1 q J α1 G1 H1 s1 P1 S1 it l hl=>?_⟩
 obtain⟨hsz,q⟩:=q
 obtain⟨hG,hF⟩:=P1.none hl
 refine⟨fun i m σ' H'=>∃α' st' G' acc vs,Step α1 G1 α' G'∧cq G' (upd F l (.lst vs)) H'∧eE α' G' (h_ fr σd) σ'∧aX α' st' G'∧aO α' G' acc vs∧acc.length≤i∧i≤xs.length∧dW tg c te ok (h_ fr σd) (xs.drop i) acc st' KE∧m=xs.length-i,
  ⟨xs.length,α1,st1,G1,[],[],Step.refl,P1.hide hl,(R.step s1).comp,S1,by unfold aO;rfl,Nat.le_refl _,Nat.zero_le _,q,rfl⟩,?_⟩
 rintro i m σ2 H2 ⟨α2,st2,G2,acc,vs,s2,P2,R2,S2,ra,hacc,hi,q2,rfl⟩
 cases e:xs[i]? with
 |none=>
  have hl2:xs.length≤i:=List.getElem?_eq_none_iff.mp e
  rw[List.drop_eq_nil_of_le hl2]at q2
  unfold dW at q2
  exact .inl ⟨it.stop i α2 G2 _ H2 st2 s2 P2 S2 q2.1 hl2,fin acc st2 α2 G2 H2 l vs q2.2 (s1.trans s2) P2 hF S2 ra⟩
 |some d=>
  have hl2:i<xs.length:=(List.getElem?_eq_some_iff.mp e).1
  have ed:xs.drop i=d::xs.drop (i+1):=by
   rw[List.drop_eq_getElem_cons hl2]
   congr 1
   rw[List.getElem?_eq_getElem hl2]at e
   exact Option.some.inj e
  rw[ed]at q2
  unfold dW at q2
  obtain⟨aM,σ3,e3,q3⟩:=q2
  refine .inr ⟨it.go i d α2 G2 _ H2 st2 s2 P2 S2 aM e,fun σ' H'=>∃α' st' G' acc vs,Step α1 G1 α' G'∧cq G' (upd F l (.lst vs)) H'∧eE α' G' (h_ fr σd) σ'∧aX α' st' G'∧aO α' G' acc vs∧acc.length≤i+1∧dW tg c te ok (h_ fr σd) (xs.drop (i+1)) acc st' KE,?_,?_⟩
  · rintro σ' H' ⟨α',st',G',acc',vs',z1,z2,z3,z4,z5,z6,z7⟩
    exact⟨xs.length-(i+1),by omega,α',st',G',acc',vs',z1,z2,z3,z4,z5,z6,hl2,z7,rfl⟩
  · intro x H' y
    obtain⟨G3,s3,P3,S3,r3⟩:=it.oo i d α2 G2 _ H2 st2 x H' s2 P2 S2 aM e y
    refine⟨α2,h_ fr σd,st2,d,fun σ' st'=>σ'=σ3∧st'=st2,G3,_,P3,R2.step s3,S3,r3,⟨σ3,e3,rfl,rfl⟩,?_⟩
    rintro σ' st' ⟨rfl,rfl⟩ α4 G4 H4 σ4 s4 P4 R4 S4
    have s24:=(s2.trans s3).trans s4
    have Rc:eE α4 G4 (h_ fr σd) σ4:=⟨by rw[←(fit σd d σ' e3).1];exact R4.len,fun j z hz=>R4.at' j z ((fit σd d σ' e3).2 j z hz)⟩
    refine⟨α4,σ',st',_,G4,_,P4,R4,S4,q3,fun b st5 q5 α5 G5 H5 s5 P5 S5=>?_⟩
    cases b with
    |false=>exact⟨α5,st5,G5,acc,vs,s24.trans s5,P5,Rc.step s5,S5,((ra.step s3).step s4).step s5,by omega,q5⟩
    |true=>
     refine⟨α5,σ',st5,_,G5,_,P5,R4.step s5,S5,q5,fun z st6 q6 α6 G6 H6 v6 s6 P6 S6 r6=>?_⟩
     have hr:=(((ra.step s3).step s4).step s5).step s6
     refine⟨vs,(P6.frame aY).1,by rw[←hr.length];omega,α6,st6,G6,acc++[z],vs++[v6],(s24.trans s5).trans s6,?_,(Rc.step s5).step s6,S6,aZ.mpr (fF (aZ.mp hr) (.cons r6 .nil)),by rw[List.length_append,List.length_singleton];omega,q6⟩
     have:=P6.FP (p:=l) (o':= .lst (vs++[v6])) aY
     rw[GS]at this
     exact this
theorem Kr{scope:Scope}{Nc:List Str}{elt tg iter:Expr}{ifs:List Expr}{pos:Pos}{src:DI}{fr:List (Option Nat)}{dtg:fz}{c:DT}{te:DE}(S:bI X scope Nc fr)(hi:PI X tg iter (LI src))
 (hg:∀C s H ex,PG (fL X scope Nc C s H ex) tg (LG dtg)) (ht:∀C s H ex,qc (fL X scope Nc C s H ex) ifs (LT c)) (he:∀C s H ex,PE (fL X scope Nc C s H ex) elt (LE te)) (fit:pW fr dtg)
 (hx:X.xe=fun _ _=>False:=by rfl) (hc:X.calm=true:=by rfl) (hs:∀x,foldedSetIterable iter X.env x=pure x:=by intro _;rfl):PE X (.ListComp elt [⟨tg,iter,ifs,0⟩] scope pos) (LE (dP src fr dtg c te)):=
 PE.imp (zA hx hc S hi hg ht he hs) fun σ H Q ⟨α,σd,st,K,G,F,P,R,S,t,k⟩=>LE.comp fit P R S t fun ys st2 α2 G2 H2 l vs q s2 P2 hl S2 r=>by
  have hg:G2 l=none:=(P2.frame aY).2
  refine k _ st2 q α2 (upd G2 l (.lst vs)) H2 (.ref l) (s2.trans (Step.laid hg)) (P2.show hl) (S2.laid hg) ?_
  unfold Rep
  exact⟨l,vs,rfl,S2.kC hg,.of aY,r.step (Step.laid hg)⟩
theorem HC{scope:Scope}{Nc:List Str}{elt tg iter:Expr}{ifs:List Expr}{pos:Pos}{src:DI}{fr:List (Option Nat)}{dtg:fz}{c:DT}{te:DE}(S:bI X scope Nc fr)(hi:PI X tg iter (LI src))
 (hg:∀C s H ex,PG (fL X scope Nc C s H ex) tg (LG dtg)) (ht:∀C s H ex,qc (fL X scope Nc C s H ex) ifs (LT c)) (he:∀C s H ex,PE (fL X scope Nc C s H ex) elt (LE te)) (fit:pW fr dtg)
 (hx:X.xe=fun _ _=>False:=by rfl) (hc:X.calm=true:=by rfl) (hs:∀x,foldedSetIterable iter X.env x=pure x:=by intro _;rfl):PE X (.ListComp elt [⟨tg,iter,ifs,0⟩] scope pos) (LE (mj src fr dtg c te)):=
 PE.imp (zA hx hc S hi hg ht he hs) fun σ H Q ⟨α,σd,st,K,G,F,P,R,S,t,k⟩=>LE.comp fit P R S t fun ys st2 α2 G2 H2 l vs q s2 P2 hl S2 r=>by
  have hg:G2 l=none:=(P2.frame aY).2
  refine k _ _ q (α2++[some l]) (upd G2 l (.lst vs)) H2 (.ref l) (s2.trans (Step.cell hg)) (P2.show hl) (S2.cell hg ⟨vs,aY,r.step (Step.cell hg)⟩) ?_
  unfold Rep
  refine .inr ⟨l,?_,rfl⟩
  rw[List.getElem?_append_right (by rw[S2.len];exact Nat.le_refl _),S2.len,Nat.sub_self]
  rfl
theorem GN{st:Stmt}{k:Nat}{src:DI}{fr:List (Option Nat)}{dtg:fz}{c:DT}{te:DE}(fit:pW fr dtg)(h:PS X st (kR (qP (LI src) fr (LG dtg) (LT c) (LE te)) (jy k))):PS X st (LS (bp k (dP src fr dtg c te))):=
 PS.imp h fun D σ H ⟨α,σd,st,DD,G,F,P,R,S,t,q⟩=>LE.comp fit P R S t fun ys st2 α2 G2 H2 l vs qq s2 P2 hl S2 r=>by
  have hg:G2 l=none:=(P2.frame aY).2
  have s3:=s2.trans (Step.laid (o:= .lst vs) hg)
  refine q.nx _ st2 qq α2 (upd G2 l (.lst vs)) H2 _ s3 (P2.show hl) ((R.step s3).set k ?_) (S2.laid hg)
  unfold Rep
  exact⟨l,vs,rfl,S2.kC hg,.of aY,r.step (Step.laid hg)⟩
theorem EH{st:Stmt}{k:Nat}{src:DI}{fr:List (Option Nat)}{dtg:fz}{c:DT}{te:DE}(fit:pW fr dtg)(h:PS X st (kR (qP (LI src) fr (LG dtg) (LT c) (LE te)) (jy k))):PS X st (LS (bp k (mj src fr dtg c te))):=
 PS.imp h fun D σ H ⟨α,σd,st,DD,G,F,P,R,S,t,q⟩=>LE.comp fit P R S t fun ys st2 α2 G2 H2 l vs qq s2 P2 hl S2 r=>by
  have hg:G2 l=none:=(P2.frame aY).2
  have s3:=s2.trans (Step.cell (o:= .lst vs) hg)
  refine q.nx _ _ qq (α2++[some l]) (upd G2 l (.lst vs)) H2 _ s3 (P2.show hl) ((R.step s3).set k ?_) (S2.cell hg ⟨vs,aY,r.step (Step.cell hg)⟩)
  unfold Rep
  refine .inr ⟨l,?_,rfl⟩
  rw[List.getElem?_append_right (by rw[S2.len];exact Nat.le_refl _),S2.len,Nat.sub_self]
  rfl
noncomputable def bf(N:List Str)(ds:List D):bN:=ds.map some++List.replicate (N.length-ds.length) none
theorem eE.start{α:List (Option Addr)}{G:Hp}{N:List Str}{ds:List D}{vs:List V}(r:aO α G ds vs):eE α G (bf N ds) (L2.start N vs):=by
 have hl:=r.length
 refine⟨by unfold bf L2.start;simp[hl],fun i d e=>?_⟩
 unfold bf at e
 by_cases hi:i<ds.length
 · rw[List.getElem?_append_left (by simpa using hi),List.getElem?_map]at e
   cases q:ds[i]? with
   |none=>rw[q]at e;cases e
   |some x=>
    rw[q]at e
    cases e
    obtain⟨v,ev,rv⟩:=r.get q
    refine⟨v,?_,rv⟩
    unfold L2.start
    rw[List.getElem?_append_left (by rw[List.length_map];omega),List.getElem?_map,ev]
    rfl
 · rw[List.getElem?_append_right (by simpa using hi),List.getElem?_replicate]at e
   split at e<;>cases e
theorem Mr{P:Program}{w:World}{K:PySem.W.Frag}{mg:Str→Option Value}{base:Heap}{x qual:Str}{st:Stmt}{f:Addr}{fd:FuncData}{N ps:List Str}{k:Nat}{sp:cJ}{t:DS}(F:oR K x qual st f fd)(S:aU N ps (af st))
 (hbody:∀(cdv:Value) (A:Around) (outer:List Env) (s:Shared) (H:Hp) (E:XK),dg k (A.deeper (envOfC qual (af st) s.heap.objs.size f cdv))→iA (pA aD P w K mg base N qual (af st) f cdv A outer s H E).tW (aN st) (LS t))
 (hsp:∀ds st K,sp ds st K→ds.length=ps.length∧t {nx:=fun _ st'=>K .aH st',rt:=K} (bf N ds) st):au P w K mg base aD (k+1) f fd ps (aF sp):=by
 refine F.ok S (fun vs H Q E h=>?_) fun cdv A outer s H vs Q E hr h=>⟨_,hbody cdv A outer s H E hr,?_⟩
 · obtain⟨α,ds,st,K,G,F,P,r,S,q,k⟩:=h
   rw[←r.length]
   exact(hsp ds st K q).1
 · obtain⟨α,ds,st,K,G,F,P,r,S,q,k⟩:=h
   refine⟨α,bf N ds,st,_,G,F,P,eE.start r,S,(hsp ds st K q).2,?_,k,?_,?_⟩
   · intro σd' st' kk α' G' H' σ' s' P' R' S'
     exact k .aH st' kk α' G' H' .aH s' P' S' (by unfold Rep;rfl)
   · intro σd' st' kk
     exact kk.elim
   · intro σd' st' kk
     exact kk.elim
noncomputable def oM(to te:DE):DE:=fun σ st K=>to σ st fun x st1=>match x with
 | .ref n=>(match st1[n]? with
   |some (.lst _)=>te σ st1 fun y st2=>∃y',[y]=[y']∧(match st2[n]? with|some (.lst xs)=>xs.length<sizeLine∧K .aH (st2.set n (.lst (xs++[y'])))|_=>False)
   |_=>False)
 |_=>False
end
end L3
namespace L3
open PySem PySem.Spec L2
open PyProof.Rows hiding St
structure aw(K:PySem.W.Frag)(mg:Str→Option Value)(x qual:Str)(st:Stmt)(ps:List Str)(f:Addr)(fd:FuncData):Prop where
 fn:oR K x qual st f fd
 mg:mg x=some (.ref f)
 bd:Binds K fd ps []
noncomputable def CJ(sc:Scope)(N:List Str)(scope:Scope)(Nc:List Str)(fr:List (Option Nat)):Bool:=
 (scope.kind== .function)&&scope.names.all (fun x=>x.2 != .cell||scope.names.lookup x.1==some .cell)&&scope.names.all (fun x=>x.2 != .local||scope.names.lookup x.1==some .local)&&
 scope.names.all (fun x=>x.2 != .free||sc.names.lookup x.1==some .cell||sc.names.lookup x.1==some .free)&&(fr.length==Nc.length)&&
 (List.range fr.length).all fun i=>match fr[i]?,Nc[i]? with
   |some (some j),some x=>(N[j]?==some x)&&(scope.names.lookup x==some .free)&&(sc.names.lookup x==some .cell||sc.names.lookup x==some .free)
   |_,_=>true
theorem bI.look{X:Cx}{scope:Scope}{Nc:List Str}{fr:List (Option Nat)}(sc:Scope)(N:List Str)(h:CJ sc N scope Nc fr=true)(hsc:X.env.scope=sc:=by rfl)(hN:X.N=N:=by rfl):bI X scope Nc fr:=by
 unfold CJ at h
 simp only[Bool.and_eq_true]at h
 obtain⟨⟨⟨⟨⟨h1,h2⟩,h3⟩,h4⟩,h5⟩,h6⟩:=h
 subst hsc hN
 refine⟨by simpa using h1,fun x hx hk=>?_,fun x hx hk=>?_,fun x hx hk=>?_,by simpa using h5,fun i j x e1 e2=>?_⟩
 · have:=List.all_eq_true.mp h2 x hx
   rw[hk]at this
   simpa using this
 · have:=List.all_eq_true.mp h3 x hx
   rw[hk]at this
   simpa using this
 · have:=List.all_eq_true.mp h4 x hx
   rw[hk]at this
   have z:X.env.scope.names.lookup x.1=some .cell∨X.env.scope.names.lookup x.1=some .free:=by simpa using this
   exact z
 · have hi:i<fr.length:=(List.getElem?_eq_some_iff.mp e2).1
   have:=List.all_eq_true.mp h6 i (List.mem_range.mpr hi)
   rw[e1,e2]at this
   simp only[Bool.and_eq_true,Bool.or_eq_true,beq_iff_eq]at this
   exact⟨this.1.1,this.1.2,this.2⟩
section
variable {X:Cx}
theorem MU{e:Expr}{es:List Expr}{pos p:Pos}{x:Str}{id:String}{r:gd}{t:DA}(hc:b_ X (.builtin id) (ip r))(ha:PA X (e::es) (LA t))(hm:X.mg x=none)(hv:bootBuiltins x=some (.builtin id))(hg:Gl X x:=by rfl)(hn:x≠"__name__":=by decide)(hdb:(x==("__debug__":Str))=false:=by decide)
 (he:starEach (e::es) X.env=(false,eval e X.env)::starEach es X.env:=by rfl) (hpl:(backTo pos (starEach es X.env)).any (·.1)=false:=by rfl):PE X (.Call (.Name x p) (e::es) [] pos) (LE (cm r t)):=PE.imp (Ei hc hg hm hv ha hn hdb he hpl) fun _ _ _ h=>LE.cb h
theorem Nq{e:Expr}{es:List Expr}{pos p:Pos}{x:Str}{T:String}{r:gd}{t:DA}(hc:b_ X (.type T) (ip r))(ha:PA X (e::es) (LA t))(hm:X.mg x=none)(hv:bootBuiltins x=some (.type T))(hg:Gl X x:=by rfl)(hn:x≠"__name__":=by decide)(hdb:(x==("__debug__":Str))=false:=by decide)
 (he:starEach (e::es) X.env=(false,eval e X.env)::starEach es X.env:=by rfl) (hpl:(backTo pos (starEach es X.env)).any (·.1)=false:=by rfl):PE X (.Call (.Name x p) (e::es) [] pos) (LE (cm r t)):=PE.imp (CI hc hg hm hv ha hn hdb he hpl) fun _ _ _ h=>LE.cb h
theorem Nf{pos:Pos}{x:Str}{T:String}(hm:X.mg x=none)(hv:bootBuiltins x=some (.type T))(hg:Gl X x:=by rfl)(hn:x≠"__name__":=by decide)(hdb:(x==("__debug__":Str))=false:=by decide):PE X (.Name x pos) (LE (dC (.ty T))):=
 oU (v:= .ty T) (HI hg hm hv rfl hn hdb) fun _ _=>by unfold Rep;rfl
theorem Nw{e:Expr}{es:List Expr}{pos p:Pos}{x qual:Str}{st:Stmt}{ps:List Str}{f:Addr}{fd:FuncData}{k:Nat}{S:cJ}{t:DA}(A:aw X.K X.mg x qual st ps f fd)(F:au X.prog X.w X.K X.mg X.base aD k f fd ps (aF S))(hr:dg k X.A)
 (ha:PA X (e::es) (LA t)) (hg:Gl X x:=by rfl) (hdb:(x==("__debug__":Str))=false:=by decide) (he:starEach (e::es) X.env=(false,eval e X.env)::starEach es X.env:=by rfl) (hpl:(backTo pos (starEach es X.env)).any (·.1)=false:=by rfl):
 PE X (.Call (.Name x p) (e::es) [] pos) (LE (aG S t)):=KQ F hr hg A.mg A.fn.kp A.bd ha hdb he hpl
noncomputable def ye(d:D)(b:Bool):Bool:=match d with| .bl c=>c==b|_=>false
noncomputable def MO(d:D):Bool:=match d with| .aH=>true|_=>false
theorem GQ{α:List (Option Addr)}{H:Hp}{st:ai}{d:D}{v:V}{u:Value}{b:Bool}(S:aX α st H)(hl:live st d=true)(r:Rep α H d v)(ru:RelV v u):(u==Value.bool b)=ye d b:=by
 cases d
 case ref n=>
  obtain⟨a,rfl⟩:=yj S hl r
  cases ru;rfl
 all_goals unfold Rep at r
 case bl c=>
  subst r
  cases ru
  cases c<;>cases b<;>rfl
 all_goals first
  |(subst r;first|(cases ru;rfl)|(obtain⟨t,rfl⟩:=ru;rfl))
  |(obtain⟨a,vs,rfl,_⟩:=r;cases ru;rfl)
theorem LE.append{to te:DE}{σ:L2.St}{H:Hp}{Q:VK}(h:LE (oM to te) σ H Q):KL X.K "list" zF (LE to) (LA (ae te ak)) σ H Q:=by
 obtain⟨α,σd,st,K,G,F,P,R,S,t,k⟩:=h
 refine⟨α,σd,st,_,G,F,P,R,S,t,fun x st1 q α1 G1 H1 v s1 P1 S1 r1=>?_⟩
 cases x<;>try exact q.elim
 rename_i n
 simp only at q
 split at q
 · rename_i ys e
   obtain⟨p,ep,vs,h1,h2⟩:=S1.hO e
   have r1':=dw ep r1
   subst r1'
   refine⟨.inl ⟨rfl,vs,.inl (.of (P1.get h1))⟩,α1,σd,st1,fun ds st2=>∃y,ds=[y]∧(match st2[n]? with|some (.lst xs)=>xs.length<sizeLine∧K .aH (st2.set n (.lst (xs++[y])))|_=>False),G1,F,P1,R.step s1,S1,?_,?_⟩
   · refine Eq.mp ?_ q
     rfl
   · rintro ds st2 ⟨y,rfl,q2⟩ α2 G2 H2 ws s2 P2 S2 r2
     obtain⟨w,rfl,rw'⟩:=i7 r2 rfl
     split at q2
     · rename_i xs e2
       obtain⟨p2,ep2,us,g1,g2⟩:=S2.hO e2
       have:p2=p:=by
        rcases s2.pre _ _ ep with z|z<;>(rw[z]at ep2;cases ep2)
        rfl
       subst this
       have hm:some p2∈α2:=List.mem_of_getElem? ep2
       refine⟨p2,us,w,rfl,rfl,P2.get g1,by rw[←g2.length];exact q2.1,?_⟩
       refine((k.at s1).at s2) _ _ q2.2 α2 (upd G2 p2 (.lst (us++[w]))) _ .aH (Step.write hm) (P2.write g1) ?_ (by unfold Rep;rfl)
       exact S2.write ep2 ⟨us++[w],aY,(aZ.mpr (fF (aZ.mp g2) (.cons rw' .nil))).step (Step.write hm)⟩
     · exact q2.elim
 · exact q.elim
theorem EU{o e:Expr}{to te:DE}{apos cpos:Pos}(ho:PE X o (LE to))(he:PE X e (LE te))(hbase:attributeBase o "append" X.env (eval o X.env)=eval o X.env:=by rfl)
 (hfew:((backTo cpos (starEach [e] X.env)).all (fun x=> !x.1)&&(backToKw cpos (keywordEach [] X.env)).all (fun x=>x.1.isSome)
   &&decide (([e]:List Expr).length+([]:List Keyword).length+(if([]:List Keyword).isEmpty then 0 else 1)<30))=true:=by rfl)
 (hline:(apos.endLine==cpos.line)=true:=by rfl) (hs:starEach [e] X.env=(false,eval e X.env)::starEach [] X.env:=by rfl) (hplain:(backTo cpos (starEach [] X.env)).any (·.1)=false:=by rfl):PE X (.Call (.Attribute o "append" apos) [e] [] cpos) (LE (oM to te)):=
 PE.imp (FU PySem.F.plainAttrs_list PySem.F.slot_list_append PySem.F.type_list_append vm ho (rB he tD hs) hbase hfew hline hs hplain) fun _ _ _ h=>LE.append h
end
end L3
namespace L3
open PySem L2
open PySem.Spec hiding items?
open PyProof.Rows hiding St
section
variable {X:Cx}
@[irreducible] noncomputable def iF:dJ:=Fe
theorem iK:cx X (binaryOp .Add) (LR iF):=by unfold iF;exact LP
@[irreducible] noncomputable def mM:dJ:=Fo
theorem om:cx X (binaryOp .Sub) (LR mM):=by unfold mM;exact LF
@[irreducible] noncomputable def cL:dJ:=FT
theorem cS:cx X (binaryOp .Mult) (LR cL):=by unfold cL;exact KS
@[irreducible] noncomputable def mf:dJ:=Bu
theorem oZ:cx X (binaryOp .FloorDiv) (LR mf):=by unfold mf;exact II
@[irreducible] noncomputable def mJ:dJ:=Fy
theorem og:cx X (binaryOp .Mod) (LR mJ):=by unfold mJ;exact LB
@[irreducible] noncomputable def nN:dJ:=Fu
theorem qQ:cx X (binaryOp .Pow) (LR nN):=by unfold nN;exact K4
@[irreducible] noncomputable def o3:dJ:=Jx
theorem uI:cx X (compareOp .Lt) (LR o3):=by unfold o3;exact M5
@[irreducible] noncomputable def qD:dJ:=IZ
theorem A9:cx X (compareOp .Gt) (LR qD):=by unfold qD;exact Na
@[irreducible] noncomputable def zr:dJ:=Jn
theorem MZ:cx X (compareOp .GtE) (LR zr):=by unfold zr;exact Nx
@[irreducible] noncomputable def qb:dJ:=Kk
theorem Aj:cx X (compareOp .NotEq) (LR qb):=by unfold qb;exact Nj
@[irreducible] noncomputable def kO:dJ:=IL
theorem oy{k:Nat}(hr:dg k X.A):cx X (compareOp .Eq) (LR kO):=by unfold kO;exact MV hr
@[irreducible] noncomputable def je:yt:=E5
theorem K9:zu X (unaryOp .USub) (FO je):=by unfold je;exact K8
@[irreducible] noncomputable def bG:dJ:=pJ
theorem Nn{a b:Expr}{ta tb:DE}{pos:Pos}(ha:PE X a (LE ta))(hb:PE X b (LE tb))(hs:qZ b:=by intro _ _;rfl):PE X (.Subscript a b pos) (LE (ay bG ta tb)):=by unfold bG;exact Ng ha hb hs
@[irreducible] noncomputable def fK:gd:=wm
theorem ft:b_ X (.builtin "len") (ip fK):=by unfold fK;exact Lw
@[irreducible] noncomputable def pk:gd:=Av
theorem tF:b_ X (.builtin "abs") (ip pk):=by unfold pk;exact Mn
@[irreducible] noncomputable def xk:gd:=Ao
theorem Mg(hc:X.calm=true):b_ X (.builtin "max") (ip xk):=by unfold xk;exact Mp hc
@[irreducible] noncomputable def xD:gd:=AN
theorem LZ(hc:X.calm=true):b_ X (.builtin "min") (ip xD):=by unfold xD;exact Ma hc
@[irreducible] noncomputable def uH:gd:=AJ
theorem L8:b_ X (.type "int") (ip uH):=by unfold uH;exact K5
@[irreducible] noncomputable def dR:gd:=qS
theorem dY:b_ X (.type "tuple") (ip dR):=by unfold dR;exact HW
@[irreducible] noncomputable def g_:gd:=tX
theorem iQ:b_ X (.type "list") (ip g_):=by unfold g_;exact Jv
@[irreducible] noncomputable def p9:gd:=rq
theorem Hm:b_ X (.type "list") (ip p9):=by unfold p9;exact HZ
@[irreducible] noncomputable def uG:gd:=wq
theorem Fx(hc:X.calm=true):b_ X (.builtin "all") (ip uG):=by unfold uG;exact K2 hc
@[irreducible] noncomputable def sH:gd:=wu
theorem AE:b_ X (.builtin "isinstance") (ip sH):=by unfold sH;exact L9
@[irreducible] noncomputable def oE:D→ai→(List D→(ai→Prop)→ai→Prop)→Prop:=uB
noncomputable def fu(t:DE):DI:=fun σ st K=>t σ st fun d st1=>oE d st1 K
theorem Kp{l tg:Expr}{tl:DE}(hl:PE X l (LE tl)):PI X tg l (LI (fu tl)):=by unfold fu oE;exact JM hl
@[irreducible] noncomputable def wx:List D→ai→(List D→(ai→Prop)→ai→Prop)→Prop:=EY
@[irreducible] noncomputable def wz:List D→ai→(List D→(ai→Prop)→ai→Prop)→Prop:=E7
noncomputable def eV(t:DA):DI:=fun σ st K=>t σ st fun ds st1=>wx ds st1 K
noncomputable def oY(t:DA):DI:=fun σ st K=>t σ st fun ds st1=>wz ds st1 K
theorem Cf{tg iter:Expr}{t:DA}(h:PI X tg iter (zU (LA t))):PI X tg iter (LI (eV t)):=by unfold eV wx;exact CK h
theorem Bh{tg iter:Expr}{t:DA}(h:PI X tg iter (AL (LA t))):PI X tg iter (LI (oY t)):=by unfold oY wz;exact CO h
@[irreducible] noncomputable def uM:D→D→D→ai→(ai→Prop)→Prop:=xB
noncomputable def eO(to ti te:DE):DS:=fun D σ st=>te σ st fun d st1=>to σ st1 fun x st2=>ti σ st2 fun y st3=>uM x y d st3 fun st4=>D.nx σ st4
theorem xI{st:Stmt}{to ti te:DE}(h:PS X st (kR (LE te) (uJ (LE to) (LE ti) rh))):PS X st (LS (eO to ti te)):=by unfold eO uM;exact DZ h
end
section
variable {st:ai}{K:DK}{i j:Int}{b c:Bool}{xs ys:List D}{d e:D}{n:Nat}
theorem gD(k:K (.int (i+j)) st):iF (.int i) (.int j) st K:=by unfold iF;exact k
theorem mH(k:K (.int (i-j)) st):mM (.int i) (.int j) st K:=by unfold mM;exact⟨trivial,k⟩
theorem cU(h:IntMulOk i j)(k:K (.int (i*j)) st):cL (.int i) (.int j) st K:=by unfold cL;exact⟨h,k⟩
theorem zD(h: -(2^63)≤i∧i<2^63∧xs.length*i.toNat≤sizeLine)(k:K (.lst (List.replicate i.toNat xs).flatten) st):cL (.lst xs) (.int i) st K:=by unfold cL;exact⟨h,k⟩
theorem rK(h: -(2^63)≤i∧i<2^63∧xs.length*i.toNat≤sizeLine)(k:K (.tup (List.replicate i.toNat xs).flatten) st):cL (.tup xs) (.int i) st K:=by unfold cL;exact⟨h,k⟩
theorem m6(h0:j≠0)(h:j.natAbs.log2<9000)(k:K (.int (i.fdiv j)) st):mf (.int i) (.int j) st K:=by unfold mf;exact⟨⟨h0,h⟩,k⟩
theorem mB(h0:j≠0)(k:K (.int (i.fmod j)) st):mJ (.int i) (.int j) st K:=by unfold mJ;exact⟨h0,k⟩
theorem oF(h:EG i j)(k:K (.int (i^j.toNat)) st):nN (.int i) (.int j) st K:=by unfold nN;exact⟨h,k⟩
theorem E8(k:K (.bl (decide (i<j))) st):o3 (.int i) (.int j) st K:=by unfold o3;exact⟨trivial,k⟩
theorem AY(k:K (.bl (decide (j<i))) st):qD (.int i) (.int j) st K:=by unfold qD;exact⟨trivial,k⟩
theorem Lc(k:K (.bl (decide (j≤i))) st):zr (.int i) (.int j) st K:=by unfold zr;exact⟨trivial,k⟩
theorem FV(k:K (.bl (!decide (i=j))) st):qb (.int i) (.int j) st K:=by unfold qb;exact k
theorem rJ(h1:pl 40 d=true)(h2:pl 40 e=true)(k:K (.bl (cV d e)) st):kO d e st K:=by unfold kO;exact⟨h1,h2,k⟩
theorem HA(a b:Int):(a==b)=decide (a=b):=by
 by_cases h:a=b
 · subst h;simp
 · simp[h]
theorem B8(k:K (.bl (decide (i=j))) st):kO (.int i) (.int j) st K:=by
 refine rJ rfl rfl ?_
 have:cV (.int i) (.int j)=decide (i=j):=by unfold cV;exact HA i j
 rw[this];exact k
theorem iN(k:K (.int (-i)) st):je (.int i) st K:=by unfold je;exact k
theorem EF(h:items? st d=some xs)(a:eh xs i=some e)(k:K e st):pJ d (.int i) st K:=by
 cases d<;>unfold items? at h<;>first
  |(cases h;done)
  |(cases h;simp only[pJ,a];exact k)
  |(simp only at h
    split at h
    · rename_i q
      cases h
      simp only[pJ,q,a]
      exact k
    · cases h)
theorem aJ(h:items? st d=some xs)(a:eh xs i=some e)(k:K e st):bG d (.int i) st K:=by unfold bG;exact EF h a k
theorem d_(h:items? st d=some xs)(k:K (.int xs.length) st):fK [d] st K:=by
 unfold fK wm
 split
 · rename_i z;cases z;cases h
 · rename_i z;cases z;rw[h];exact k
 · rename_i z1 z2;exact absurd rfl (z2 d)
theorem GC(i:Int):(if i<0 then-i else i)=((i.natAbs:Nat):Int):=by split<;>omega
theorem qA(k:K (.int ((i.natAbs:Nat):Int)) st):pk [.int i] st K:=by unfold pk;show K (.int (if i<0 then-i else i)) st;rw[GC];exact k
theorem Jm(k:K (.int (if j>i then j else i)) st):xk [.int i,.int j] st K:=by unfold xk;exact k
theorem IK(k:K (.int (if j<i then j else i)) st):xD [.int i,.int j] st K:=by unfold xD;exact k
theorem GF(k:K (.int (if b then 1 else 0)) st):uH [.bl b] st K:=by unfold uH;exact k
theorem dv(h:items? st d=some xs)(k:K (.tup xs) st):dR [d] st K:=by unfold dR qS;simp only[h];exact k
theorem gQ(h:items? st d=some xs)(k:K (.lst xs) st):g_ [d] st K:=by unfold g_ tX;simp only[h];exact k
theorem Ds(h:items? st d=some xs)(k:K (.ref st.length) (st++[.lst xs])):p9 [d] st K:=by unfold p9 rq;simp only[h];exact k
theorem B7{bs:List Bool}(h:jK xs=some bs)(k:K (.bl (bs.all id)) st):uG [.lst xs] st K:=by unfold uG wq;simp only[h];exact k
theorem xr{t c:String}(h:jv st d=some t)(hc:c∈nr)(k:K (.bl (sv t c)) st):sH [d,.ty c] st K:=by unfold sH wu;simp only[h];exact⟨hc,k⟩
theorem mF{K:List D→(ai→Prop)→ai→Prop}(h:items? st d=some xs)(k:∀ok:ai→Prop,ok st→K xs ok st):oE d st K:=by
 unfold oE uB
 cases d<;>unfold items? at h<;>first
  |(cases h;done)
  |(cases h;exact k _ trivial)
  |(simp only at h
    split at h
    · rename_i q
      cases h
      simp only[q]
      exact k _ q
    · cases h)
theorem va{K:List D→(ai→Prop)→ai→Prop}(k:K xs (fun _=>True) st):oE (.lst xs) st K:=by unfold oE;exact k
theorem kj{K:List D→(ai→Prop)→ai→Prop}(k:K xs (fun _=>True) st):oE (.tup xs) st K:=by unfold oE;exact k
theorem gq{K:List D→(ai→Prop)→ai→Prop}(h: -(2^62)≤j∧j<2^62)(k:K (dS 0 j.toNat) (fun _=>True) st):wx [.int j] st K:=by unfold wx;exact⟨h,k⟩
theorem zf{K:List D→(ai→Prop)→ai→Prop}(h: -(2^62)≤i∧i<2^62∧ -(2^62)≤j∧j<2^62)(k:K (dS i (j-i).toNat) (fun _=>True) st):wz [.int i,.int j] st K:=by unfold wz;exact⟨h,k⟩
theorem fw{K:ai→Prop}{m:Nat}(h:st[n]?=some (.lst xs))(e:kM xs.length i=some m)(k:K (st.set n (.lst (xs.set m d)))):uM (.ref n) (.int i) d st K:=by unfold uM xB;simp only[h,e];exact k
end
end L3
namespace L3
open PySem L2
open PySem.Spec hiding items?
open PyProof.Rows hiding St
noncomputable def xf(K:PySem.W.Frag):Bool:=K.all fun p=>p.2.cls != .type "list"
theorem sj{a:Addr}{o:Obj}:∀ {l:List (Addr×Obj)},l.lookup a=some o→(a,o)∈l
 | [],h=>by cases h
 |(b,u)::r,h=>by
  rw[List.lookup_cons]at h
  split at h
  · rename_i z
    cases h
    have:a=b:=by simpa using z
    subst this
    exact List.mem_cons_self
  · exact List.mem_cons_of_mem _ (sj h)
theorem vR{K:PySem.W.Frag}(h:xf K=true){a:Addr}{o:Obj}(e:K.lookup a=some o):o.cls≠ .type "list":=by
 have:=List.all_eq_true.mp h (a,o) (sj e)
 simpa using this
theorem vA{α:List (Option Addr)}{G:Hp}:∀ns:List Int,aO α G (ns.map D.int) (ns.map V.int)
 | []=>by unfold aO;rfl
 |n::ns=>by
  rw[List.map_cons,List.map_cons]
  unfold aO
  exact⟨_,_,rfl,by unfold Rep;rfl,vA ns⟩
end L3
namespace L3
open PySem L2
open PySem.Spec hiding items?
open PyProof.Rows hiding St
noncomputable def notStar:Expr→Bool
 | .Starred .. =>false
 |_=>true
theorem cG{e:Expr}{es:List Expr}{env:Env}(h:notStar e=true):starEach (e::es) env=(false,eval e env)::starEach es env:=by
 cases e<;>first|rfl|cases h
noncomputable def gR:List Expr→Bool
 | []=>true
 |e::es=>notStar e&&gR es
theorem j5{pos:Pos}{env:Env}:∀ {es:List Expr},gR es=true→(backTo pos (starEach es env)).any (·.1)=false
 | [],_=>rfl
 |e::es,h=>by
  unfold gR at h
  rw[Bool.and_eq_true]at h
  rw[cG h.1]
  have ih:=j5 (pos:=pos) (env:=env) h.2
  unfold backTo at ih⊢
  rw[List.map_cons,List.any_cons,ih]
  rfl
noncomputable def j6:Expr→Bool
 | .Slice .. =>false
 |_=>true
noncomputable def qr:Expr→Bool
 | .Name .. =>true
 | .Call .. =>true
 | .Subscript .. =>true
 | .Attribute .. =>true
 |_=>false
noncomputable def kU:Expr→Bool
 | .ListComp .. =>false
 | .SetComp .. =>false
 | .DictComp .. =>false
 |_=>true
section
variable {X:Cx}
theorem EC{b:Expr}(h:j6 b=true):qZ b:=by
 intro o i
 cases b<;>first|rfl|cases h
theorem Aw{e:Expr}(h:qr e=true):∀whole,isTrue e X.env whole=(do let v ←whole;standAt e.pos;holding [v] (truthy v)):=by
 intro whole
 cases e<;>first|(cases h;done)|rfl
theorem uK{e:Expr}{tg:Option Expr}{n:Nat}{env:Env}(h:kU e=true):swapsWith e tg n env=pure false:=by
 cases e<;>first|(cases h;done)|rfl
theorem Dz{e:Expr}{es:List Expr}{te:DE}{tr:DA}(ha:PE X e (LE te))(hr:PA X es (LA tr))(hs:notStar e=true:=by rfl):PA X (e::es) (LA (ae te tr)):=rB ha hr (cG hs)
theorem Lg{e:Expr}{es:List Expr}{pos p:Pos}{x:Str}{id:String}{r:gd}{t:DA}(hc:b_ X (.builtin id) (ip r))(ha:PA X (e::es) (LA t))(hm:X.mg x=none)(hv:bootBuiltins x=some (.builtin id))(hn:x≠"__name__")(hdb:(x==("__debug__":Str))=false)(hg:Gl X x:=by rfl)(hs:notStar e=true:=by rfl)(hs2:gR es=true:=by rfl):
 PE X (.Call (.Name x p) (e::es) [] pos) (LE (cm r t)):=MU hc ha hm hv hg hn hdb (cG hs) (j5 hs2)
theorem K7{e:Expr}{es:List Expr}{pos p:Pos}{x:Str}{T:String}{r:gd}{t:DA}(hc:b_ X (.type T) (ip r))(ha:PA X (e::es) (LA t))(hm:X.mg x=none)(hv:bootBuiltins x=some (.type T))(hn:x≠"__name__")(hdb:(x==("__debug__":Str))=false)(hg:Gl X x:=by rfl)(hs:notStar e=true:=by rfl)(hs2:gR es=true:=by rfl):
 PE X (.Call (.Name x p) (e::es) [] pos) (LE (cm r t)):=Nq hc ha hm hv hg hn hdb (cG hs) (j5 hs2)
theorem Lo{e:Expr}{es:List Expr}{pos p:Pos}{x qual:Str}{st:Stmt}{ps:List Str}{f:Addr}{fd:FuncData}{k:Nat}{S:cJ}{t:DA}(A:aw X.K X.mg x qual st ps f fd)(F:au X.prog X.w X.K X.mg X.base aD k f fd ps (aF S))(hr:dg k X.A)
 (ha:PA X (e::es) (LA t)) (hdb:(x==("__debug__":Str))=false) (hg:Gl X x:=by rfl) (hs:notStar e=true:=by rfl) (hs2:gR es=true:=by rfl):
 PE X (.Call (.Name x p) (e::es) [] pos) (LE (aG S t)):=Nw A F hr ha hg hdb (cG hs) (j5 hs2)
theorem LJ{a b:Expr}{ta tb:DE}{pos:Pos}(ha:PE X a (LE ta))(hb:PE X b (LE tb))(hs:j6 b=true:=by rfl):PE X (.Subscript a b pos) (LE (ay bG ta tb)):=Nn ha hb (EC hs)
theorem HK{e:Expr}{te:DE}(he:PE X e (LE te))(h:qr e=true:=by rfl):PT X e (LT (cy te)):=Ig he (Aw h)
theorem EN{e:Expr}{te:DE}{pos:Pos}(he:PE X e (LE te))(h:kU e=true:=by rfl):PS X (.Expr e pos) (LS (jX te)):=GG he (uK h)
theorem HR{i:Nat}{x:Str}{e:Expr}{te:TE}{pos pos':Pos}(hN:X.N.Nodup)(hi:X.N[i]?=some x)(hx:Loc X.env.scope x)(he:PE X e te)(hf:X.fn x=true∨X.env.scope.names.lookup x=some .local:=by first|exact .inl rfl|exact .inr rfl)(h:kU e=true:=by rfl):
 PS X (.Assign [.Name x pos'] e pos) (kR te (jy i)):=Jz hN hi hx he (uK h) hf
theorem GV{i:Nat}{x:Str}{pos:Pos}(hd:(x==("__debug__":Str))=false)(hcd:(x==("__classdict__":Str))=false)(hv:wV X.env.scope x)(hN:X.N[i]?=some x:=by rfl):PE X (.Name x pos) (LE (ab i)):=LQ (Jk hN hv hd hcd)
theorem Ku{o i e:Expr}{to ti te:TE}{pos pos':Pos}(he:PE X e te)(ho:PE X o to)(hi:PE X i ti)(h1:kU e=true:=by rfl)(h2:j6 i=true:=by rfl):PS X (.Assign [.Subscript o i pos'] e pos) (kR te (uJ to ti rh)):=
 tV he (tG ho hi set_list (by intro v;cases i<;>first|rfl|cases h2)) (by unfold swapsWithSole;exact uK h1) (by cases e<;>rfl) rfl
end
end L3
namespace L3
open PySem L2
open PySem.Spec hiding items?
open PyProof.Rows hiding St
@[irreducible] noncomputable def JE(X:Cx)(e:Expr)(t:DE):Prop:=PE X e (LE t)
@[irreducible] noncomputable def JT(X:Cx)(e:Expr)(t:DT):Prop:=PT X e (LT t)
@[irreducible] noncomputable def JW(X:Cx)(e:Expr)(t:DT):Prop:=PW X e (LT t)
@[irreducible] noncomputable def JA(X:Cx)(es:List Expr)(t:DA):Prop:=PA X es (LA t)
@[irreducible] noncomputable def JS(X:Cx)(s:Stmt)(t:DS):Prop:=PS X s (LS t)
@[irreducible] noncomputable def JB(X:Cx)(s:List Stmt)(t:DS):Prop:=iA X s (LS t)
@[irreducible] noncomputable def JG(X:Cx)(e:Expr)(t:fz):Prop:=PG X e (LG t)
@[irreducible] noncomputable def JI(X:Cx)(tg e:Expr)(t:DI):Prop:=PI X tg e (LI t)
@[irreducible] noncomputable def JC(X:Cx)(es:List Expr)(t:DT):Prop:=qc X es (LT t)
section
variable {X:Cx}{a b c e o i:Expr}{es:List Expr}{ta tb tc te to ti:DE}{t u:DT}{ar:DA}{pos p pos':Pos}{s:Stmt}{ss:List Stmt}{T U:DS}
theorem Bp{n:Nat}{x:Str}(hd:(x==("__debug__":Str))=false)(hcd:(x==("__classdict__":Str))=false)(hv:wV X.env.scope x)(hN:X.N[n]?=some x:=by rfl):JE X (.Name x pos) (ab n):=by unfold JE;exact GV hd hcd hv hN
theorem D_{x:Str}{T:String}(hm:X.mg x=none)(hv:bootBuiltins x=some (.type T))(hn:x≠"__name__")(hdb:(x==("__debug__":Str))=false)(hg:Gl X x):JE X (.Name x pos) (dC (.ty T)):=by unfold JE;exact Nf hm hv hg hn hdb
theorem ax{k:Int}{j:Nat}:JE X (.Constant (.int k) j pos) (dC (.int k)):=by unfold JE;exact Lz
theorem qz{k:Bool}{j:Nat}:JE X (.Constant (.bool k) j pos) (dC (.bl k)):=by unfold JE;exact M8
theorem zR{k:Str}{j:Nat}:JE X (.Constant (.str k) j pos) (dC (.str k)):=by unfold JE;exact Me
theorem FF{j:Nat}:JE X (.Constant .none j pos) (dC .aH):=by unfold JE;exact LY
theorem bg{op:Operator}{r:dJ}(ho:cx X (binaryOp op) (LR r))(ha:JE X a ta)(hb:JE X b tb):JE X (.BinOp a op b pos) (ay r ta tb):=by unfold JE at*;exact Nr ho ha hb
theorem jY(ha:JE X a ta):JE X (.UnaryOp .USub a pos) (nz je ta):=by unfold JE at*;exact MW K9 ha
theorem Lv(ha:JE X a ta):JE X (.UnaryOp .Not a pos) (zY (cy ta)):=by unfold JE at*;exact LN ha
theorem KW{op:BoolOp}(ha:JE X a ta):JE X (.BoolOp op [a] pos) ta:=by unfold JE at*;exact Mc ha
theorem LL(ha:JE X a ta)(hb:JE X (.BoolOp .And (b::es) pos) tb):JE X (.BoolOp .And (a::b::es) pos) (AQ ta tb):=by unfold JE at*;exact Lj ha hb
theorem wg{op:CmpOp}{r:dJ}(ho:cx X (compareOp op) (LR r))(hm:behindInMarks op b=false)(ha:JE X a ta)(hb:JE X b tb):JE X (.Compare a [op] [b] pos) (ay r ta tb):=by unfold JE at*;exact K_ ho ha hb hm
theorem E9(hc:JT X c t)(ha:JE X a ta)(hb:JE X b tb):JE X (.IfExp c a b pos) (Fc t ta tb):=by unfold JE at*;unfold JT at hc;exact Lx hc ha hb
theorem iI{n:Nat}(h:JA X es ar):JE X (.Tuple es n pos) (ju ar):=by unfold JE;unfold JA at h;exact Mi h
theorem rg(h:JA X es ar):JE X (.List es pos) (qC ar):=by unfold JE;unfold JA at h;exact LD h
theorem AO(h:JA X es ar):JE X (.List es pos) (u9 ar):=by unfold JE;unfold JA at h;exact Lk h
theorem aj:JA X [] ak:=by unfold JA;exact tD
theorem aa(ha:JE X e te)(hr:JA X es ar)(hs:notStar e=true:=by rfl):JA X (e::es) (ae te ar):=by unfold JA at*;unfold JE at ha;exact Dz ha hr hs
theorem aV(ha:JE X a ta)(hb:JE X b tb)(hs:j6 b=true:=by rfl):JE X (.Subscript a b pos) (ay bG ta tb):=by unfold JE at*;exact LJ ha hb hs
theorem dU{x:Str}{id:String}{r:gd}(hc:b_ X (.builtin id) (ip r))(ha:JA X (e::es) ar)(hm:X.mg x=none)(hv:bootBuiltins x=some (.builtin id))(hn:x≠"__name__")(hdb:(x==("__debug__":Str))=false)(hg:Gl X x)(hs:notStar e=true:=by rfl)(hs2:gR es=true:=by rfl):JE X (.Call (.Name x p) (e::es) [] pos) (cm r ar):=by
 unfold JE;unfold JA at ha;exact Lg hc ha hm hv hn hdb hg hs hs2
theorem eg{x:Str}{T:String}{r:gd}(hc:b_ X (.type T) (ip r))(ha:JA X (e::es) ar)(hm:X.mg x=none)(hv:bootBuiltins x=some (.type T))(hn:x≠"__name__")(hdb:(x==("__debug__":Str))=false)(hg:Gl X x)(hs:notStar e=true:=by rfl)(hs2:gR es=true:=by rfl):JE X (.Call (.Name x p) (e::es) [] pos) (cm r ar):=by
 unfold JE;unfold JA at ha;exact K7 hc ha hm hv hn hdb hg hs hs2
theorem aT{x qual:Str}{st:Stmt}{ps:List Str}{f:Addr}{fd:FuncData}{k:Nat}{S:cJ}(A:aw X.K X.mg x qual st ps f fd)(F:au X.prog X.w X.K X.mg X.base aD k f fd ps (aF S))(hr:dg k X.A)(ha:JA X (e::es) ar)(hdb:(x==("__debug__":Str))=false)(hg:Gl X x)(hs:notStar e=true:=by rfl)(hs2:gR es=true:=by rfl):
 JE X (.Call (.Name x p) (e::es) [] pos) (aG S ar):=by unfold JE;unfold JA at ha;exact Lo A F hr ha hdb hg hs hs2
theorem EW{apos cpos:Pos}(ho:JE X o to)(he:JE X e te)(hbase:attributeBase o "append" X.env (eval o X.env)=eval o X.env:=by rfl)(hline:(apos.endLine==cpos.line)=true:=by rfl)(hs:notStar e=true:=by rfl):JE X (.Call (.Attribute o "append" apos) [e] [] cpos) (oM to te):=by
 unfold JE at*
 refine EU ho he hbase ?_ hline (cG hs) rfl
 rw[cG hs]
 rfl
theorem cO{op:CmpOp}{r:dJ}(ho:cx X (compareOp op) (LR r))(hm:behindInMarks op b=false)(ha:JE X a ta)(hb:JE X b tb):JT X (.Compare a [op] [b] pos) (cy (ay r ta tb)):=by unfold JE at*;unfold JT;exact J3 ho ha hb hm
theorem xX(ha:JT X a t):JT X (.UnaryOp .Not a pos) (tY t):=by unfold JT at*;exact IW ha
theorem tU(he:JE X e te)(h:qr e=true:=by rfl):JT X e (cy te):=by unfold JT;unfold JE at he;exact HK he h
theorem Gp(ha:JT X a t):JW X (.BoolOp .And [a] pos) t:=by unfold JW;unfold JT at ha;exact HE ha
theorem tO(ha:JT X a t):JW X (.BoolOp .Or [a] pos) t:=by unfold JW;unfold JT at ha;exact Iy ha
theorem IY(ha:JT X a t)(hb:JW X (.BoolOp .And (b::es) pos) u):JW X (.BoolOp .And (a::b::es) pos) (wb t u):=by unfold JW at*;unfold JT at ha;exact Jp ha hb
theorem v9(ha:JT X a t)(hb:JW X (.BoolOp .Or (b::es) pos) u):JW X (.BoolOp .Or (a::b::es) pos) (tj t u):=by unfold JW at*;unfold JT at ha;exact Lq ha hb
theorem tu(h:JW X e t):JT X e t:=by unfold JT;unfold JW at h;exact PW.pt h
theorem gN{l tg:Expr}(hl:JE X l ta):JI X tg l (fu ta):=by unfold JI;unfold JE at hl;exact Kp hl
theorem fe{tg:Expr}(hg:Gl X "range")(hm:X.mg "range"=none)(ha:JA X [a] ar)(hs:notStar a=true:=by rfl):JI X tg (.Call (.Name "range" p) [a] [] pos) (eV ar):=by unfold JI;unfold JA at ha;exact Cf (BJ hg hm ha (cG hs))
theorem w_{tg:Expr}(hg:Gl X "range")(hm:X.mg "range"=none)(ha:JA X [a,b] ar)(hs:notStar a=true:=by rfl)(hs2:notStar b=true:=by rfl):JI X tg (.Call (.Name "range" p) [a,b] [] pos) (oY ar):=by unfold JI;unfold JA at ha;exact Bh (CS hg hm ha (by rw[cG hs,cG hs2];rfl) (cG hs2))
theorem dM{k:Nat}{x:Str}(hN:X.N.Nodup)(hx:Loc X.env.scope x)(hf:X.fn x=true∨X.env.scope.names.lookup x=some .local)(hi:X.N[k]?=some x:=by rfl):JG X (.Name x pos) (bW k):=by unfold JG;exact Hn (nq hN hi hx hf)
theorem l_{k j n:Nat}{x y:Str}{px py:Pos}(hc:X.calm=true)(hN:X.N.Nodup)(hx:Loc X.env.scope x)(hf:X.fn x=true∨X.env.scope.names.lookup x=some .local)(hy:Loc X.env.scope y)(hg:X.fn y=true∨X.env.scope.names.lookup y=some .local)(hi:X.N[k]?=some x:=by rfl)(hj:X.N[j]?=some y:=by rfl):
 JG X (.Tuple [.Name x px,.Name y py] n pos) (iM k j):=by unfold JG;exact Jd (C3 hc (j7 (nq hN hi hx hf) (j7 (nq hN hj hy hg) uD)))
theorem cK:JC X [] cT:=by unfold JC;exact DP
theorem BW(h:JT X c t):JC X [c] t:=by unfold JC;unfold JT at h;exact IA h
theorem eH{scope:Scope}{Nc:List Str}{elt tg iter:Expr}{ifs:List Expr}{src:DI}{fr:List (Option Nat)}{dtg:fz}(S:bI X scope Nc fr)(hi:JI X tg iter src)(hg:∀C s H ex,JG (fL X scope Nc C s H ex) tg dtg)(ht:∀C s H ex,JC (fL X scope Nc C s H ex) ifs t)(he:∀C s H ex,JE (fL X scope Nc C s H ex) elt te)(fit:pW fr dtg)
 (hx:X.xe=fun _ _=>False:=by rfl) (hc:X.calm=true:=by rfl) (hs:∀x,foldedSetIterable iter X.env x=pure x:=by intro _;rfl):JE X (.ListComp elt [⟨tg,iter,ifs,0⟩] scope pos) (dP src fr dtg t te):=by
 unfold JE JI JG JC at*;exact Kr S hi hg ht he fit hx hc hs
theorem uV{scope:Scope}{Nc:List Str}{elt tg iter:Expr}{ifs:List Expr}{src:DI}{fr:List (Option Nat)}{dtg:fz}(S:bI X scope Nc fr)(hi:JI X tg iter src)(hg:∀C s H ex,JG (fL X scope Nc C s H ex) tg dtg)(ht:∀C s H ex,JC (fL X scope Nc C s H ex) ifs t)(he:∀C s H ex,JE (fL X scope Nc C s H ex) elt te)(fit:pW fr dtg)
 (hx:X.xe=fun _ _=>False:=by rfl) (hc:X.calm=true:=by rfl) (hs:∀x,foldedSetIterable iter X.env x=pure x:=by intro _;rfl):JE X (.ListComp elt [⟨tg,iter,ifs,0⟩] scope pos) (mj src fr dtg t te):=by
 unfold JE JI JG JC at*;exact HC S hi hg ht he fit hx hc hs
theorem eG:JB X [] e7:=by unfold JB;exact HL
theorem aC(h:JS X s T):JB X [s] T:=by unfold JB;unfold JS at h;exact GH h
theorem aq(h:JS X s T)(h2:JB X ss U):JB X (s::ss) (aK T U):=by unfold JB at*;unfold JS at h;exact El h h2
theorem bc(h:JE X e te):JS X (.Return (some e) pos) (bT te):=by unfold JS;unfold JE at h;exact JU h
theorem jB(h:JE X e te)(hc:kU e=true:=by rfl):JS X (.Expr e pos) (jX te):=by unfold JS;unfold JE at h;exact EN h hc
theorem e9{x y:List Stmt}(hc:JT X c t)(ha:JB X x T)(hb:JB X y U):JS X (.If c x y pos) (gc t T U):=by unfold JS;unfold JB at*;unfold JT at hc;exact K0 hc ha hb
theorem xi{x:List Stmt}(hc:JT X c t)(hb:JB X x T)(hx:X.xe=fun _ _=>False:=by rfl):JS X (.While c x [] pos) (uc t T):=by unfold JS;unfold JB at hb;unfold JT at hc;exact EO (DL (by rw[hx];exact PassesOwn.never) hc hb)
theorem fR{tg iter:Expr}{x:List Stmt}{src:DI}{dtg:fz}(hi:JI X tg iter src)(hg:JG X tg dtg)(hb:JB X x T)(hx:X.xe=fun _ _=>False:=by rfl)(hc:X.calm=true:=by rfl)(hs:∀x,foldedSetIterable iter X.env x=pure x:=by intro _;rfl):JS X (.For tg iter x [] pos) (iG src dtg T):=by
 unfold JS;unfold JI at hi;unfold JG at hg;unfold JB at hb;exact Iz (J9 (by rw[hx];exact PassesOwn.never) hc hi hg hb hs)
theorem aS{k:Nat}{x:Str}(hN:X.N.Nodup)(hx:Loc X.env.scope x)(he:JE X e te)(hf:X.fn x=true∨X.env.scope.names.lookup x=some .local:=by first|exact .inl rfl|exact .inr rfl)(h:kU e=true:=by rfl)(hi:X.N[k]?=some x:=by rfl):JS X (.Assign [.Name x pos'] e pos) (bp k te):=by
 unfold JS;unfold JE at he;exact Kw (HR hN hi hx he hf h)
theorem uZ{scope:Scope}{Nc:List Str}{elt tg iter:Expr}{ifs:List Expr}{src:DI}{fr:List (Option Nat)}{dtg:fz}{k:Nat}{x:Str}(hN:X.N.Nodup)(hl:Loc X.env.scope x)(S:bI X scope Nc fr)(hi:JI X tg iter src)(hg:∀C s H ex,JG (fL X scope Nc C s H ex) tg dtg)(ht:∀C s H ex,JC (fL X scope Nc C s H ex) ifs t)(he:∀C s H ex,JE (fL X scope Nc C s H ex) elt te)(fit:pW fr dtg)
 (hf:X.fn x=true∨X.env.scope.names.lookup x=some .local:=by first|exact .inl rfl|exact .inr rfl) (hsw:swapsWith (.ListComp elt [⟨tg,iter,ifs,0⟩] scope p) (some (.Name x pos')) pos.line X.env=pure true:=by rfl) (hni:X.N[k]?=some x:=by rfl) (hx:X.xe=fun _ _=>False:=by rfl) (hc:X.calm=true:=by rfl) (hs:∀x,foldedSetIterable iter X.env x=pure x:=by intro _;rfl):
 JS X (.Assign [.Name x pos'] (.ListComp elt [⟨tg,iter,ifs,0⟩] scope p) pos) (bp k (dP src fr dtg t te)):=by
 unfold JS;unfold JE JI JG JC at*;exact GN fit (zJ hx hc S hi hg ht he hN hni hl hf hsw hs)
theorem Di{scope:Scope}{Nc:List Str}{elt tg iter:Expr}{ifs:List Expr}{src:DI}{fr:List (Option Nat)}{dtg:fz}{k:Nat}{x:Str}(hN:X.N.Nodup)(hl:Loc X.env.scope x)(S:bI X scope Nc fr)(hi:JI X tg iter src)(hg:∀C s H ex,JG (fL X scope Nc C s H ex) tg dtg)(ht:∀C s H ex,JC (fL X scope Nc C s H ex) ifs t)(he:∀C s H ex,JE (fL X scope Nc C s H ex) elt te)(fit:pW fr dtg)
 (hf:X.fn x=true∨X.env.scope.names.lookup x=some .local:=by first|exact .inl rfl|exact .inr rfl) (hsw:swapsWith (.ListComp elt [⟨tg,iter,ifs,0⟩] scope p) (some (.Name x pos')) pos.line X.env=pure true:=by rfl) (hni:X.N[k]?=some x:=by rfl) (hx:X.xe=fun _ _=>False:=by rfl) (hc:X.calm=true:=by rfl) (hs:∀x,foldedSetIterable iter X.env x=pure x:=by intro _;rfl):
 JS X (.Assign [.Name x pos'] (.ListComp elt [⟨tg,iter,ifs,0⟩] scope p) pos) (bp k (mj src fr dtg t te)):=by
 unfold JS;unfold JE JI JG JC at*;exact EH fit (zJ hx hc S hi hg ht he hN hni hl hf hsw hs)
theorem ff(he:JE X e te)(ho:JE X o to)(hi:JE X i ti)(h1:kU e=true:=by rfl)(h2:j6 i=true:=by rfl):JS X (.Assign [.Subscript o i pos'] e pos) (eO to ti te):=by unfold JS;unfold JE at*;exact xI (Ku he ho hi h1 h2)
theorem Iv{k:Nat}{x:Str}{op:Operator}{f:Int→Int→Int}(hN:X.N.Nodup)(hx:Loc X.env.scope x)(he:JE X e te)(ho:Jr X op (Jy f))(hf:X.fn x=true∨X.env.scope.names.lookup x=some .local:=by first|exact .inl rfl|exact .inr rfl)(hi:X.N[k]?=some x:=by rfl):JS X (.AugAssign (.Name x pos') op e pos) (AZ k (xC f) te):=by
 unfold JS;unfold JE at he;exact Kz (Jq hN hi hx he ho hf)
theorem C5{tg:Expr}{dtg:fz}(he:JE X e te)(hg:JG X tg dtg)(hs:swapsWithSole [tg] e pos.line X.env=pure false:=by rfl)(hw:swappedStores [tg] e X.env=pure none:=by rfl)(h1:(assignEach [tg] X.env).map (·.2)=[assign tg X.env]:=by rfl):JS X (.Assign [tg] e pos) (An dtg te):=by
 unfold JS;unfold JE at he;unfold JG at hg;exact IU (tV he hg hs hw h1)
end
theorem bS{P:Program}{w:World}{K:PySem.W.Frag}{mg:Str→Option Value}{base:Heap}{x qual:Str}{st:Stmt}{f:Addr}{fd:FuncData}{N ps:List Str}{k:Nat}{sp:cJ}{t:DS}(F:oR K x qual st f fd)(S:aU N ps (af st))
 (hbody:∀(cdv:Value) (A:Around) (outer:List Env) (s:Shared) (H:Hp) (E:XK),dg k (A.deeper (envOfC qual (af st) s.heap.objs.size f cdv))→JB (pA aD P w K mg base N qual (af st) f cdv A outer s H E).tW (aN st) t)
 (hsp:∀ds st K,sp ds st K→ds.length=ps.length∧t {nx:=fun _ st'=>K .aH st',rt:=K} (bf N ds) st):au P w K mg base aD (k+1) f fd ps (aF sp):=by
 unfold JB at hbody;exact Mr F S hbody hsp
end L3
namespace HT
open PySem PyProof.Rows
section
variable {prog:Program}{w:World}{A:Around}{E:Value→Shared→Prop}{s:Shared}
theorem pX{t sl:Addr}{items:Array Value}{vl vu:Value}{lo hi:Option Int}{Q:Value→Shared→Prop}(ht:IsTup s.heap t items)(hs:s.heap.IsSliceOf sl vl vu .none)(pl:IsPart vl lo)(pu:IsPart vu hi)
 (hw:cu items.size 0 lo=0∧cu items.size items.size hi=items.size) (h:Q (.ref t) s):wpAny (model prog w) A (getItem (.ref t) (.ref sl)) Q E s:=by
 obtain⟨os,hos,hcs,hds⟩:=id hs
 have hTs:s.TypeIs (.ref sl) "slice":=⟨os,hos,hcs⟩
 unfold getItem
 try with_reducible refine wpAny_holding ?_
 first|refine wpAny_bind (wpAny_pure ?_)|skip
 refine wpAny_bind (wpAny_sequenceKey ht.typeIs (by decide) ?_)
 refine wpAny_bind (wpAny_callSpecial?_slot (name:=Str.ofString "__getitem__") ht.typeIs PyProof.Rows.slot_tuple_getitem
  (wpAny_call_entry PyProof.Rows.slot_tuple_getitem ht.typeIs entry_tuple_getitem ?_ (args_tuple_getitem _ _)))
 show wpAny _ _ (Builtin.Tuple.tupleItemsOf (.ref t) >>= _) _ _ s
 refine wpAny_bind (tupleItemsOf_ ht ?_)
 refine wpAny_bind (wpAny_typeOf hTs ?_)
 rw[if_pos (by decide)]
 refine wpAny_bind (nv hs pl pu ?_)
 have hyes:(((cu items.size 0 lo:Nat):Int)==0&&(1:Int)==1&&(cu items.size items.size hi-cu items.size 0 lo)==items.size)=true:=by
  rw[hw.1,hw.2]
  simp
 show wpAny _ _ (if(((cu items.size 0 lo:Nat):Int)==0&&(1:Int)==1&&(cu items.size items.size hi-cu items.size 0 lo)==items.size)=true then _ else _) _ _ s
 rw[if_pos hyes]
 refine wpAny_bind ?_
 unfold Builtin.Tuple.tupleIsExact
 exact wpAny_bind (wpAny_typeOf ht.typeIs (wpAny_pure (wpAny_bind (wpAny_rule (wpAny_pure ⟨_,rfl,wpAny_pure h⟩)))))
end
end HT
namespace L3
open PySem L2
open PySem.Spec hiding items?
open PyProof.Rows hiding St
noncomputable abbrev DO:=bN→ai→(Option Int→ai→Prop)→Prop
noncomputable def q_:DO:=fun _ st K=>K none st
noncomputable def vY(t:DE):DO:=fun σ st K=>t σ st fun d st1=>match d with| .int i=>K (some i) st1|_=>False
noncomputable def cutD(xs:List D)(lo hi:Option Int):List D:=(xs.drop (HT.cu xs.length 0 lo)).take (HT.cu xs.length xs.length hi-HT.cu xs.length 0 lo)
noncomputable def xH(d:D)(lo hi:Option Int)(st:ai)(K:DK):Prop:=match d with
 | .lst xs=>K (.lst (cutD xs lo hi)) st
 | .tup xs=>K (.tup (cutD xs lo hi)) st
 | .ref n=>(match st[n]? with|some (.lst xs)=>K (.lst (cutD xs lo hi)) st|_=>False)
 |_=>False
@[irreducible] noncomputable def nH:D→Option Int→Option Int→ai→DK→Prop:=xH
noncomputable def t6(t:DE)(lo hi:DO):DE:=fun σ st K=>t σ st fun d st1=>lo σ st1 fun l st2=>hi σ st2 fun u st3=>nH d l u st3 K
theorem sx{α:List (Option Addr)}{G:Hp}{xs:List D}{vs:List V}{lo hi:Option Int}(r:aO α G xs vs):aO α G (cutD xs lo hi) (pD vs lo hi):=by
 unfold cutD pD
 rw[←r.length]
 exact aZ.mpr (sd _ (r8 _ (aZ.mp r)))
noncomputable def NB(α:List (Option Addr))(G F:Hp)(K:Option Int→ai→Prop)(Q:Option Int→Hp→Prop):Prop:=∀o st',K o st'→∀α' G' H',Step α G α' G'→cq G' F H'→aX α' st' G'→Q o H'
inductive MJ(t:DO)(σ:L2.St)(H:Hp)(Q:Option Int→Hp→Prop):Prop
 |mk (α:List (Option Addr)) (σd:bN) (st:ai) (K:Option Int→ai→Prop) (G F:Hp) (P:cq G F H) (R:eE α G σd σ) (S:aX α st G) (h:t σd st K) (k:NB α G F K Q):MJ t σ H Q
noncomputable def LO(t:DO):TO:=MJ t
section
variable {X:Cx}
theorem PO.imp{e:Option Expr}{t t':TO}(h:PO X e t)(f:∀σ H Q,t' σ H Q→t σ H Q):PO X e t':=fun pins s σ H Q I q=>h pins s σ H Q I (f σ H Q q)
theorem Hf:PO X none (LO q_):=PO.imp Ga fun σ H Q ⟨α,σd,st,K,G,F,P,R,S,t,k⟩=>k none st t α G H Step.refl P S
theorem HN{e:Expr}{te:DE}(h:PE X e (LE te)):PO X (some e) (LO (vY te)):=PO.imp (He h) fun σ H Q ⟨α,σd,st,K,G,F,P,R,S,t,k⟩=>by
 refine⟨α,σd,st,_,G,F,P,R,S,t,fun d st1 q α1 G1 H1 v s1 P1 S1 r1=>?_⟩
 cases d<;>try exact q.elim
 unfold Rep at r1
 exact⟨_,r1,k _ st1 q α1 G1 H1 s1 P1 S1⟩
noncomputable def NN(x:V)(lo hi:Option Int)(H:Hp)(Q:VK):Prop:=∃α d st K G F,cq G F H∧Rep α G d x∧aX α st G∧nH d lo hi st K∧LK α G F K Q
theorem Gx:CA X (fun x lo hi H Q=>∃a xs,x= .ref a∧H a=some (.tup xs)∧((HT.cu xs.length 0 lo=0∧HT.cu xs.length xs.length hi=xs.length)→Q (.ref a) H)∧(¬(HT.cu xs.length 0 lo=0∧HT.cu xs.length xs.length hi=xs.length)→∀p,H p=none→Q (.ref p) (upd H p (.tup (pD xs lo hi))))):=by
 intro pins s σ H x v vl vu lo hi sl Q I rx hs pl pu h
 obtain⟨a,xs,rfl,hx,q1,q2⟩:=h
 by_cases hw:HT.cu xs.length 0 lo=0∧HT.cu xs.length xs.length hi=xs.length
 · cases rx
   obtain⟨its,r,ht,hz⟩:=I.tuple (jj.of hx)
   have hlen:its.toArray.size=xs.length:=by rw[List.size_toArray];exact r.length.symm
   exact⟨"tuple",_,PyProof.Rows.slot_tuple_getitem.lookup,ht.typeIs,HT.pX ht hs pl pu (by rw[hlen];exact hw) ⟨.ref a,H,I,rfl,q1 hw⟩⟩
 · exact JJ pins s σ H _ v vl vu lo hi sl Q I rx hs pl pu ⟨a,xs,rfl,.of hx,hw,q2 hw⟩
theorem Bz{xs:List D}{lo hi:Option Int}(hw:HT.cu xs.length 0 lo=0∧HT.cu xs.length xs.length hi=xs.length):cutD xs lo hi=xs:=by
 unfold cutD
 rw[hw.1,hw.2]
 simp
theorem Jt:CA X NN:=by
 intro pins s σ H x v vl vu lo hi sl Q I rx hs pl pu ⟨α,d,st,K,G,F',P,r1,S,q,k⟩
 unfold nH xH at q
 cases d<;>try exact q.elim
 · rename_i n
   simp only at q
   split at q
   · rename_i xs e
     obtain⟨a,ea,vs,h1,h2⟩:=S.hO e
     have r1':=dw ea r1
     subst r1'
     exact zp pins s σ H _ v vl vu lo hi sl Q I rx hs pl pu ⟨a,vs,rfl,.inl (.of (P.get h1)),fun p hp=>k.lst P q S (sx h2) hp⟩
   · exact q.elim
 · unfold Rep at r1
   obtain⟨a,vs,rfl,na,ha,ra⟩:=r1
   exact zp pins s σ H _ v vl vu lo hi sl Q I rx hs pl pu ⟨a,vs,rfl,.inl (gL P ha),fun p hp=>k.lst P q S (sx ra) hp⟩
 · rename_i xs
   have r0:=r1
   unfold Rep at r1
   obtain⟨a,vs,rfl,na,ha,ra⟩:=r1
   refine Gx pins s σ H _ v vl vu lo hi sl Q I rx hs pl pu ⟨a,vs,rfl,P.get ha,fun hw=>?_,fun _ p hp=>k.tup P q S (sx ra) hp⟩
   rw[←ra.length]at hw
   simp only at q
   rw[Bz hw]at q
   exact k.here P q S r0
theorem Hc{e:Expr}{lo hi:Option Expr}{te:DE}{tl th:DO}{p2 pos:Pos}(he:PE X e (LE te))(hl:PO X lo (LO tl))(hh:PO X hi (LO th)):PE X (.Subscript e (.Slice lo hi none p2) pos) (LE (t6 te tl th)):=PE.imp (Ea Jt he hl hh) fun σ H Q ⟨α,σd,st,K,G,F,P,R,S,t,k⟩=>by
 refine⟨α,σd,st,_,G,F,P,R,S,t,fun d st1 q α1 G1 H1 v s1 P1 S1 r1=>?_⟩
 refine⟨α1,σd,st1,_,G1,F,P1,R.step s1,S1,q,fun l st2 q2 α2 G2 H2 s2 P2 S2=>?_⟩
 refine⟨α2,σd,st2,_,G2,F,P2,(R.step s1).step s2,S2,q2,fun u st3 q3 α3 G3 H3 s3 P3 S3=>?_⟩
 exact⟨α3,d,st3,K,G3,F,P3,(r1.step s2).step s3,S3,q3,((k.at s1).at s2).at s3⟩
@[irreducible] noncomputable def JO(X:Cx)(e:Option Expr)(t:DO):Prop:=PO X e (LO t)
theorem y0:JO X none q_:=by unfold JO;exact Hf
theorem zt{e:Expr}{te:DE}(h:JE X e te):JO X (some e) (vY te):=by unfold JO;unfold JE at h;exact HN h
theorem zI{e:Expr}{lo hi:Option Expr}{te:DE}{tl th:DO}{p2 pos:Pos}(he:JE X e te)(hl:JO X lo tl)(hh:JO X hi th):JE X (.Subscript e (.Slice lo hi none p2) pos) (t6 te tl th):=by unfold JE at*;unfold JO at*;exact Hc he hl hh
end
theorem CT{st:ai}{K:DK}{xs:List D}{lo hi:Option Int}(k:K (.tup (cutD xs lo hi)) st):nH (.tup xs) lo hi st K:=by unfold nH;exact k
theorem Bf{st:ai}{K:DK}{xs:List D}{lo hi:Option Int}{n:Nat}(h:st[n]?=some (.lst xs))(k:K (.lst (cutD xs lo hi)) st):nH (.ref n) lo hi st K:=by unfold nH xH;simp only[h];exact k
end L3
namespace L3
open PySem L2
open PySem.Spec hiding items?
open PyProof.Rows hiding St
section
variable {prog:Program}{w:World}{A:Around}{E:Value→Shared→Prop}{s:Shared}
theorem Ap{iT tp:Addr}{n:Nat}{its:Array Value}{v:Value}{Q:Value→Shared→Prop}(hI:s.heap.IsTupleIter iT tp n)(hT:s.heap.IsTuple tp its)(hv:its[n]?=some v)
 (q:∀g,g.IsTupleIter iT tp (n+1)→Heap.SameBut iT s.heap g→Q v {s with heap:=g}):wpAny (model prog w) A (Builtin.SmallTypes.nextOf (.ref iT)) Q E s:=by
 obtain⟨oI,eI,cI,dI⟩:=id hI
 obtain⟨oT,eT,_,nT,dT⟩:=hT
 unfold Builtin.SmallTypes.nextOf
 refine wpAny_bind (wpAny_callSpecial?_slot (name:=Str.ofString "__next__") hI.typeIs F.slot_tuple_iterator_next (wpAny_call_entry F.slot_tuple_iterator_next hI.typeIs F.entry_tuple_iterator_next ?_ (F.args_tuple_iterator_next_1 _)))
 show wpAny _ _ (field (.ref iT) 0 >>= _) _ _ s
 refine wpAny_bind (wpAny_field eI dI (x:= .ref tp) rfl ?_)
 show wpAny _ _ (if(Value.ref tp==Value.none)=true then _ else _) _ _ s
 rw[if_neg (show¬((Value.ref tp==Value.none)=true)from Bool.false_ne_true)]
 show wpAny _ _ (field (.ref iT) 1 >>= _) _ _ s
 refine wpAny_bind (wpAny_field eI dI (x:= .int n 0) rfl ?_)
 show wpAny _ _ (seqItems? (.ref tp) >>= _) _ _ s
 refine wpAny_bind (wpAny_seqItems eT dT ?_)
 simp only[Int.toNat_natCast,hv]
 refine wpAny_bind (wpAny_setField eI dI (by simp) (wpAny_pure ⟨v,rfl,wpAny_pure (q _ ?_ (Heap.SameBut.update ..))⟩))
 refine⟨_,Heap.get?_update_self _ eI (Obj.isFreed_of_fields (Obj.data_mapFields dI _)),(Obj.cls_mapFields ..).trans cI,?_⟩
 rw[Obj.data_mapFields dI]
 simp[rawInt]
theorem Cy{iT tp:Addr}{n:Nat}{its:Array Value}{Q:Value→Shared→Prop}(hh:A.handled=none)(hI:s.heap.IsTupleIter iT tp n)(hT:s.heap.IsTuple tp its)(hv:its[n]?=none)
 (q:∀g e,Heap.ExtBut iT s.heap g→(∃o,g.get? e=some o∧o.cls= .type "StopIteration")→E (.ref e) {s with heap:=g}):wpAny (model prog w) A (Builtin.SmallTypes.nextOf (.ref iT)) Q E s:=by
 obtain⟨oI,eI,cI,dI⟩:=id hI
 obtain⟨oT,eT,_,nT,dT⟩:=hT
 unfold Builtin.SmallTypes.nextOf
 refine wpAny_bind (wpAny_callSpecial?_slot (name:=Str.ofString "__next__") hI.typeIs F.slot_tuple_iterator_next (wpAny_call_entry F.slot_tuple_iterator_next hI.typeIs F.entry_tuple_iterator_next ?_ (F.args_tuple_iterator_next_1 _)))
 show wpAny _ _ (field (.ref iT) 0 >>= _) _ _ s
 refine wpAny_bind (wpAny_field eI dI (x:= .ref tp) rfl ?_)
 show wpAny _ _ (if(Value.ref tp==Value.none)=true then _ else _) _ _ s
 rw[if_neg (show¬((Value.ref tp==Value.none)=true)from Bool.false_ne_true)]
 show wpAny _ _ (field (.ref iT) 1 >>= _) _ _ s
 refine wpAny_bind (wpAny_field eI dI (x:= .int n 0) rfl ?_)
 show wpAny _ _ (seqItems? (.ref tp) >>= _) _ _ s
 refine wpAny_bind (wpAny_seqItems eT dT ?_)
 simp only[Int.toNat_natCast,hv]
 refine wpAny_bind (wpAny_rule (wpAny_bind (wpAny_setField eI dI (by simp) ?_)))
 show wpAny _ _ (newExc (.type "StopIteration") [] >>= _) _ _ _
 refine wpAny_bind ?_
 simp only[newExc,newTuple]
 refine wpAny_bind (wpAny_newObj_type ?_ (by size_fits))
 refine wpAny_bind (m:=firstArgMember _ _) (wpAny_of_eq (a:=Value.none) (by first|rfl|(simp only[firstArgMember];rfl)) ?_)
 refine wpAny_newObj_type ?_ (by size_fits)
 simp only[raiseNew]
 refine wpAny_bind (wpAny_handled ?_)
 first|rw[show A.in1.handled=none from hh]|rw[hh]
 refine wpAny_bind (wpAny_pure (wpAny_throw ?_))
 exact q _ _ (((Heap.SameBut.update ..).extBut.push _).push _) ⟨_,Heap.get?_push_size _ rfl,rfl⟩
end
end L3
namespace L3
open PySem L2
open PySem.Spec hiding items?
open PyProof.Rows hiding St
section
variable {st:ai}{K:DK}{i j:Int}{b c:Bool}{xs ys:List D}{d e:D}{n:Nat}
theorem eqT(h:i=j)(k:K (.bl true) st):kO (.int i) (.int j) st K:=B8 (by rw[decide_eq_true h];exact k)
theorem NF(h:i≠j)(k:K (.bl false) st):kO (.int i) (.int j) st K:=B8 (by rw[decide_eq_false h];exact k)
theorem eq2(h1:i=j→K (.bl true) st)(h2:i≠j→K (.bl false) st):kO (.int i) (.int j) st K:=by
 by_cases h:i=j
 · exact eqT h (h1 h)
 · exact NF h (h2 h)
theorem neT(h:i≠j)(k:K (.bl true) st):qb (.int i) (.int j) st K:=FV (by rw[decide_eq_false h];exact k)
theorem NS(h:i=j)(k:K (.bl false) st):qb (.int i) (.int j) st K:=FV (by rw[decide_eq_true h];exact k)
theorem ne2(h1:i≠j→K (.bl true) st)(h2:i=j→K (.bl false) st):qb (.int i) (.int j) st K:=by
 by_cases h:i=j
 · exact NS h (h2 h)
 · exact neT h (h1 h)
theorem NI(h:i<j)(k:K (.bl true) st):o3 (.int i) (.int j) st K:=E8 (by rw[decide_eq_true h];exact k)
theorem NQ(h:j≤i)(k:K (.bl false) st):o3 (.int i) (.int j) st K:=E8 (by rw[decide_eq_false (by omega)];exact k)
theorem zE(h1:i<j→K (.bl true) st)(h2:j≤i→K (.bl false) st):o3 (.int i) (.int j) st K:=by
 by_cases h:i<j
 · exact NI h (h1 h)
 · exact NQ (by omega) (h2 (by omega))
theorem NM(h:j<i)(k:K (.bl true) st):qD (.int i) (.int j) st K:=AY (by rw[decide_eq_true h];exact k)
theorem NC(h:i≤j)(k:K (.bl false) st):qD (.int i) (.int j) st K:=AY (by rw[decide_eq_false (by omega)];exact k)
theorem Im(h1:j<i→K (.bl true) st)(h2:i≤j→K (.bl false) st):qD (.int i) (.int j) st K:=by
 by_cases h:j<i
 · exact NM h (h1 h)
 · exact NC (by omega) (h2 (by omega))
theorem Jo{P:Prop}(h:xs.length≤1000)(k:P):xs.length≤sizeLine∧P:=⟨by rw[sizeLine_eq];omega,k⟩
theorem cz{m:Nat}(h:m≤1000):m≤sizeLine:=by rw[sizeLine_eq];omega
theorem u7(h0:0≤i)(e:xs[i.toNat]?=some d):eh xs i=some d:=by
 have:=iX e
 rw[Int.toNat_of_nonneg h0]at this
 exact this
theorem nM{m:Nat}(h0:0≤i)(h:i.toNat<m):kM m i=some i.toNat:=by
 unfold kM
 have:i<(m:Int):=by omega
 simp[h0,this]
end
theorem gO{tg:fz}{body:DS}{ok:ai→Prop}{E:kv}(I:List D→bN→ai→Prop)(hend:∀σ st,I [] σ st→ok st∧E.nx σ st)
 (hstep:∀x xs σ st,I (x::xs) σ st→(∀σ' st',I xs σ' st'→fD tg body ok E xs σ' st')→ok st∧∃σ1,tg x σ=some σ1∧body {E with nx:=fD tg body ok E xs,ct:=fD tg body ok E xs,bk:=E.nx} σ1 st):
 ∀xs σ st,I xs σ st→fD tg body ok E xs σ st
 | [],σ,st,h=>by unfold fD;exact hend σ st h
 |x::xs,σ,st,h=>by unfold fD;exact hstep x xs σ st h fun σ' st' h'=>gO I hend hstep xs σ' st' h'
theorem iL{tg:fz}{c:DT}{te:DE}{ok:ai→Prop}{σc:bN}{K:List D→ai→Prop}(I:List D→List D→ai→Prop)(hend:∀acc st,I [] acc st→ok st∧K acc st)
 (hstep:∀x xs acc st,I (x::xs) acc st→(∀acc' st',I xs acc' st'→dW tg c te ok σc xs acc' st' K)→ok st∧∃σ2,tg x σc=some σ2∧c σ2 st fun b st1=>if b=true then te σ2 st1 fun y st2=>dW tg c te ok σc xs (acc++[y]) st2 K else dW tg c te ok σc xs acc st1 K):
 ∀xs acc st,I xs acc st→dW tg c te ok σc xs acc st K
 | [],acc,st,h=>by unfold dW;exact hend acc st h
 |x::xs,acc,st,h=>by unfold dW;exact hstep x xs acc st h fun acc' st' h'=>iL I hend hstep xs acc' st' h'
theorem comp_map{tg:fz}{te:DE}{ok:ai→Prop}{σc:bN}{st:ai}{K:List D→ai→Prop}{g:D→D}(aM:ok st)(xs:List D)(hx:∀x∈xs,∀K',K' (g x) st→∃σ2,tg x σc=some σ2∧te σ2 st K')(k:K (xs.map g) st):dW tg cT te ok σc xs [] st K:=by
 refine iL (fun r acc st'=>st'=st∧(∀x∈r,x∈xs)∧acc++r.map g=xs.map g) (fun acc st' h=>?_) (fun x r acc st' h next=>?_) xs [] st ⟨rfl,fun _ h=>h,rfl⟩
 · obtain⟨rfl,_,e⟩:=h
   rw[List.map_nil,List.append_nil]at e
   rw[e];exact⟨aM,k⟩
 · obtain⟨rfl,hm,e⟩:=h
   obtain⟨σ2,e2,q⟩:=hx x (hm x List.mem_cons_self) (fun y st2=>dW tg cT te ok σc r (acc++[y]) st2 K) (next _ _ ⟨rfl,fun z hz=>hm z (List.mem_cons_of_mem _ hz),by rw[←e];simp⟩)
   exact⟨aM,σ2,e2,q⟩
theorem oG{A B:DS}{E:kv}{σ:bN}{st:ai}(J:bN→ai→Prop)(h:∀nx,(∀σ' st',J σ' st'→nx σ' st')→A {E with nx:=nx} σ st)(k:∀σ' st',J σ' st'→B E σ' st'):aK A B E σ st:=h (B E) k
noncomputable def Ke(n:Nat)(K:DK)(y:D)(st2:ai):Prop:=∃y',[y]=[y']∧(match st2[n]? with|some (.lst xs)=>xs.length<sizeLine∧K .aH (st2.set n (.lst (xs++[y'])))|_=>False)
theorem uR{n:Nat}{K:DK}{y:D}{st:ai}{xs:List D}(e:st[n]?=some (.lst xs))(h:xs.length<sizeLine)(k:K .aH (st.set n (.lst (xs++[y])))):Ke n K y st:=by
 refine⟨y,rfl,?_⟩;simp only[e];exact⟨h,k⟩
@[irreducible] noncomputable def kQ(to te:DE):DE:=oM to te
theorem wC{σ:bN}{st:ai}{K:DK}{i n:Nat}{xs:List D}{te:DE}(ei:σ[i]?=some (some (.ref n)))(e:st[n]?=some (.lst xs))(h:te σ st (Ke n K)):kQ (ab i) te σ st K:=by
 unfold kQ oM ab
 simp only[ei,e]
 exact h
theorem qv{X:Cx}{o e:Expr}{to te:DE}{apos cpos:Pos}(ho:JE X o to)(he:JE X e te)(hbase:attributeBase o "append" X.env (eval o X.env)=eval o X.env:=by rfl)(hline:(apos.endLine==cpos.line)=true:=by rfl)(hs:notStar e=true:=by rfl):JE X (.Call (.Attribute o "append" apos) [e] [] cpos) (kQ to te):=by
 unfold kQ;exact EW ho he hbase hline hs
section
variable {X:Cx}
end
end L3
namespace L3
open PySem L2
open PySem.Spec hiding items?
open PyProof.Rows hiding St
structure Src(P:Program)(w:World)(t a:Addr)(J:Nat→Heap→Prop)(us:Array Value):Prop where
 fr:∀n g k,J n g→(∀b,b=t∨b=a→∀o,g.get? b=some o→k.get? b=some o)→J n k
 lv:∀n g,J n g→(∃o,g.get? t=some o)∧∃o,g.get? a=some o
 nx:∀n (A:Around) (s:Shared) (Q:Value→Shared→Prop) (E:Value→Shared→Prop) v,J n s.heap→us[n]?=some v→(∀k,J (n+1) k→Heap.SameBut t s.heap k→Q v {s with heap:=k})→wpAny (model P w) A (Builtin.SmallTypes.nextOf (.ref t)) Q E s
 en:∀n (A:Around) (s:Shared) (Q:Value→Shared→Prop) (E:Value→Shared→Prop),A.handled=none→J n s.heap→us[n]?=none→(∀k e,Heap.ExtBut t s.heap k→(∃o,k.get? e=some o∧o.cls= .type "StopIteration")→E (.ref e) {s with heap:=k})→wpAny (model P w) A (Builtin.SmallTypes.nextOf (.ref t)) Q E s
section
variable {P:Program}{w:World}
theorem src_list(t a:Addr)(hne:a≠t)(us:Array Value):Src P w t a (fun n g=>g.IsListIter t a n∧g.IsList a us) us where
 fr:=fun n g k j kp=>⟨j.1.at fun o e=>kp t (.inl rfl) o e,j.2.at fun o e=>kp a (.inr rfl) o e⟩
 lv:=fun n g j=>⟨let⟨o,e,_⟩:=j.1;⟨o,e⟩,let⟨o,e,_⟩:=j.2;⟨o,e⟩⟩
 nx:=fun n A s Q E v j hv q=>wpAny_nextOf_list_item j.1 j.2 hv fun k jk sb=>q k ⟨jk,j.2.extBut sb.extBut hne⟩ sb
 en:=fun n A s Q E hh j hv q=>wpAny_nextOf_list_end hh j.1 j.2 hv q
theorem Hy(t a:Addr)(hne:a≠t)(us:Array Value):Src P w t a (fun n g=>g.IsTupleIter t a n∧g.IsTuple a us) us where
 fr:=fun n g k j kp=>by
  obtain⟨⟨o,e,r⟩,⟨o2,e2,r2⟩⟩:=j
  exact⟨⟨o,kp t (.inl rfl) o e,r⟩,⟨o2,kp a (.inr rfl) o2 e2,r2⟩⟩
 lv:=fun n g j=>⟨let⟨o,e,_⟩:=j.1;⟨o,e⟩,let⟨o,e,_⟩:=j.2;⟨o,e⟩⟩
 nx:=fun n A s Q E v j hv q=>Ap j.1 j.2 hv fun k jk sb=>q k ⟨jk,j.2.extBut sb.extBut hne⟩ sb
 en:=fun n A s Q E hh j hv q=>Cy hh j.1 j.2 hv q
theorem Src.ext{t a c:Addr}{J:Nat→Heap→Prop}{us:Array Value}(S:Src P w t a J us){n:Nat}{g k:Heap}(j:J n g)(x:Heap.ExtBut c g k)(h1:c≠t)(h2:c≠a):J n k:=
 S.fr n g k j fun b hb o e=>x b o (by rcases hb with rfl|rfl;exact Ne.symm h1;exact Ne.symm h2) e
structure zl(z ti to t1 t2 a1 a2:Addr):Prop where
 nd: [z,ti,to,t1,t2].Nodup
 a1:a1∉[z,ti,to,t1,t2]
 a2:a2∉[z,ti,to,t1,t2]
section
variable {z ti to t1 t2 a1 a2:Addr}
theorem zl.n(D:zl z ti to t1 t2 a1 a2):(ti≠z∧to≠z∧t1≠z∧t2≠z)∧(ti≠to∧ti≠t1∧ti≠t2)∧(to≠t1∧to≠t2)∧t1≠t2:=by
 have:=D.nd
 simp only[List.nodup_cons,List.mem_cons,not_or,List.not_mem_nil,not_false_eq_true,and_true,List.nodup_nil]at this
 obtain⟨⟨b1,b2,b3,b4⟩,⟨b5,b6,b7⟩,⟨b8,b9⟩,b10⟩:=this
 exact⟨⟨Ne.symm b1,Ne.symm b2,Ne.symm b3,Ne.symm b4⟩,⟨b5,b6,b7⟩,⟨b8,b9⟩,b10⟩
theorem BI{A:Around}{s:Shared}{E:Value→Shared→Prop}{J1 J2:Nat→Heap→Prop}{us vs:Array Value}{n:Nat}{x y a b:Value}{Q:Value→Shared→Prop}(D:zl z ti to t1 t2 a1 a2)(S1:Src P w t1 a1 J1 us)(S2:Src P w t2 a2 J2 vs)
 (Z:IsZip s.heap z ti to .none) (pI:IsPair s.heap ti (.ref t1) (.ref t2)) (pO:IsPair s.heap to a b) (j1:J1 n s.heap) (j2:J2 n s.heap) (ex:us[n]?=some x) (ey:vs[n]?=some y)
 (q:∀k,IsZip k z ti to (rawInt s.heap.objs.size)→IsPair k to x y→J1 (n+1) k→J2 (n+1) k→IsPair k s.heap.objs.size x y→k.objs.size=s.heap.objs.size+1→
   (∀c o,c≠z→c≠to→c≠t1→c≠t2→s.heap.get? c=some o→k.get? c=some o)→Q (.ref s.heap.objs.size) {s with heap:=k}):
 wpAny (model P w) A (Builtin.«zip.__next__» ⟨[.ref z],[]⟩) (fun fin s'=>∃v,fin= .done (.ret v)∧Q v s') E s:=by
 obtain⟨⟨n1,n2,n3,n4⟩,⟨n5,n6,n7⟩,⟨n8,n9⟩,n10⟩:=D.n
 have m1:=D.a1
 have m2:=D.a2
 simp only[List.mem_cons,not_or,List.not_mem_nil,not_false_eq_true,and_true]at m1 m2
 show wpAny _ _ (field (.ref z) 2 >>= _) _ _ _
 refine wpAny_bind (wpAny_field Z rfl (x:= .bool false) rfl ?_)
 show wpAny _ _ (field (.ref z) 3 >>= _) _ _ _
 refine wpAny_bind (wpAny_field Z rfl (x:= .ref ti) rfl ?_)
 refine wpAny_bind (wpAny_seqItems pI rfl ?_)
 show wpAny _ _ (Builtin.SmallTypes.ownedTupleIsFree (.ref z) >>= _) _ _ _
 refine wpAny_bind ?_
 unfold Builtin.SmallTypes.ownedTupleIsFree
 refine wpAny_bind (wpAny_field Z rfl (x:= .none) rfl (wpAny_pure ?_))
 simp only[if_true]
 refine wpAny_bind (wpAny_rule ?_)
 refine wpAny_bind (wpAny_field Z rfl (x:= .ref to) rfl ?_)
 refine wpAny_bind (wpAny_setField_rec Z (by simp) fun k1 Z1 b1=>?_)
 replace Z1:IsZip k1 z ti to .ellipsis:=Z1
 refine wpAny_bind ?_
 simp only[List.zipIdx_cons,List.zipIdx_nil,List.forIn_cons,List.forIn_nil]
 refine wpAny_bind (wpAny_bind (wpAny_onRaise ?_))
 show wpAny _ _ (Builtin.SmallTypes.nextOf (.ref t1) >>= _) _ _ _
 refine wpAny_bind (S1.nx n _ _ _ _ x (S1.ext j1 b1.extBut (Ne.symm n3) (Ne.symm m1.1)) ex fun k2 j1b b2=>wpAny_pure ?_)
 have pO2:IsPair k2 to a b:=b2.extBut _ _ n8 (b1.extBut _ _ n2 pO)
 refine wpAny_bind (wpAny_seqItems pO2 rfl ?_)
 refine wpAny_bind (wpAny_updateSeq_pair pO2 fun k3 pO3 b3=>?_)
 replace pO3:IsPair k3 to x b:=pO3
 refine wpAny_bind (wpAny_letGo (wpAny_pure ?_))
 refine wpAny_bind (wpAny_bind (wpAny_onRaise ?_))
 show wpAny _ _ (Builtin.SmallTypes.nextOf (.ref t2) >>= _) _ _ _
 have j2c:J2 n k3:=S2.ext (S2.ext (S2.ext j2 b1.extBut (Ne.symm n4) (Ne.symm m2.1)) b2.extBut n10 (Ne.symm m2.2.2.2.1)) b3.extBut n9 (Ne.symm m2.2.2.1)
 refine wpAny_bind (S2.nx n _ _ _ _ y j2c ey fun k4 j2d b4=>wpAny_pure ?_)
 have pO4:IsPair k4 to x b:=b4.extBut _ _ n9 pO3
 refine wpAny_bind (wpAny_seqItems pO4 rfl ?_)
 refine wpAny_bind (wpAny_updateSeq_pair pO4 fun k5 pO5 b5=>?_)
 replace pO5:IsPair k5 to x y:=pO5
 refine wpAny_bind (wpAny_letGo (wpAny_pure (wpAny_pure ?_)))
 refine wpAny_bind (wpAny_seqItems pO5 rfl ?_)
 refine wpAny_bind (wpAny_newTuple ?_)
 have sz:k5.objs.size=s.heap.objs.size:=by rw[b5.1,b4.1,b3.1,b2.1,b1.1]
 have Z5:IsZip k5 z ti to .ellipsis:=b5.extBut _ _ (Ne.symm n2) (b4.extBut _ _ (Ne.symm n4) (b3.extBut _ _ (Ne.symm n2) (b2.extBut _ _ (Ne.symm n3) Z1)))
 have kp5:∀c o,c≠z→c≠to→c≠t1→c≠t2→s.heap.get? c=some o→k5.get? c=some o:=fun c o c1 c2 c3 c4 e=>b5.extBut _ _ c2 (b4.extBut _ _ c4 (b3.extBut _ _ c2 (b2.extBut _ _ c3 (b1.extBut _ _ c1 e))))
 have j1e:J1 (n+1) k5:=S1.ext (S1.ext (S1.ext j1b b3.extBut n8 (Ne.symm m1.2.2.1)) b4.extBut (Ne.symm n10) (Ne.symm m1.2.2.2.2)) b5.extBut n8 (Ne.symm m1.2.2.1)
 have j2e:J2 (n+1) k5:=S2.ext j2d b5.extBut n9 (Ne.symm m2.2.2.1)
 have ltz:z<k5.objs.size:=Heap.lt_size Z5
 show wpAny _ _ (Builtin.SmallTypes.ownedTupleHandOut (.ref z) (.ref k5.objs.size) >>= _) _ _ _
 refine wpAny_bind ?_
 unfold Builtin.SmallTypes.ownedTupleHandOut
 have Z6:IsZip (k5.push {cls:= .type "tuple",data:= .seq #[x,y]}) z ti to .ellipsis:=Heap.get?_push_of_some _ Z5
 refine wpAny_bind (wpAny_setField_rec Z6 (by simp) fun k7 Z7 b7=>?_)
 replace Z7:IsZip k7 z ti to (rawInt k5.objs.size):=Z7
 refine wpAny_setField_rec Z7 (by simp) fun k8 Z8 b8=>?_
 replace Z8:IsZip k8 z ti to (rawInt k5.objs.size):=Z8
 have up:∀c o,c≠z→k5.get? c=some o→k8.get? c=some o:=fun c o c1 e=>b8.extBut _ _ c1 (b7.extBut _ _ c1 (Heap.get?_push_of_some _ e))
 have pT:IsPair k8 k5.objs.size x y:=b8.extBut _ _ (Nat.ne_of_gt ltz) (b7.extBut _ _ (Nat.ne_of_gt ltz) (Heap.get?_push_size _ rfl))
 have sz8:k8.objs.size=k5.objs.size+1:=by rw[b8.1,b7.1,Heap.size_push]
 rw[sz]at Z8 pT sz8
 refine wpAny_pure ⟨_,rfl,?_⟩
 show Q (.ref k5.objs.size) _
 rw[sz]
 refine q k8 Z8 (up _ _ n2 pO5) (S1.fr _ _ _ j1e fun b hb o e=>up b o ?_ e) (S2.fr _ _ _ j2e fun b hb o e=>up b o ?_ e) pT sz8 fun c o c1 c2 c3 c4 e=>up c o c1 (kp5 c o c1 c2 c3 c4 e)
 · rcases hb with rfl|rfl
   · exact n3
   · exact m1.1
 · rcases hb with rfl|rfl
   · exact n4
   · exact m2.1
theorem Dx{A:Around}{s:Shared}{E:Value→Shared→Prop}{J1 J2:Nat→Heap→Prop}{us vs:Array Value}{n:Nat}{a b:Value}{Q:Fin→Shared→Prop}(hh:A.handled=none)(D:zl z ti to t1 t2 a1 a2)(S1:Src P w t1 a1 J1 us)(S2:Src P w t2 a2 J2 vs)
 (Z:IsZip s.heap z ti to .none) (pI:IsPair s.heap ti (.ref t1) (.ref t2)) (pO:IsPair s.heap to a b) (j1:J1 n s.heap) (j2:J2 n s.heap) (he:us[n]?=none∨vs[n]?=none)
 (q:∀k e,(∀c o,c≠z→c≠to→c≠t1→c≠t2→s.heap.get? c=some o→k.get? c=some o)→(∃o,k.get? e=some o∧o.cls= .type "StopIteration")→E (.ref e) {s with heap:=k}):
 wpAny (model P w) A (Builtin.«zip.__next__» ⟨[.ref z],[]⟩) Q E s:=by
 obtain⟨⟨n1,n2,n3,n4⟩,⟨n5,n6,n7⟩,⟨n8,n9⟩,n10⟩:=D.n
 have m1:=D.a1
 have m2:=D.a2
 simp only[List.mem_cons,not_or,List.not_mem_nil,not_false_eq_true,and_true]at m1 m2
 show wpAny _ _ (field (.ref z) 2 >>= _) _ _ _
 refine wpAny_bind (wpAny_field Z rfl (x:= .bool false) rfl ?_)
 show wpAny _ _ (field (.ref z) 3 >>= _) _ _ _
 refine wpAny_bind (wpAny_field Z rfl (x:= .ref ti) rfl ?_)
 refine wpAny_bind (wpAny_seqItems pI rfl ?_)
 show wpAny _ _ (Builtin.SmallTypes.ownedTupleIsFree (.ref z) >>= _) _ _ _
 refine wpAny_bind ?_
 unfold Builtin.SmallTypes.ownedTupleIsFree
 refine wpAny_bind (wpAny_field Z rfl (x:= .none) rfl (wpAny_pure ?_))
 simp only[if_true]
 refine wpAny_bind (wpAny_rule ?_)
 refine wpAny_bind (wpAny_field Z rfl (x:= .ref to) rfl ?_)
 refine wpAny_bind (wpAny_setField_rec Z (by simp) fun k1 Z1 b1=>?_)
 replace Z1:IsZip k1 z ti to .ellipsis:=Z1
 refine wpAny_bind ?_
 simp only[List.zipIdx_cons,List.zipIdx_nil,List.forIn_cons,List.forIn_nil]
 refine wpAny_bind (wpAny_bind (wpAny_onRaise ?_))
 show wpAny _ _ (Builtin.SmallTypes.nextOf (.ref t1) >>= _) _ _ _
 have j1a:J1 n k1:=S1.ext j1 b1.extBut (Ne.symm n3) (Ne.symm m1.1)
 cases ex:us[n]? with
 |none=>
  refine wpAny_bind (S1.en n _ _ _ _ hh j1a ex fun k2 e b2 hx=>?_)
  obtain⟨oe,he1,he2⟩:=hx
  have Z2:IsZip k2 z ti to .ellipsis:=b2 _ _ (Ne.symm n3) Z1
  have hez:e≠z:=fun c=>by subst c;rw[Z2]at he1;cases he1;simp at he2
  refine wpAny_setField_rec Z2 (by simp) fun k3 _ b3=>q k3 e (fun c o c1 _ c3 _ f=>b3.extBut _ _ c1 (b2 _ _ c3 (b1.extBut _ _ c1 f))) ⟨oe,b3.extBut _ _ hez he1,he2⟩
 |some x=>
  have ey:vs[n]?=none:=by
   rcases he with h|h
   · rw[ex]at h;cases h
   · exact h
  refine wpAny_bind (S1.nx n _ _ _ _ x j1a ex fun k2 j1b b2=>wpAny_pure ?_)
  have pO2:IsPair k2 to a b:=b2.extBut _ _ n8 (b1.extBut _ _ n2 pO)
  refine wpAny_bind (wpAny_seqItems pO2 rfl ?_)
  refine wpAny_bind (wpAny_updateSeq_pair pO2 fun k3 pO3 b3=>?_)
  refine wpAny_bind (wpAny_letGo (wpAny_pure ?_))
  refine wpAny_bind (wpAny_bind (wpAny_onRaise ?_))
  show wpAny _ _ (Builtin.SmallTypes.nextOf (.ref t2) >>= _) _ _ _
  have j2c:J2 n k3:=S2.ext (S2.ext (S2.ext j2 b1.extBut (Ne.symm n4) (Ne.symm m2.1)) b2.extBut n10 (Ne.symm m2.2.2.2.1)) b3.extBut n9 (Ne.symm m2.2.2.1)
  refine wpAny_bind (S2.en n _ _ _ _ hh j2c ey fun k4 e b4 hx=>?_)
  obtain⟨oe,he1,he2⟩:=hx
  have Z4:IsZip k4 z ti to .ellipsis:=b4 _ _ (Ne.symm n4) (b3.extBut _ _ (Ne.symm n2) (b2.extBut _ _ (Ne.symm n3) Z1))
  have hez:e≠z:=fun c=>by subst c;rw[Z4]at he1;cases he1;simp at he2
  refine wpAny_setField_rec Z4 (by simp) fun k5 _ b5=>q k5 e (fun c o c1 c2 c3 c4 f=>b5.extBut _ _ c1 (b4 _ _ c4 (b3.extBut _ _ c2 (b2.extBut _ _ c3 (b1.extBut _ _ c1 f))))) ⟨oe,b5.extBut _ _ hez he1,he2⟩
end
end
end L3
namespace L3
open PySem L2
open PySem.Spec hiding items?
open PyProof.Rows hiding St
theorem FI{X:Cx}{pins:List (Addr×Obj)}{σ:L2.St}{H:Hp}{s:Shared}{g:Heap}{tk:Nat}{fp:List Addr}{T:Addr}{xs:List V}(I:Inv X pins σ H s)(hf:∀b∈fp,lb X pins H b)
 (k:∀b o,b∉fp→s.heap.get? b=some o→g.get? b=some o) (hT:s.heap.objs.size≤T) (new:dO X.prog X.w (upd H T (.tup xs)) g T (.tup xs)):Inv X pins σ (upd H T (.tup xs)) {s with heap:=g,toks:=tk}:=by
 have hn:H T=none:=I.aM.fresh hT
 have nfp:∀b u,H b=some u→b∉fp:=fun b u e z=>by rw[(hf b z).1]at e;cases e
 have nT:∀b u,H b=some u→b≠T:=fun b u e=>dQ e hn
 refine I.step (g':=s.gens) (d':=s.drawn) (ch:=fp) (fun b hb=>?_) (fun b o _ _ hc e _=>k b o hc e) (fun b o _ _ hc e _=>⟨o.slots,k b o hc e⟩) (fun b o _ e n=>?_) (fun b o hc e=>⟨o,k b o hc e⟩)
  (fun b ys e=>by rw[aP (nT b _ e)];exact e) (fun b o u e=>by rw[aP (nT b _ e)];exact e) (fun b ps e=>⟨#[],by rw[aP (nT b _ e),e];simp⟩) (fun m hm=>?_) (fun b u e=>?_) I.bare
 · obtain⟨f0,f1,f2,f3,f4,f5⟩:=hf b hb
   exact⟨f3,f1,f4,f5⟩
 · rw[aP (Nat.ne_of_lt (Nat.lt_of_lt_of_le (Heap.lt_size e) hT))];exact n
 · obtain⟨o,es,ep,ho,r⟩:=hm
   exact⟨o,es,ep,k _ o (fun z=>(hf _ z).2.1 rfl) ho,r⟩
 · by_cases hb:b=T
   · subst hb;rw[aY]at e;cases e;exact new
   · rw[aP hb]at e
     refine(I.aM b u e).ou (fun c v hc q=>k c v ?_ q) (fun c q=>by rw[aP (nT c _ q)];exact q) fun c ys q=>by rw[aP (nT c _ q)];exact q
     rcases hc with z|z
     · rw[z];exact nfp b u e
     · exact nfp c _ z
theorem FN{X:Cx}{pins:List (Addr×Obj)}{σ:L2.St}{H:Hp}{s:Shared}{g:Heap}{tk:Nat}{fp:List Addr}(I:Inv X pins σ H s)(hf:∀b∈fp,lb X pins H b)
 (k:∀b o,b∉fp→s.heap.get? b=some o→g.get? b=some o):Inv X pins σ H {s with heap:=g,toks:=tk}:=by
 have nfp:∀b u,H b=some u→b∉fp:=fun b u e z=>by rw[(hf b z).1]at e;cases e
 refine I.step (g':=s.gens) (d':=s.drawn) (ch:=fp) (fun b hb=>?_) (fun b o _ _ hc e _=>k b o hc e) (fun b o _ _ hc e _=>⟨o.slots,k b o hc e⟩) (fun b o _ e n=>n) (fun b o hc e=>⟨o,k b o hc e⟩)
  (fun b ys e=>e) (fun b o u e=>e) (fun b ps e=>⟨#[],by rw[e];simp⟩) (fun m hm=>?_) (fun b u e=>?_) I.bare
 · obtain⟨f0,f1,f2,f3,f4,f5⟩:=hf b hb
   exact⟨f3,f1,f4,f5⟩
 · obtain⟨o,es,ep,ho,r⟩:=hm
   exact⟨o,es,ep,k _ o (fun z=>(hf _ z).2.1 rfl) ho,r⟩
 · refine(I.aM b u e).ou (fun c v hc q=>k c v ?_ q) (fun c q=>q) fun c ys q=>q
   rcases hc with z|z
   · rw[z];exact nfp b u e
   · exact nfp c _ z
inductive SK where
 |l|t
noncomputable def oP(k:SK)(K:PySem.W.Frag)(H:Hp)(a:Addr)(xs:List V):Prop:=match k with
 | .l=>mr K H a xs
 | .t=>jj K H a xs
noncomputable def pV(k:SK)(t a:Addr)(n:Nat)(g:Heap):Prop:=match k with
 | .l=>g.IsListIter t a n
 | .t=>g.IsTupleIter t a n
noncomputable def mE(k:SK)(g:Heap)(a:Addr)(us:Array Value):Prop:=match k with
 | .l=>g.IsList a us
 | .t=>g.IsTuple a us
noncomputable def wK(k:SK)(a:Addr):Obj:=match k with
 | .l=>{cls:= .type "list_iterator",data:= .fields #[.ref a,.int 0 0]}
 | .t=>{cls:= .type "tuple_iterator",data:= .fields #[.ref a,.int 0 0]}
theorem mS{P:Program}{w:World}(k:SK)(t a:Addr)(hne:a≠t)(us:Array Value):Src P w t a (fun n g=>pV k t a n g∧mE k g a us) us:=by
 cases k
 · exact src_list t a hne us
 · exact Hy t a hne us
theorem kE{X:Cx}{pins:List (Addr×Obj)}{σ:L2.St}{H:Hp}{s:Shared}{k:SK}{a:Addr}{xs:List V}(I:Inv X pins σ H s)(h:oP k X.K H a xs):∃its:List Value,Vals xs its∧mE k s.heap a its.toArray:=by
 cases k
 · obtain⟨its,rv,p,_⟩:=I.list h
   exact⟨its,rv,p.isList⟩
 · obtain⟨its,rv,p,_⟩:=I.tuple h
   exact⟨its,rv,p⟩
theorem uN{X:Cx}{pins:List (Addr×Obj)}{σ:L2.St}{H:Hp}{s:Shared}{k:SK}{a:Addr}{xs ys:List V}(I:Inv X pins σ H s)(h:oP k X.K H a xs)(h':oP k X.K H a ys):xs=ys:=by
 cases k
 · exact I.w6 h h'
 · exact I.vd h h'
theorem By{P:Program}{w:World}{A:Around}{s:Shared}{E:Value→Shared→Prop}{k:SK}{a:Addr}{us:Array Value}{Q:Value→Shared→Prop}(h:mE k s.heap a us)(q:Q (.ref s.heap.objs.size) {s with heap:=s.heap.push (wK k a)}):wpAny (model P w) A (pyIter (.ref a)) Q E s:=by
 cases k
 · exact wpAny_pyIter_list h q
 · exact wpAny_pyIter_tuple h q
theorem mE.push{k:SK}{g:Heap}{a:Addr}{us:Array Value}(h:mE k g a us)(o:Obj):mE k (g.push o) a us:=by
 cases k
 · obtain⟨o',e,r⟩:=h;exact⟨o',Heap.get?_push_of_some _ e,r⟩
 · obtain⟨o',e,r⟩:=h;exact⟨o',Heap.get?_push_of_some _ e,r⟩
theorem mE.some{k:SK}{g:Heap}{a:Addr}{us:Array Value}(h:mE k g a us):∃o,g.get? a=Option.some o:=by
 cases k
 · obtain⟨o',e,r⟩:=h;exact⟨o',e⟩
 · obtain⟨o',e,r⟩:=h;exact⟨o',e⟩
theorem zk{k:SK}{g h:Heap}{t a:Addr}(e:g.get? t=Option.some (wK k a)):pV k t a 0 g:=by
 cases k
 · exact⟨_,e,rfl,rfl⟩
 · exact⟨_,e,rfl,rfl⟩
theorem oH{k:SK}{t a:Addr}{n:Nat}{g g':Heap}(h:pV k t a n g)(kp:∀o,g.get? t=Option.some o→g'.get? t=Option.some o):pV k t a n g':=by
 cases k
 · obtain⟨o,e,r⟩:=h;exact⟨o,kp o e,r⟩
 · obtain⟨o,e,r⟩:=h;exact⟨o,kp o e,r⟩
theorem nj{k:SK}{t a:Addr}{n:Nat}{g:Heap}(h:pV k t a n g):∃o,g.get? t=Option.some o∧∀v,o.data≠ .cell v:=by
 cases k
 · obtain⟨o,e,c,d⟩:=h;exact⟨o,e,fun v z=>by rw[d]at z;cases z⟩
 · obtain⟨o,e,c,d⟩:=h;exact⟨o,e,fun v z=>by rw[d]at z;cases z⟩
noncomputable def MP(K:PySem.W.Frag)(k1 k2:SK)(a1 a2:Addr):It:=
 ⟨fun i H=>∃xs ys x y,oP k1 K H a1 xs∧oP k2 K H a2 ys∧xs[i]?=some x∧ys[i]?=some y,
  fun i H v H'=>∃T x y,H T=none∧v= .ref T∧H'=upd H T (.tup [x,y])∧(∀xs,oP k1 K H a1 xs→xs[i]?=some x)∧∀ys,oP k2 K H a2 ys→ys[i]?=some y,
  fun i H=>∃xs ys,oP k1 K H a1 xs∧oP k2 K H a2 ys∧(xs.length≤i∨ys.length≤i)⟩
noncomputable def LU(z ti to t1 t2 a1 a2:Addr)(k1 k2:SK)(i:Nat)(h:Heap):Prop:=IsZip h z ti to .none∧IsPair h ti (.ref t1) (.ref t2)∧(∃a b,IsPair h to a b)∧pV k1 t1 a1 i h∧pV k2 t2 a2 i h
theorem Eh{P:Program}{w:World}{K:PySem.W.Frag}{elts:List Expr}{kx:Nat}{pos:Pos}{z ti to t1 t2 a1 a2:Addr}(k1 k2:SK)(D:zl z ti to t1 t2 a1 a2):
 Turn P w K (.Tuple elts kx pos) (MP K k1 k2 a1 a2) [z,ti,to,t1,t2] z (LU z ti to t1 t2 a1 a2 k1 k2) where
 mem:=by simp
 obj:=fun i h st b hb=>by
  obtain⟨Z,pI,⟨a,b',pO⟩,i1,i2⟩:=st
  simp only[List.mem_cons,List.not_mem_nil,or_false]at hb
  rcases hb with rfl|rfl|rfl|rfl|rfl
  · exact⟨_,Z,fun v e=>by cases e⟩
  · exact⟨_,pI,fun v e=>by cases e⟩
  · exact⟨_,pO,fun v e=>by cases e⟩
  · exact nj i1
  · exact nj i2
 keep:=fun i h h' st k=>by
  obtain⟨Z,pI,⟨a,b',pO⟩,i1,i2⟩:=st
  exact⟨k z (by simp) _ Z,k ti (by simp) _ pI,⟨a,b',k to (by simp) _ pO⟩,oH i1 (k t1 (by simp)),oH i2 (k t2 (by simp))⟩
 item:=by
  intro X hP hw hK hc i pins s σ H E I hf st hg
  subst hP hw hK
  obtain⟨Z,pI,⟨a,b',pO⟩,i1,i2⟩:=st
  obtain⟨xs,ys,x,y,q1,q2,ex,ey⟩:=hg
  obtain⟨us,r1,l1⟩:=kE I q1
  obtain⟨vs,r2,l2⟩:=kE I q2
  obtain⟨u,eu,ru⟩:=r1.get ex
  obtain⟨v,ev,rv⟩:=r2.get ey
  have m1:=D.a1
  have m2:=D.a2
  simp only[List.mem_cons,not_or,List.not_mem_nil,not_false_eq_true,and_true]at m1 m2
  obtain⟨⟨n1,n2,n3,n4⟩,⟨n5,n6,n7⟩,⟨n8,n9⟩,n10⟩:=D.n
  have tz:s.TypeIs (.ref z) "zip":=⟨_,Z,rfl⟩
  unfold pyNext
  refine wpAny_bind (wpAny_attempt (wpAny_callSpecial?_slot (name:=Str.ofString "__next__") tz F.slot_zip_next (wpAny_call_entry F.slot_zip_next tz F.entry_zip_next (BI D (mS k1 t1 a1 m1.2.2.2.1 us.toArray) (mS k2 t2 a2 m2.2.2.2.2 vs.toArray) Z pI pO ⟨i1,l1⟩ ⟨i2,l2⟩ (x:=u) (y:=v) (by simpa using eu) (by simpa using ev) fun k Z2 pO2 j1 j2 pT szk kp=>wpAny_pure ⟨_,rfl,?_⟩) (F.args_zip_next_1 _))))
  refine wpAny_letOwnedTupleGo_zip (s:={s with heap:=k}) Z2 fun k' Z3 b3=>?_
  have hT:s.heap.objs.size≠z:=Nat.ne_of_gt (Heap.lt_size Z)
  have kp3:∀b o,b∉[z,ti,to,t1,t2]→s.heap.get? b=some o→k'.get? b=some o:=fun b o hb e=>by
   simp only[List.mem_cons,not_or,List.not_mem_nil,not_false_eq_true,and_true]at hb
   exact b3.extBut _ _ hb.1 (kp b o hb.1 hb.2.2.1 hb.2.2.2.1 hb.2.2.2.2 e)
  refine⟨.ref s.heap.objs.size,upd H s.heap.objs.size (.tup [x,y]),FI (s:=s) (tk:=s.toks) I hf kp3 (Nat.le_refl _) ?_,rfl,⟨s.heap.objs.size,x,y,I.aM.fresh (Nat.le_refl _),rfl,rfl,?_,?_⟩,?_,?_⟩
  · refine⟨Nat.le_of_ble_eq_true rfl,[u,v],.cons ru (.cons rv .nil),?_⟩
    exact⟨_,b3.extBut _ _ hT pT,rfl,_,rfl⟩
  · intro xs' q'
    rw[uN I q' q1];exact ex
  · intro ys' q'
    rw[uN I q' q2];exact ey
  · refine⟨Z3,b3.extBut _ _ n1 (kp _ _ n1 n5 n6 n7 pI),⟨_,_,b3.extBut _ _ n2 pO2⟩,oH j1.1 fun o e=>b3.extBut _ _ n3 e,oH j2.1 fun o e=>b3.extBut _ _ n4 e⟩
  · intro b hb
    have:b≠s.heap.objs.size:=by
     obtain⟨o,e,_⟩:∃o,s.heap.get? b=some o∧True:=by
      simp only[List.mem_cons,List.not_mem_nil,or_false]at hb
      rcases hb with rfl|rfl|rfl|rfl|rfl
      · exact⟨_,Z,trivial⟩
      · exact⟨_,pI,trivial⟩
      · exact⟨_,pO,trivial⟩
      · obtain⟨o,e,_⟩:=nj i1;exact⟨o,e,trivial⟩
      · obtain⟨o,e,_⟩:=nj i2;exact⟨o,e,trivial⟩
     exact Nat.ne_of_lt (Heap.lt_size e)
    rw[aP this]
    exact(hf b hb).1
 done:=by
  intro X hP hw hK hc i pins s σ H E I hf st hg
  subst hP hw hK
  obtain⟨Z,pI,⟨a,b',pO⟩,i1,i2⟩:=st
  obtain⟨xs,ys,q1,q2,he⟩:=hg
  obtain⟨us,r1,l1⟩:=kE I q1
  obtain⟨vs,r2,l2⟩:=kE I q2
  have e1:=r1.length
  have e2:=r2.length
  have m1:=D.a1
  have m2:=D.a2
  simp only[List.mem_cons,not_or,List.not_mem_nil,not_false_eq_true,and_true]at m1 m2
  have tz:s.TypeIs (.ref z) "zip":=⟨_,Z,rfl⟩
  unfold pyNext
  refine wpAny_bind (wpAny_attempt (wpAny_callSpecial?_slot (name:=Str.ofString "__next__") tz F.slot_zip_next (wpAny_call_entry F.slot_zip_next tz F.entry_zip_next (Dx (I.ok.hd hc) D (mS k1 t1 a1 m1.2.2.2.1 us.toArray) (mS k2 t2 a2 m2.2.2.2.2 vs.toArray) Z pI pO ⟨i1,l1⟩ ⟨i2,l2⟩ ?_ fun k e kp hx=>?_) (F.args_zip_next_1 _))))
  · rcases he with h|h
    · left;simp;omega
    · right;simp;omega
  · obtain⟨o,ho,hc2⟩:=hx
    refine wpAny_bind (wpAny_isInstance (T:="StopIteration") (b:=true) ⟨o,ho,hc2⟩ isSubtype_stop ?_)
    refine wpAny_pure ⟨rfl,FN (s:=s) (tk:=s.toks) I hf fun b o hb e=>?_⟩
    simp only[List.mem_cons,not_or,List.not_mem_nil,not_false_eq_true,and_true]at hb
    exact kp b o hb.1 hb.2.2.1 hb.2.2.2.1 hb.2.2.2.2 e
 self:=fun _ _ _ _ _ st h=>wpAny_pyIter_zip st.1 h
end L3
namespace L3
open PySem L2
open PySem.Spec hiding items?
open PyProof.Rows hiding St
noncomputable abbrev E4(h:Heap)(k1:SK)(a1:Addr):Heap:=h.push (wK k1 a1)
noncomputable abbrev E3(h:Heap)(k1 k2:SK)(a1 a2:Addr):Heap:=(E4 h k1 a1).push (wK k2 a2)
noncomputable abbrev Fw(h:Heap)(k1 k2:SK)(a1 a2:Addr):Heap:=(E3 h k1 k2 a1 a2).push {cls:= .type "tuple",data:= .seq #[.ref h.objs.size,.ref (E4 h k1 a1).objs.size]}
noncomputable abbrev EX(h:Heap)(k1 k2:SK)(a1 a2:Addr):Heap:=(Fw h k1 k2 a1 a2).push {cls:= .type "tuple",data:= .seq #[.none,.none]}
noncomputable abbrev ze(h:Heap)(k1 k2:SK)(a1 a2:Addr):Heap:=(EX h k1 k2 a1 a2).push {cls:= .type "zip",data:= .fields #[.none,.bool false,.bool false,.ref (E3 h k1 k2 a1 a2).objs.size,.ref (Fw h k1 k2 a1 a2).objs.size]}
theorem CV(k1 k2:SK)(a1 a2:Addr)(us vs:Array Value):Meets (Builtin.«zip.__new__» ⟨[.type "zip",.ref a1,.ref a2],[]⟩) (fun _ R s=>mE k1 s.heap a1 us∧mE k2 s.heap a2 vs∧
 R (.ok (.ret (.ref (EX s.heap k1 k2 a1 a2).objs.size))) {s with heap:=ze s.heap k1 k2 a1 a2}):=
 .of_wp fun P w A R s h=>by
  obtain⟨hp,g,d,tk,os⟩:=s
  obtain⟨c1,c2,h⟩:=h
  have hsub:=sub_zip
  have L1:mE k1 (Shared.heap ⟨hp,g,d,tk,os⟩) a1 us:=c1
  have L2:mE k2 (Shared.heap ⟨hp.push (wK k1 a1),g,d,tk,os⟩) a2 vs:=mE.push c2 _
  wp_walk using By L1,By L2
  exact⟨_,rfl,h⟩
theorem DQ{P:Program}{w:World}{A:Around}{s:Shared}{E:Value→Shared→Prop}{k1 k2:SK}{a1 a2:Addr}{us vs:Array Value}{Q:Value→Shared→Prop}(c1:mE k1 s.heap a1 us)(c2:mE k2 s.heap a2 vs)
 (q:∀g n,n=s.heap.objs.size→IsZip g (n+4) (n+2) (n+3) .none→IsPair g (n+2) (.ref n) (.ref (n+1))→IsPair g (n+3) .none .none→pV k1 n a1 0 g→pV k2 (n+1) a2 0 g→(∀c o,s.heap.get? c=some o→g.get? c=some o)→Q (.ref (n+4)) {s with heap:=g}):
 wpAny (model P w) A (call (.type "zip") [.ref a1,.ref a2]) Q E s:=by
 refine callType_new F.called_zip (by decide) (F.typeCall_zip_2 _ _) (F.newCall_zip_2 _ _) (fun ob=>F.args_object_init_3 ob _ _) F.entry_zip_new (CV k1 k2 a1 a2 us vs) ⟨c1,c2,?_⟩
 have y1:(E4 s.heap k1 a1).objs.size=s.heap.objs.size+1:=Heap.size_push ..
 have y2:(E3 s.heap k1 k2 a1 a2).objs.size=s.heap.objs.size+2:=by rw[Heap.size_push,y1]
 have y3:(Fw s.heap k1 k2 a1 a2).objs.size=s.heap.objs.size+3:=by rw[Heap.size_push,y2]
 have y4:(EX s.heap k1 k2 a1 a2).objs.size=s.heap.objs.size+4:=by rw[Heap.size_push,y3]
 have e5:(ze s.heap k1 k2 a1 a2).get? (EX s.heap k1 k2 a1 a2).objs.size=some _:=Heap.get?_push_size _ rfl
 have e4:(ze s.heap k1 k2 a1 a2).get? (Fw s.heap k1 k2 a1 a2).objs.size=some _:=Heap.get?_push_of_some _ (Heap.get?_push_size _ rfl)
 have e3:(ze s.heap k1 k2 a1 a2).get? (E3 s.heap k1 k2 a1 a2).objs.size=some _:=Heap.get?_push_of_some _ (Heap.get?_push_of_some _ (Heap.get?_push_size _ rfl))
 have e2:(ze s.heap k1 k2 a1 a2).get? (E4 s.heap k1 a1).objs.size=some (wK k2 a2):=Heap.get?_push_of_some _ (Heap.get?_push_of_some _ (Heap.get?_push_of_some _ (Heap.get?_push_size _ (by cases k2<;>rfl))))
 have e1:(ze s.heap k1 k2 a1 a2).get? s.heap.objs.size=some (wK k1 a1):=Heap.get?_push_of_some _ (Heap.get?_push_of_some _ (Heap.get?_push_of_some _ (Heap.get?_push_of_some _ (Heap.get?_push_size _ (by cases k1<;>rfl)))))
 show _∧_
 rw[y2,y3,y4]at e5
 rw[y1,y2]at e3
 rw[y3]at e4
 rw[y1]at e2
 rw[y4]
 exact⟨⟨_,e5,rfl⟩,q _ _ rfl e5 e3 e4 (zk (h:=s.heap) e1) (zk (h:=s.heap) e2) fun c o x=>Heap.get?_push_of_some _ (Heap.get?_push_of_some _ (Heap.get?_push_of_some _ (Heap.get?_push_of_some _ (Heap.get?_push_of_some _ x))))⟩
noncomputable def E_:D→SK
 | .tup _=> .t
 |_=> .l
noncomputable def Co(k:SK)(G:Hp)(a:Addr)(vs:List V):Prop:=match k with
 | .l=>Rd G a (.lst vs)
 | .t=>G a=some (.tup vs)
theorem jU{K:PySem.W.Frag}{k:SK}{G F H:Hp}(P:cq G F H){a:Addr}{vs:List V}(h:Co k G a vs):oP k K H a vs:=by
 cases k
 · exact .inl (gL P h)
 · exact jj.of (P.get h)
theorem nh{α:List (Option Addr)}{H:Hp}{st:ai}{d:D}{v:V}{xs:List D}(S:aX α st H)(r:Rep α H d v)(e:items? st d=some xs):∃p vs,v= .ref p∧aO α H xs vs∧Co (E_ d) H p vs:=by
 cases d<;>try(cases e;done)
 · unfold items? at e
   simp only at e
   split at e
   · rename_i ys q
     cases e
     obtain⟨a,ea,vs,h1,h2⟩:=S.hO q
     exact⟨a,vs,dw ea r,h2,Rd.of h1⟩
   · cases e
 · cases e
   unfold Rep at r
   obtain⟨a,vs,rfl,_,h1,h2⟩:=r
   exact⟨a,vs,rfl,h2,h1⟩
 · cases e
   unfold Rep at r
   obtain⟨a,vs,rfl,_,h1,h2⟩:=r
   exact⟨a,vs,rfl,h2,h1⟩
noncomputable def f_(xs ys:List D):List D:=(xs.zip ys).map fun p=> .tup [p.1,p.2]
theorem jZ{xs ys:List D}:(f_ xs ys).length=min xs.length ys.length:=by unfold f_;simp
theorem sA{xs ys:List D}{n:Nat}{d:D}(e:(f_ xs ys)[n]?=some d):∃x y,xs[n]?=some x∧ys[n]?=some y∧d= .tup [x,y]:=by
 unfold f_ at e
 rw[List.getElem?_map]at e
 cases q:(xs.zip ys)[n]? with
 |none=>rw[q]at e;cases e
 |some p=>
  rw[q]at e
  cases e
  rw[List.getElem?_zip_eq_some]at q
  exact⟨p.1,p.2,q.1,q.2,rfl⟩
theorem Ju{K:PySem.W.Frag}{k1 k2:SK}{a1 a2:Addr}{α:List (Option Addr)}{G:Hp}{ok:ai→Prop}{xs ys:List D}
 (h:∀α' G' st',Step α G α' G'→aX α' st' G'→ok st'→∃vs ws,Co k1 G' a1 vs∧Co k2 G' a2 ws∧aO α' G' xs vs∧aO α' G' ys ws):sZ (MP K k1 k2 a1 a2) α G ok (f_ xs ys) where
 stop:=fun n α' G' F' H' st' s P S o hn=>by
  obtain⟨vs,ws,h1,h2,r1,r2⟩:=h α' G' st' s S o
  rw[jZ]at hn
  refine⟨vs,ws,jU P h1,jU P h2,?_⟩
  have:=r1.length
  have:=r2.length
  omega
 go:=fun n d α' G' F' H' st' s P S o hn=>by
  obtain⟨vs,ws,h1,h2,r1,r2⟩:=h α' G' st' s S o
  obtain⟨x,y,ex,ey,rfl⟩:=sA hn
  obtain⟨v,ev,_⟩:=r1.get ex
  obtain⟨u,eu,_⟩:=r2.get ey
  exact⟨vs,ws,v,u,jU P h1,jU P h2,ev,eu⟩
 oo:=fun n d α' G' F' H' st' x H'' s P S o hn y=>by
  obtain⟨vs,ws,h1,h2,r1,r2⟩:=h α' G' st' s S o
  obtain⟨c,e,ec,ee,rfl⟩:=sA hn
  obtain⟨T,v,u,hT,rfl,rfl,y1,y2⟩:=y
  obtain⟨v',ev,rv⟩:=r1.get ec
  obtain⟨u',eu,ru⟩:=r2.get ee
  rw[y1 vs (jU P h1)]at ev
  rw[y2 ws (jU P h2)]at eu
  cases ev
  cases eu
  have hg:=(P.none hT).1
  refine⟨upd G' T (.tup [v,u]),Step.laid hg,P.laid hT,S.laid hg,?_⟩
  unfold Rep
  refine⟨T,[v,u],rfl,S.kC hg,aY,?_⟩
  unfold aO
  refine⟨v,[u],rfl,rv.step (Step.laid hg),?_⟩
  unfold aO
  exact⟨u,[],rfl,ru.step (Step.laid hg),by unfold aO;rfl⟩
noncomputable def Ef(ds:List D)(st1:ai)(K:List D→(ai→Prop)→ai→Prop):Prop:=match ds with
 | [x,y]=>(match items? st1 x,items? st1 y with
   |some xs,some ys=>K (f_ xs ys) (fun st'=>items? st' x=some xs∧items? st' y=some ys) st1
   |_,_=>False)
 |_=>False
@[irreducible] noncomputable def uz:List D→ai→(List D→(ai→Prop)→ai→Prop)→Prop:=Ef
noncomputable def oC(t:DA):DI:=fun σ st K=>t σ st fun ds st1=>uz ds st1 K
theorem GR{n a1 a2:Nat}(h1:a1<n)(h2:a2<n):zl (n+4) (n+2) (n+3) n (n+1) a1 a2:=by
 have e0:([n+4,n+2,n+3,n,n+1]:List Nat).Nodup:=by
  simp only[List.nodup_cons,List.mem_cons,not_or,List.not_mem_nil,not_false_eq_true,and_true,List.nodup_nil]
  omega
 have e1:∀a:Nat,a<n→a∉([n+4,n+2,n+3,n,n+1]:List Nat):=fun a ha=>by
  simp only[List.mem_cons,not_or,List.not_mem_nil,not_false_eq_true,and_true]
  omega
 exact⟨e0,e1 a1 h1,e1 a2 h2⟩
theorem Kt{X:Cx}{a b:Expr}{elts:List Expr}{kx:Nat}{tpos p pos:Pos}{t:DA}(hg:Gl X "zip")(hm:X.mg "zip"=none)(ha:PA X [a,b] (LA t))(hs:starEach [a,b] X.env=[(false,eval a X.env),(false,eval b X.env)])(hs2:starEach [b] X.env=[(false,eval b X.env)]):
 PI X (.Tuple elts kx tpos) (.Call (.Name "zip" p) [a,b] [] pos) (LI (oC t)):=by
 intro pins s σ H R I h
 obtain⟨α,σd,st,K,G,F,P,RS,S,t,k⟩:=h
 refine Call_ (kG I hg hm boot_zip (PyProof.Rows.callWith_type1 (cv (ha pos pins s σ H (fun vs H1=>∃ds α1 G1 st1,Step α G α1 G1∧cq G1 F H1∧aX α1 st1 G1∧aO α1 G1 ds vs∧uz ds st1 K) I ⟨α,σd,st,_,G,F,P,RS,S,t,fun ds st1 q α1 G1 H1 vs s1 P1 S1 r1=>⟨ds,α1,G1,st1,s1,P1,S1,r1,q⟩⟩) fun us s1 ⟨vs,H1,I1,rv,ds,α1,G1,st1,w1,P1,S1,r1,q⟩=>?_) (by rw[hs,hs2]) (by rw[hs2];rfl)))
 unfold uz Ef at q
 split at q
 · rename_i x y
   split at q
   · rename_i xs ys ex ey
     obtain⟨v1,v2,rfl,q1,q2⟩:=mR r1 rfl
     obtain⟨p1,vs1,rfl,g1,c1⟩:=nh S1 q1 ex
     obtain⟨p2,vs2,rfl,g2,c2⟩:=nh S1 q2 ey
     obtain⟨u1,u2,rfl,ru1,ru2⟩:=vals2 rv
     cases ru1
     cases ru2
     obtain⟨its1,_,l1⟩:=kE I1 (jU P1 c1)
     obtain⟨pv,_,l2⟩:=kE I1 (jU P1 c2)
     refine DQ l1 l2 fun g n hn Z pI pO i1 i2 kp=>?_
     obtain⟨o1,eo1⟩:=l1.some
     obtain⟨o2,eo2⟩:=l2.some
     refine wpAny_pyIter_zip (s:={s1 with heap:=g}) Z ?_
     refine⟨n+4,[n+4,n+2,n+3,n,n+1],_,_,H1,rfl,I1.kept (t':=s1.toks) kp,Eh (E_ x) (E_ y) (GR (by rw[hn];exact Heap.lt_size eo1) (by rw[hn];exact Heap.lt_size eo2)),⟨Z,pI,⟨_,_,pO⟩,i1,i2⟩,fun b hb=>?_,?_⟩
     · have hb':s1.heap.objs.size≤b:=by
        simp only[List.mem_cons,List.not_mem_nil,or_false]at hb
        rcases hb with rfl|rfl|rfl|rfl|rfl<;>(rw[←hn];first|exact Nat.le_refl _|exact Nat.le_add_right _ _)
       exact I1.sQ hb' (I1.aM.fresh hb')
     · refine k _ _ st1 q _ α1 G1 H1 w1 P1 S1 (Ju fun α' G' st' s' S' o=>?_)
       obtain⟨p1',ws1,e1,f1,d1⟩:=nh S' (q1.step s') o.1
       obtain⟨p2',ws2,e2,f2,d2⟩:=nh S' (q2.step s') o.2
       cases e1
       cases e2
       exact⟨ws1,ws2,d1,d2,f1,f2⟩
   · exact q.elim
 · exact q.elim
theorem mw{st:ai}{x y:D}{xs ys:List D}{K:List D→(ai→Prop)→ai→Prop}(ex:items? st x=some xs)(ey:items? st y=some ys)(k:∀ok:ai→Prop,(∀st',items? st' x=some xs→items? st' y=some ys→ok st')→K (f_ xs ys) ok st):uz [x,y] st K:=by
 unfold uz Ef
 simp only[ex,ey]
 exact k _ fun st' h1 h2=>⟨h1,h2⟩
theorem nZ{X:Cx}{a b:Expr}{elts:List Expr}{kx:Nat}{tpos p pos:Pos}{ar:DA}(hg:Gl X "zip")(hm:X.mg "zip"=none)(ha:JA X [a,b] ar)(hs:notStar a=true:=by rfl)(hs2:notStar b=true:=by rfl):JI X (.Tuple elts kx tpos) (.Call (.Name "zip" p) [a,b] [] pos) (oC ar):=by
 unfold JI;unfold JA at ha;exact Kt hg hm ha (by rw[cG hs,cG hs2];rfl) (cG hs2)
end L3
namespace L3
open PySem L2
open PySem.Spec hiding items?
open PyProof.Rows hiding St
section
variable {X:Cx}
end
end L3
namespace L3
open PySem L2
open PySem.Spec hiding items?
open PyProof.Rows hiding St
section
variable {X:Cx}{pos:Pos}
theorem Fl{α:List (Option Addr)}{H:Hp}{ds:List D}{xs:List V}{d e f:D}(r:aO α H ds xs)(q:ds=[d,e,f]):∃v u t,xs=[v,u,t]∧Rep α H d v∧Rep α H e u∧Rep α H f t:=by
 subst q
 unfold aO at r
 obtain⟨v,q,rfl,h1,h2⟩:=r
 obtain⟨u,t,rfl,h3,h4⟩:=mR h2 rfl
 exact⟨v,u,t,rfl,h1,h3,h4⟩
end
end L3
namespace L3
open PySem L2 PySem.SeqAt
open PySem.Spec hiding items?
open PyProof.Rows hiding St
section
variable {X:Cx}{pins:List (Addr×Obj)}{σ:L2.St}{H:Hp}{s:Shared}{α:List (Option Addr)}
theorem zH{A:Around}{d e:D}{x y:V}{u v:Value}(hd:vG d=true)(he:vG e=true)(rd:Rep α H d x)(re:Rep α H e y)(rx:RelV x u)(ry:RelV y v):RcNeAt A s u v (!cV d e):=by
 cases d<;>cases e<;>try(first|(cases hd;done)|(cases he;done))
 all_goals(unfold Rep at rd re;subst rd re)
 all_goals(first|(obtain⟨t,rfl⟩:=rx;obtain⟨t',rfl⟩:=ry)|(obtain⟨t,rfl⟩:=rx;cases ry)|(cases rx;obtain⟨t,rfl⟩:=ry)|(cases rx;cases ry))
 all_goals unfold cV
 · exact RcNeAt.none_none
 · exact RcNeAt.none_bool _
 · exact RcNeAt.none_int _ _
 · exact RcNeAt.none_str _ _
 · exact RcNeAt.bool_none _
 · exact RcNeAt.bool_bool _ _
 · exact RcNeAt.bool_int _ _ _
 · exact RcNeAt.bool_str _ _ _
 · exact RcNeAt.int_none _ _
 · exact RcNeAt.int_bool _ _ _
 · exact RcNeAt.int_int _ _ _ _
 · exact RcNeAt.int_str _ _ _ _
 · exact RcNeAt.str_none _ _
 · exact RcNeAt.str_bool _ _ _
 · exact RcNeAt.str_int _ _ _ _
 · exact RcNeAt.str_str _ _ _ _
theorem vn(I:Inv X pins σ H s){A:Around}{xs:List D}{e:D}{x y:V}{u v:Value}(he:vG e=true)(rd:Rep α H (.lst xs) x)(re:Rep α H e y)(rx:RelV x u)(ry:RelV y v)(hu:A.units<cLine):
 RcNeAt A s u v (!cV (.lst xs) e)∧RcNeAt A s v u (!cV e (.lst xs)):=by
 obtain⟨a,vs,its,rfl,_,_,hl⟩:=lst_is I rd rx
 cases e<;>try(cases he;done)
 all_goals(unfold Rep at re;subst re)
 all_goals(first|(obtain⟨t,rfl⟩:=ry)|(cases ry))
 all_goals unfold cV
 · exact⟨RcNeAt.list_none hl hu,RcNeAt.none_list hl hu⟩
 · exact⟨RcNeAt.list_bool _ hl hu,RcNeAt.bool_list _ hl hu⟩
 · exact⟨RcNeAt.list_int _ _ hl hu,RcNeAt.int_list _ _ hl hu⟩
 · exact⟨RcNeAt.list_str _ _ hl hu,RcNeAt.str_list _ _ hl hu⟩
theorem vB(I:Inv X pins σ H s){A:Around}{xs:List D}{e:D}{x y:V}{u v:Value}(he:vG e=true)(rd:Rep α H (.tup xs) x)(re:Rep α H e y)(rx:RelV x u)(ry:RelV y v)(hu:A.units<cLine):
 RcNeAt A s u v (!cV (.tup xs) e)∧RcNeAt A s v u (!cV e (.tup xs)):=by
 obtain⟨a,vs,its,rfl,_,_,hl⟩:=tup_is I rd rx
 cases e<;>try(cases he;done)
 all_goals(unfold Rep at re;subst re)
 all_goals(first|(obtain⟨t,rfl⟩:=ry)|(cases ry))
 all_goals unfold cV
 · exact⟨RcNeAt.tuple_none hl hu,RcNeAt.none_tuple hl hu⟩
 · exact⟨RcNeAt.tuple_bool _ hl hu,RcNeAt.bool_tuple _ hl hu⟩
 · exact⟨RcNeAt.tuple_int _ _ hl hu,RcNeAt.int_tuple _ _ hl hu⟩
 · exact⟨RcNeAt.tuple_str _ _ hl hu,RcNeAt.str_tuple _ _ hl hu⟩
theorem KU(I:Inv X pins σ H s)(n:Nat)(A:Around)(d e:D)(x y:V)(u v:Value)(hd:pl n d=true)(he:pl n e=true)(rd:Rep α H d x)(re:Rep α H e y)(rx:RelV x u)(ry:RelV y v)(hu:A.units+n<cLine):RcNeAt A s u v (!cV d e):=by
 cases n with
 |zero=>
  refine zH ?_ ?_ rd re rx ry
  · cases d<;>first|rfl|(cases hd)
  · cases e<;>first|rfl|(cases he)
 |succ n=>
  have hu0:A.units<cLine:=by omega
  have hin:A.in1.units+n<cLine:=by rw[Around.in1_units];omega
  cases d<;>try(cases hd;done)
  case lst xs=>
   cases e<;>try(cases he;done)
   case lst ys=>
    obtain⟨a,vs,its,rfl,r1,v1,l1⟩:=lst_is I rd rx
    obtain⟨b,ws,jts,rfl,r2,v2,l2⟩:=lst_is I re ry
    have e1:=r1.length
    have e2:=v1.length
    have e3:=r2.length
    have e4:=v2.length
    unfold cV
    by_cases hlen:xs.length=ys.length
    · rw[nL hlen]
      have hsz:its.toArray.size=jts.toArray.size:=by simp only[List.size_toArray];omega
      have hx:xs.length=its.toArray.size:=by simp only[List.size_toArray];omega
      rw[hx]
      refine RcNeAt.lists l1 l2 hsz hu0 fun j h1 h2=>?_
      obtain⟨p,_,q1,q2⟩:=j_ r1 v1 j (by simpa using h1)
      obtain⟨p',_,q1',q2'⟩:=j_ r2 v2 j (by simpa using h2)
      exact(z_ I n A.in1 _ _ p p' _ _ (jo (by unfold pl at hd;exact hd) j) (jo (by unfold pl at he;exact he) j) q1 q1' (by simpa using q2) (by simpa using q2') hin).2
    · rw[nA hlen]
      exact RcNeAt.lists_lengths l1 l2 (by simp only[List.size_toArray,bne_iff_ne,ne_eq];omega) hu0
   case tup ys=>
    obtain⟨a,vs,its,rfl,r1,v1,l1⟩:=lst_is I rd rx
    obtain⟨b,ws,jts,rfl,r2,v2,l2⟩:=tup_is I re ry
    unfold cV
    exact RcNeAt.list_tuple l1 l2 hu0
   all_goals exact(vn I rfl rd re rx ry hu0).1
  case tup xs=>
   cases e<;>try(cases he;done)
   case tup ys=>
    obtain⟨a,vs,its,rfl,r1,v1,l1⟩:=tup_is I rd rx
    obtain⟨b,ws,jts,rfl,r2,v2,l2⟩:=tup_is I re ry
    have e1:=r1.length
    have e2:=v1.length
    have e3:=r2.length
    have e4:=v2.length
    unfold cV
    have key:=RcNeAt.tuples (e:=fun j=>cV (xs.getD j .aH) (ys.getD j .aH)) l1 l2 hu0 fun j h1 h2=>by
     obtain⟨p,_,q1,q2⟩:=j_ r1 v1 j (by simpa using h1)
     obtain⟨p',_,q1',q2'⟩:=j_ r2 v2 j (by simpa using h2)
     exact(z_ I n A.in1 _ _ p p' _ _ (jo (by unfold pl at hd;exact hd) j) (jo (by unfold pl at he;exact he) j) q1 q1' (by simpa using q2) (by simpa using q2') hin).2
    by_cases hlen:xs.length=ys.length
    · rw[nL hlen]
      have hsz:its.toArray.size=jts.toArray.size:=by simp only[List.size_toArray];omega
      have hx:xs.length=its.toArray.size:=by simp only[List.size_toArray];omega
      rw[hsz,Nat.min_self,beq_self_eq_true,Bool.and_true,←hsz,←hx]at key
      exact key
    · rw[nA hlen]
      have hne:(its.toArray.size==jts.toArray.size)=false:=by simp only[List.size_toArray,beq_eq_false_iff_ne,ne_eq];omega
      rw[hne,Bool.and_false]at key
      exact key
   case lst ys=>
    obtain⟨a,vs,its,rfl,r1,v1,l1⟩:=tup_is I rd rx
    obtain⟨b,ws,jts,rfl,r2,v2,l2⟩:=lst_is I re ry
    unfold cV
    exact RcNeAt.tuple_list l1 l2 hu0
   all_goals exact(vB I rfl rd re rx ry hu0).1
  all_goals
   cases e<;>try(cases he;done)
   case lst ys=>exact(vn I rfl re rd ry rx hu0).2
   case tup ys=>exact(vB I rfl re rd ry rx hu0).2
   all_goals exact zH rfl rfl rd re rx ry
noncomputable def J5:dJ:=fun x y st K=>pl 40 x=true∧pl 40 y=true∧K (.bl (!cV x y)) st
theorem LM{k:Nat}(hr:dg k X.A):cx X (compareOp .NotEq) (LR J5):=fun pins s σ H x y v u Q I rx ry ⟨α,d,e,st,K,G,F',P,r1,r2,S,q,k⟩=>by
 have hu:=hr.units
 exact KU I 40 X.A d e x y v u q.1 q.2.1 (r1.mono P.same) (r2.mono P.same) rx ry (by omega) _ _ _ _ ⟨.bl (!cV d e),H,I,rfl,k.here P q.2.2 S (by unfold Rep;rfl)⟩
@[irreducible] noncomputable def mK:dJ:=J5
theorem pK{k:Nat}(hr:dg k X.A):cx X (compareOp .NotEq) (LR mK):=by unfold mK;exact LM hr
end
theorem Iw{st:ai}{K:DK}{d e:D}(h1:pl 40 d=true)(h2:pl 40 e=true)(k:K (.bl (!cV d e)) st):mK d e st K:=by unfold mK;exact⟨h1,h2,k⟩
theorem j8{st:ai}{K:DK}{d:D}(h:pl 40 d=true)(k:K (.bl false) st):mK d d st K:=Iw h h (by rw[sS 40 d h];exact k)
theorem ql{st:ai}{n:Nat}{xs:List D}(h:items? st (.ref n)=some xs):st[n]?=some (.lst xs):=by
 unfold items? at h
 simp only at h
 split at h
 · rename_i q;cases h;exact q
 · cases h
theorem FW{st:ai}{d:D}{xs:List D}{K:List D→(ai→Prop)→ai→Prop}(h:items? st d=some xs)(k:∀ok:ai→Prop,(∀st',items? st' d=some xs→ok st')→K xs ok st):oE d st K:=by
 cases d with
 |lst ys=>cases h;exact va (k _ fun _ _=>trivial)
 |tup ys=>cases h;exact kj (k _ fun _ _=>trivial)
 |ref n=>
  have e:=ql h
  unfold oE uB
  simp only[e]
  exact k _ fun st' h'=>ql h'
 |_=>cases h
end L3
namespace L3
open PySem L2
open PySem.Spec hiding items?
open PyProof.Rows hiding St
section
variable {X:Cx}
noncomputable def EZ:dJ:=fun x y st K=>match x,y with
 | .lst xs,.int k=>(-(2^63)≤k∧k<2^63∧xs.length*k.toNat≤sizeLine)∧K (.ref st.length) (st++[.lst (List.replicate k.toNat xs).flatten])
 |_,_=>False
theorem Jw:cx X (binaryOp .Mult) (LR EZ):=fun pins s σ H x y v u Q I rx ry ⟨α,d,e,st,K,G,F',P,r1,r2,S,q,k⟩=>by
 cases d<;>cases e<;>try exact q.elim
 unfold Rep at r1 r2
 obtain⟨a,vs,rfl,na,ha,ra⟩:=r1
 refine zj pins s σ H _ _ v u Q I rx ry ⟨a,_,vs,rfl,r2,gL P ha,q.1.1,q.1.2.1,by rw[←ra.length];exact q.1.2.2,fun p hp=>?_⟩
 exact k.new P q.2 S (aZ.mpr (lj (aZ.mp ra) _)) hp
@[irreducible] noncomputable def rm:dJ:=EZ
theorem Ct:cx X (binaryOp .Mult) (LR rm):=by unfold rm;exact Jw
end
theorem zB{st:ai}{K:DK}{xs:List D}{i:Int}(h: -(2^63)≤i∧i<2^63∧xs.length*i.toNat≤sizeLine)(k:K (.ref st.length) (st++[.lst (List.replicate i.toNat xs).flatten])):rm (.lst xs) (.int i) st K:=by unfold rm;exact⟨h,k⟩
theorem CB{n:Nat}{d:D}(h:d∈dS 0 n):∃i:Nat,i<n∧d= .int (i:Int):=by
 unfold dS at h
 obtain⟨i,hi,rfl⟩:=List.mem_map.mp h
 rw[List.mem_range]at hi
 exact⟨i,hi,by rw[Int.zero_add]⟩
theorem Cn{f:Nat→D}(n:Nat):(dS 0 n).map (fun d=>match d with| .int i=>f i.toNat|_=> .aH)=(List.range n).map f:=by
 unfold dS
 rw[List.map_map]
 refine List.map_congr_left fun i _=>?_
 show f ((0:Int)+(i:Int)).toNat=f i
 have:((0:Int)+(i:Int)).toNat=i:=by omega
 rw[this]
theorem o4{tg:fz}{te:DE}{σc:bN}{st:ai}{K:List D→ai→Prop}(f:Nat→D)(n:Nat)(hx:∀i:Nat,i<n→∀K',K' (f i) st→∃σ2,tg (.int (i:Int)) σc=some σ2∧te σ2 st K')(k:K ((List.range n).map f) st):dW tg cT te (fun _=>True) σc (dS 0 n) [] st K:=by
 refine comp_map (g:=fun d=>match d with| .int i=>f i.toNat|_=> .aH) trivial _ (fun d hd K' q=>?_) (by rw[Cn];exact k)
 obtain⟨i,hi,rfl⟩:=CB hd
 exact hx i hi K' q
theorem jf{tg:fz}{body:DS}{E:kv}(n:Nat)(I:Nat→bN→ai→Prop)(hend:∀σ st,I n σ st→E.nx σ st)
 (hstep:∀(j:Nat) σ st (rest:List D),j<n→I j σ st→(∀σ' st',I (j+1) σ' st'→fD tg body (fun _=>True) E rest σ' st')→∃σ1,tg (.int (j:Int)) σ=some σ1∧body {E with nx:=fD tg body (fun _=>True) E rest,ct:=fD tg body (fun _=>True) E rest,bk:=E.nx} σ1 st)
 {σ:bN} {st:ai} (h0:I 0 σ st):fD tg body (fun _=>True) E (dS 0 n) σ st:=by
 refine gO (fun rest σ st=>∃j:Nat,j≤n∧rest=(List.range (n-j)).map (fun i=>D.int (((j+i:Nat):Int)))∧I j σ st) ?_ ?_ _ _ _ ⟨0,Nat.zero_le _,by unfold dS;simp,h0⟩
 · rintro σ st ⟨j,hj,hr,hI⟩
   have:n-j=0:=by
    cases q:n-j with
    |zero=>rfl
    |succ m=>rw[q,List.range_succ_eq_map]at hr;cases hr
   have hjn:j=n:=by omega
   subst hjn
   exact⟨trivial,hend σ st hI⟩
 · rintro d rest σ st ⟨j,hj,hr,hI⟩ next
   cases q:n-j with
   |zero=>rw[q]at hr;cases hr
   |succ m=>
    rw[q,List.range_succ_eq_map,List.map_cons,List.map_map]at hr
    simp only[List.cons.injEq]at hr
    obtain⟨rfl,hrest⟩:=hr
    refine⟨trivial,hstep j σ st rest (by omega) hI fun σ' st' h'=>next σ' st' ⟨j+1,by omega,?_,h'⟩⟩
    have:n-(j+1)=m:=by omega
    rw[this,hrest]
    refine List.map_congr_left fun i _=>?_
    show D.int (((j+(i+1):Nat):Int))=D.int (((j+1+i:Nat):Int))
    congr 2;omega
end L3
namespace L3
open PySem L2
open PySem.Spec hiding items?
open PyProof.Rows hiding St
noncomputable abbrev DM:=Nat→List D→ai→DK→Prop
noncomputable def LiftM(r:DM)(rM:V→List V→Hp→VK→Prop):Prop:=∀(α:List (Option Addr)) (G F H:Hp) (st:ai) (K:DK) (Q:VK) (n:Nat) (a:Addr) (ds:List D) (ws:List V),cq G F H→aX α st G→α[n]?=some (some a)→aO α G ds ws→r n ds st K→LK α G F K Q→rM (.ref a) ws H Q
@[irreducible] noncomputable def pG(r:DM)(to:DE)(ta:DA):DE:=fun σ st K=>to σ st fun x st1=>match x with
 | .ref n=>(match st1[n]? with|some (.lst _)=>ta σ st1 fun ds st2=>(∃xs,st2[n]?=some (.lst xs))∧r n ds st2 K|_=>False)
 |_=>False
section
variable {X:Cx}
theorem LE.M9{r:DM}{rM:V→List V→Hp→VK→Prop}(L:LiftM r rM){to:DE}{ta:DA}{σ:L2.St}{H:Hp}{Q:VK}(h:LE (pG r to ta) σ H Q):KL X.K "list" rM (LE to) (LA ta) σ H Q:=by
 obtain⟨α,σd,st,K,G,F,P,R,S,t,k⟩:=h
 unfold pG at t
 refine⟨α,σd,st,_,G,F,P,R,S,t,fun x st1 q α1 G1 H1 v s1 P1 S1 r1=>?_⟩
 cases x<;>try exact q.elim
 rename_i n
 simp only at q
 split at q
 · rename_i ys e
   obtain⟨p,ep,vs,h1,h2⟩:=S1.hO e
   have r1':=dw ep r1
   subst r1'
   refine⟨.inl ⟨rfl,vs,.inl (.of (P1.get h1))⟩,α1,σd,st1,_,G1,F,P1,R.step s1,S1,q,?_⟩
   rintro ds st2 ⟨⟨xs,e2⟩,q2⟩ α2 G2 H2 ws s2 P2 S2 r2
   obtain⟨p2,ep2,_⟩:=S2.hO e2
   have:p2=p:=by
    rcases s2.pre _ _ ep with z|z<;>(rw[z]at ep2;cases ep2)
    rfl
   subst this
   exact L α2 G2 F H2 st2 K Q n p2 ds ws P2 S2 ep2 r2 q2 ((k.at s1).at s2)
 · exact q.elim
theorem IQ{r:DM}{rM:V→List V→Hp→VK→Prop}{name:Str}{id:String}(L:LiftM r rM)(slot:Slot "list" name id)(hty:typeOf (.builtin id)=pure (.type "method_descriptor"))(hm:JL X id rM){o e:Expr}{es:List Expr}{to:DE}{ta:DA}{apos cpos:Pos}(ho:PE X o (LE to))(ha:PA X (e::es) (LA ta))
 (hbase:attributeBase o name X.env (eval o X.env)=eval o X.env) (hfew:((backTo cpos (starEach (e::es) X.env)).all (fun x=> !x.1)&&(backToKw cpos (keywordEach [] X.env)).all (fun x=>x.1.isSome)
   &&decide ((e::es).length+([]:List Keyword).length+(if([]:List Keyword).isEmpty then 0 else 1)<30))=true)
 (hline:(apos.endLine==cpos.line)=true) (hs:starEach (e::es) X.env=(false,eval e X.env)::starEach es X.env) (hplain:(backTo cpos (starEach es X.env)).any (·.1)=false):PE X (.Call (.Attribute o name apos) (e::es) [] cpos) (LE (pG r to ta)):=
 PE.imp (FU PySem.F.plainAttrs_list slot hty hm ho ha hbase hfew hline hs hplain) fun _ _ _ h=>LE.M9 L h
noncomputable def oh:DM:=fun n ds st K=>match ds with
 | [.int i]=>(match st[n]? with|some (.lst xs)=>(-(2^63)≤i∧i<2^63)∧(match kM xs.length i with|some j=>(match xs[j]? with|some d=>K d (st.set n (.lst (xs.eraseIdx j)))|none=>False)|none=>False)|_=>False)
 |_=>False
theorem qB{A B:Type}{F:A→B→Prop}:∀ {xs:List A} {ys:List B} (i:Nat),Paired F xs ys→Paired F (xs.eraseIdx i) (ys.eraseIdx i)
 |_,_,_,.nil=> .nil
 |_,_,0,.cons _ t=>t
 |_,_,i+1,.cons r t=> .cons r (qB i t)
theorem Cr:LiftM oh BV:=by
 intro α G F H st K Q n a ds ws P S ea rs q k
 unfold oh at q
 split at q
 · rename_i i
   split at q
   · rename_i xs e
     obtain⟨h63,q⟩:=q
     split at q
     · rename_i j ej
       split at q
       · rename_i d ed
         obtain⟨v,rfl,r1⟩:=i7 rs rfl
         unfold Rep at r1
         subst r1
         obtain⟨a',ea',vs,h1,h2⟩:=S.hO e
         rw[ea]at ea';cases ea'
         obtain⟨y,ey,ry⟩:=h2.get ed
         have hm:some a∈α:=List.mem_of_getElem? ea
         refine⟨a,vs,i,j,y,rfl,rfl,P.get h1,h63.1,h63.2,by rw[←h2.length];exact(uF ej).1,ey,?_⟩
         refine k d _ q α (upd G a (.lst (vs.eraseIdx j))) _ y (Step.write hm) (P.write h1) ?_ (ry.step (Step.write hm))
         exact S.write ea ⟨vs.eraseIdx j,aY,(aZ.mpr (qB j (aZ.mp h2))).step (Step.write hm)⟩
       · exact q.elim
     · exact q.elim
   · exact q.elim
 · exact q.elim
theorem Ia{o e:Expr}{to te:DE}{apos cpos:Pos}(ho:JE X o to)(he:JE X e te)(hbase:attributeBase o "pop" X.env (eval o X.env)=eval o X.env:=by rfl)(hline:(apos.endLine==cpos.line)=true:=by rfl)(hs:notStar e=true:=by rfl):JE X (.Call (.Attribute o "pop" apos) [e] [] cpos) (pG oh to (ae te ak)):=by
 unfold JE at*
 refine IQ Cr PySem.F.slot_list_pop PySem.F.type_list_pop Eb ho (rB he tD (cG hs)) hbase ?_ hline (cG hs) rfl
 rw[cG hs]
 rfl
end
noncomputable abbrev vx:=D→bN→ai→(bN→ai→Prop)→Prop
inductive J6(t:vx)(v:V)(σ:L2.St)(H:Hp)(Q:L2.St→Hp→Prop):Prop
 |mk (α:List (Option Addr)) (σd:bN) (st:ai) (d:D) (K:bN→ai→Prop) (G F:Hp) (P:cq G F H) (R:eE α G σd σ) (S:aX α st G) (r:Rep α G d v) (h:t d σd st K) (k:LC α G F K Q):J6 t v σ H Q
noncomputable def xp(t:vx):TG:=J6 t
noncomputable def qW(to ti:DE):vx:=fun d σ st K=>to σ st fun x st1=>ti σ st1 fun y st2=>uM x y d st2 fun st3=>K σ st3
section
variable {X:Cx}{pos:Pos}
theorem Cj{tg:Expr}{to ti:DE}(h:PG X tg (uJ (LE to) (LE ti) rh)):PG X tg (xp (qW to ti)):=PG.imp h fun v σ H Q ⟨α,σd,st,d,K,G,F,P,R,S,r,q,k⟩=>by
 unfold qW uM at q
 refine⟨α,σd,st,_,G,F,P,R,S,q,fun x st2 q2 α2 G2 H2 v2 s2 P2 S2 r2=>?_⟩
 refine⟨α2,σd,st2,_,G2,F,P2,R.step s2,S2,q2,fun y st3 q3 α3 G3 H3 v3 s3 P3 S3 r3=>?_⟩
 cases x<;>cases y<;>try exact q3.elim
 rename_i n kk
 unfold xB at q3
 simp only at q3
 split at q3
 · rename_i xs e
   split at q3
   · rename_i j ej
     obtain⟨p,ep,vs,hv,rv⟩:=S3.hO e
     have r2':=dw ep (r2.step s3)
     subst r2'
     unfold Rep at r3
     have hm:some p∈α3:=List.mem_of_getElem? ep
     have rd:=(r.step s2).step s3
     refine⟨p,vs,kk,j,rfl,r3,P3.get hv,by rw[←rv.length];exact ej,?_⟩
     refine((k.at s2).at s3) σd _ q3 α3 (upd G3 p (.lst (vs.set j v))) _ σ (Step.write hm) (P3.write hv) (((R.step s2).step s3).step (Step.write hm)) ?_
     exact S3.write ep ⟨vs.set j v,aY,(aZ.mpr (o7 rd j (aZ.mp rv))).step (Step.write hm)⟩
   · exact q3.elim
 · exact q3.elim
noncomputable def uu(t u:vx):vx:=fun d σ st K=>match d with| .tup [x,y]=>t x σ st fun σ1 st1=>u y σ1 st1 K|_=>False
theorem GJ{a b:Expr}{kx:Nat}{t u:vx}(hc:X.calm=true)(ha:PG X a (xp t))(hb:PG X b (xp u))(hn:(assignEach [a,b] X.env).length=2)(hst:(assignEach [a,b] X.env).findIdx? (·.1)=none)(hs1:zg X [a,b] (nP (xp t) (nP (xp u) AD))):
 PG X (.Tuple [a,b] kx pos) (xp (uu t u)):=PG.imp (C3 hc hs1 hn hst) fun v σ H Q ⟨α,σd,st,d,K,G,F,P,R,S,r,q,k⟩=>by
 unfold uu at q
 split at q
 · rename_i x y
   unfold Rep at r
   obtain⟨p,vs,rfl,na,h1,h2⟩:=r
   obtain⟨v1,v2,rfl,r1,r2⟩:=mR h2 rfl
   refine⟨p,_,rfl,.of (P.get h1),rfl,v1,_,rfl,α,σd,st,x,_,G,F,P,R,S,r1,q,fun σ1 st1 q1 α1 G1 H1 σ1' s1 P1 R1 S1=>?_⟩
   refine⟨v2,_,rfl,α1,σ1,st1,y,_,G1,F,P1,R1,S1,r2.step s1,q1,fun σ2 st2 q2 α2 G2 H2 σ2' s2 P2 R2 S2=>?_⟩
   exact⟨rfl,((k.at s1).at s2).here P2 q2 R2 S2⟩
 · exact q.elim
noncomputable def zP(t:vx)(te:DE):DS:=fun E σ st=>te σ st fun d st1=>t d σ st1 E.nx
theorem Gj{s:Stmt}{te:DE}{t:vx}(h:PS X s (kR (LE te) (xp t))):PS X s (LS (zP t te)):=PS.imp h fun D σ H ⟨α,σd,st,DD,G,F,P,R,S,q,k⟩=>
 ⟨α,σd,st,_,G,F,P,R,S,q,fun d st1 q1 α1 G1 H1 v s1 P1 S1 r1=>⟨α1,σd,st1,d,DD.nx,G1,F,P1,R.step s1,S1,r1,q1,k.nx.at s1⟩⟩
theorem Hj{o1 i1 o2 i2 e:Expr}{kx:Nat}{p1 p2 tp:Pos}{to1 ti1 to2 ti2 te:DE}(ho1:JE X o1 to1)(hi1:JE X i1 ti1)(ho2:JE X o2 to2)(hi2:JE X i2 ti2)(he:JE X e te)(hc:X.calm=true:=by rfl)
 (hs:swapsWithSole [.Tuple [.Subscript o1 i1 p1,.Subscript o2 i2 p2] kx tp] e pos.line X.env=pure false:=by rfl) (hw:swappedStores [.Tuple [.Subscript o1 i1 p1,.Subscript o2 i2 p2] kx tp] e X.env=pure none:=by rfl)
 (h1:(assignEach [.Tuple [.Subscript o1 i1 p1,.Subscript o2 i2 p2] kx tp] X.env).map (·.2)=[assign (.Tuple [.Subscript o1 i1 p1,.Subscript o2 i2 p2] kx tp) X.env]:=by rfl) (hn:(assignEach [.Subscript o1 i1 p1,.Subscript o2 i2 p2] X.env).length=2:=by rfl) (hst:(assignEach [.Subscript o1 i1 p1,.Subscript o2 i2 p2] X.env).findIdx? (·.1)=none:=by rfl)
 (ha1:∀v,assign (.Subscript o1 i1 p1) X.env v=(do
   let ov ←holding [v] (eval o1 X.env)
   let iv ←holding [v,ov] (eval i1 X.env)
   standAt p1
   holding [v,ov,iv] (setItem ov iv v)
   release [v,ov,iv] []):=by intro _;rfl) (ha2:∀v,assign (.Subscript o2 i2 p2) X.env v=(do
   let ov ←holding [v] (eval o2 X.env)
   let iv ←holding [v,ov] (eval i2 X.env)
   standAt p2
   holding [v,ov,iv] (setItem ov iv v)
   release [v,ov,iv] []):=by intro _;rfl):
 JS X (.Assign [.Tuple [.Subscript o1 i1 p1,.Subscript o2 i2 p2] kx tp] e pos) (zP (uu (qW to1 ti1) (qW to2 ti2)) te):=by
 unfold JS
 unfold JE at*
 have g1:=Cj (tG ho1 hi1 set_list ha1)
 have g2:=Cj (tG ho2 hi2 set_list ha2)
 exact Gj (tV he (GJ hc g1 g2 hn hst (j7 g1 (j7 g2 uD))) hs hw h1)
end
end L3
namespace L3
open PySem L2
open PySem.Spec hiding items?
open PyProof.Rows hiding St
section
variable {X:Cx}
theorem uL{M:Model}{A:Around}{E:Value→Shared→Prop}{s:Shared}{Q:Value→Shared→Prop}{x:V}{v:Value}{b:Bool}(r:RelV x v)(h:Q (.bool (!(v== .bool b))) s):wpAny M A (compareOp .IsNot v (.bool b)) Q E s:=by
 cases x
 case bl c=>
  cases r
  cases c<;>cases b<;>exact wpAny_pure h
 all_goals first
  |(cases r;exact wpAny_pure h)
  |(obtain⟨t,rfl⟩:=r;exact wpAny_pure h)
noncomputable def xO:dJ:=fun x y st K=>match y with| .aH=>live st x=true∧K (.bl (!MO x)) st| .bl b=>live st x=true∧K (.bl (!ye x b)) st|_=>False
theorem Ep:cx X (compareOp .IsNot) (LR xO):=fun pins s σ H x y v u Q I rx ry ⟨α,d,e,st,K,G,F',P,r1,r2,S,q,k⟩=>by
 cases e<;>try exact q.elim
 · refine HF pins s σ H x y v u Q I rx ry ⟨α,d,.aH,st,K,G,F',P,r1,r2,S,⟨q.1,?_⟩,k⟩
   have q2:=q.2
   cases d<;>exact q2
 · rename_i b
   unfold Rep at r2
   subst r2
   cases ry
   refine uL rx ?_
   rw[GQ S q.1 r1 rx]
   exact⟨.bl (!ye d b),H,I,rfl,k.here P q.2 S (by unfold Rep;rfl)⟩
@[irreducible] noncomputable def tK:dJ:=xO
theorem Kc:cx X (compareOp .IsNot) (LR tK):=by unfold tK;exact Ep
end
section
variable {st:ai}{K:DK}{d:D}{b:Bool}
theorem C8(h:live st d=true)(k:K (.bl (!MO d)) st):tK d .aH st K:=by unfold tK;exact⟨h,k⟩
end
end L3
namespace L3
open PySem L2
open PySem.Spec hiding items?
open PyProof.Rows hiding St
section
variable {X:Cx}
theorem Gn{o i elt:Expr}{gs:List Comprehension}{sc:Scope}{p:Pos}{to ti te:TE}{pos pos':Pos}(he:PE X (.ListComp elt gs sc p) te)(ho:PE X o to)(hi:PE X i ti)(h2:j6 i=true:=by rfl):PS X (.Assign [.Subscript o i pos'] (.ListComp elt gs sc p) pos) (kR te (uJ to ti rh)):=
 tV he (tG ho hi set_list (by intro v;cases i<;>first|rfl|cases h2)) (by unfold swapsWithSole swapsWith;rfl) rfl rfl
theorem vj{o i elt:Expr}{gs:List Comprehension}{sc:Scope}{p pos pos':Pos}{te to ti:DE}(he:JE X (.ListComp elt gs sc p) te)(ho:JE X o to)(hi:JE X i ti)(h2:j6 i=true:=by rfl):JS X (.Assign [.Subscript o i pos'] (.ListComp elt gs sc p) pos) (eO to ti te):=by
 unfold JS;unfold JE at*;exact xI (Gn he ho hi h2)
end
end L3
namespace L3
open PySem L2
open PySem.Spec hiding items?
open PyProof.Rows hiding St
open AutoSeq1 (wpAny_loadPart')
theorem HM{P:Program}{w:World}{A:Around}(hh:A.handled=none)(k:SK)(t a:Addr)(hne:a≠t)(us:Array Value):Draws P w A t [t,a] us.size (fun i v=>us[i]?=some v) (fun n g=>pV k t a n g∧mE k g a us) where
 live:=fun i h z=>((mS (P:=P) (w:=w) k t a hne us).lv i h z).1
 frame:=fun i h h' z kp=>(mS (P:=P) (w:=w) k t a hne us).fr i h h' z fun b hb o e=>kp b (by rcases hb with rfl|rfl<;>simp) o e
 item:=fun i s Q E hi z q=>(mS (P:=P) (w:=w) k t a hne us).nx i A s Q E us[i] z (by simp[hi]) fun g j sb=>q _ g s.toks (by simp[hi]) j sb
 done:=fun s Q E z q=>(mS (P:=P) (w:=w) k t a hne us).en us.size A s Q E hh z (by simp) q
theorem pF(l:Addr)(items:Array Value)(n:Nat)(dct:Option Addr)(sl:Array (Option Value)):
 Meets (Builtin.«enumerate.__new__» ⟨[.type "enumerate",.ref l],[]⟩) (fun _ R s=>s.heap.get? l=some {cls:= .type "tuple",dict:=dct,data:= .seq items n,slots:=sl}∧
  R (.ok (.ret (.ref (s.heap.push {cls:= .type "tuple_iterator",data:= .fields #[.ref l,.int 0 0]}).objs.size)))
   {s with heap:=(s.heap.push {cls:= .type "tuple_iterator",data:= .fields #[.ref l,.int 0 0]}).push {cls:= .type "enumerate",data:= .fields #[.none,.bool false,.ref s.heap.objs.size,rawInt 0,.none,.none]}}):=
 .of_wp fun prog w A R s h=>by
  obtain⟨hp,g,d,tk,os⟩:=s;obtain⟨hl,h⟩:=h
  have hsub:=sub_enumerate
  have hL:Heap.IsTuple (Shared.heap ⟨hp,g,d,tk,os⟩) l items:=⟨_,hl,rfl,n,rfl⟩
  wp_walk using wpAny_loadPart' hl
  refine wpAny_stack_any fun st=>wpAny_pure ?_
  split
  · rename_i c _ _ _ _ _
    cases (c==Value.type "enumerate")
    · wp_walk using wpAny_loadPart' hl,wpAny_pyIter_tuple hL
      exact⟨_,rfl,h⟩
    · wp_walk using wpAny_loadPart' hl,wpAny_pyIter_tuple hL
      exact⟨_,rfl,h⟩
  · wp_walk using wpAny_loadPart' hl,wpAny_pyIter_tuple hL
    exact⟨_,rfl,h⟩
theorem Cc{P:Program}{w:World}{A:Around}{s:Shared}{E:Value→Shared→Prop}{k:SK}{a:Addr}{us:Array Value}{Q:Value→Shared→Prop}(c:mE k s.heap a us)
 (q:∀g,IsEnum g (s.heap.objs.size+1) s.heap.objs.size 0 .none→pV k s.heap.objs.size a 0 g→(∀b o,s.heap.get? b=some o→g.get? b=some o)→Q (.ref (s.heap.objs.size+1)) {s with heap:=g}):
 wpAny (model P w) A (call (.type "enumerate") [.ref a]) Q E s:=by
 cases k
 · exact call_enumerate_list c fun g h1 h2 _ h4=>q g h1 h2 h4
 · obtain⟨⟨c,dct,dt,sl⟩,hl,hc,n,hd⟩:=c
   replace hc:c= .type "tuple":=hc
   replace hd:dt= .seq us n:=hd
   subst hc hd
   refine callType_new F.called_enumerate (by decide) (F.typeCall_enumerate_1 _) (F.newCall_enumerate_1 _) (fun obj=>F.args_object_init_2 obj _) F.entry_enumerate_new
    (pF a us n dct sl) ⟨hl,?_⟩
   have hz:(s.heap.push {cls:= .type "tuple_iterator",data:= .fields #[.ref a,.int 0 0]}).objs.size=s.heap.objs.size+1:=Heap.size_push ..
   show _∧_
   rw[hz]
   have he:IsEnum ((s.heap.push {cls:= .type "tuple_iterator",data:= .fields #[.ref a,.int 0 0]}).push
    {cls:= .type "enumerate",data:= .fields #[.none,.bool false,.ref s.heap.objs.size,rawInt 0,.none,.none]}) (s.heap.objs.size+1) s.heap.objs.size 0 .none:=by
    have:=Heap.get?_push_size (s.heap.push {cls:= .type "tuple_iterator",data:= .fields #[.ref a,.int 0 0]})
     (o:={cls:= .type "enumerate",data:= .fields #[.none,.bool false,.ref s.heap.objs.size,rawInt 0,.none,.none]}) rfl
    rw[hz]at this;exact this
   exact⟨⟨_,he,rfl⟩,q _ he ⟨_,Heap.get?_push_of_some _ (Heap.get?_push_size _ rfl),rfl,rfl⟩ fun b o x=>Heap.get?_push_of_some _ (Heap.get?_push_of_some _ x)⟩
noncomputable def MQ(K:PySem.W.Frag)(k:SK)(a:Addr):It:=
 ⟨fun i H=>∃xs x,oP k K H a xs∧xs[i]?=some x,
  fun i H v H'=>∃T x,H T=none∧v= .ref T∧H'=upd H T (.tup [.int (i:Int),x])∧∀xs,oP k K H a xs→xs[i]?=some x,
  fun i H=>∃xs,oP k K H a xs∧xs.length≤i⟩
noncomputable def Ny(e t a:Addr)(k:SK)(i:Nat)(h:Heap):Prop:=(∃old,IsEnum h e t i old)∧pV k t a i h
theorem C9{P:Program}{w:World}{K:PySem.W.Frag}{elts:List Expr}{kx:Nat}{pos:Pos}{e t a:Addr}(k:SK)(n1:e≠t)(n2:a≠e)(n3:a≠t):
 Turn P w K (.Tuple elts kx pos) (MQ K k a) [e,t] e (Ny e t a k) where
 mem:=by simp
 obj:=fun i h st b hb=>by
  obtain⟨⟨old,he⟩,i1⟩:=st
  simp only[List.mem_cons,List.not_mem_nil,or_false]at hb
  rcases hb with rfl|rfl
  · exact⟨_,he,fun v z=>by cases z⟩
  · exact nj i1
 keep:=fun i h h' st kp=>by
  obtain⟨⟨old,he⟩,i1⟩:=st
  exact⟨⟨old,kp e (by simp) _ he⟩,oH i1 (kp t (by simp))⟩
 item:=by
  intro X hP hw hK hc i pins s σ H E I hf st hg
  subst hP hw hK
  obtain⟨⟨old,he⟩,i1⟩:=st
  obtain⟨xs,x,q1,ex⟩:=hg
  obtain⟨us,r1,l1⟩:=kE I q1
  obtain⟨u,eu,ru⟩:=r1.get ex
  have hlt:i<us.toArray.size:=by
   have:=(List.getElem?_eq_some_iff.mp eu).1
   simpa using this
  refine wpAny_pyNext_enum_itemD (HM (A:=X.A.in1) (show X.A.in1.handled=none from I.ok.hd hc) k t a n3 us.toArray) he ⟨i1,l1⟩ hlt n1 (by simp only[List.mem_cons,List.not_mem_nil,or_false,not_or];exact⟨n1,Ne.symm n2⟩) fun y h' tk py ho hs hT hsz kp=>⟨_,rfl,?_⟩
  have hy:y=u:=by
   have:us[i]?=some y:=by simpa using py
   rw[eu]at this;cases this;rfl
  subst hy
  refine wpAny_letOwnedTupleGo_enum (s:={s with heap:=h',toks:=tk+1}) ho fun k' he' sb=>?_
  have hTe:s.heap.objs.size≠e:=Nat.ne_of_gt (Heap.lt_size he)
  have kp3:∀b o,b∉[e,t]→s.heap.get? b=some o→k'.get? b=some o:=fun b o hb eb=>by
   simp only[List.mem_cons,not_or,List.not_mem_nil,not_false_eq_true,and_true]at hb
   exact sb.extBut _ _ hb.1 (kp b o hb.1 hb.2 eb)
  refine⟨.ref s.heap.objs.size,upd H s.heap.objs.size (.tup [.int (i:Int),x]),FI (s:=s) (tk:=tk+1) I hf kp3 (Nat.le_refl _) ?_,rfl,⟨s.heap.objs.size,x,I.aM.fresh (Nat.le_refl _),rfl,rfl,?_⟩,?_,?_⟩
  · refine⟨Nat.le_of_ble_eq_true rfl,[.int (i:Int) tk,y],.cons ⟨tk,rfl⟩ (.cons ru .nil),?_⟩
    exact⟨_,sb.extBut _ _ hTe hT,rfl,_,rfl⟩
  · intro xs' q'
    rw[uN I q' q1];exact ex
  · refine⟨⟨_,by simpa using he'⟩,oH hs.1 fun o eo=>sb.extBut _ _ (Ne.symm n1) eo⟩
  · intro b hb
    have:b≠s.heap.objs.size:=by
     obtain⟨o,eb⟩:∃o,s.heap.get? b=some o:=by
      simp only[List.mem_cons,List.not_mem_nil,or_false]at hb
      rcases hb with rfl|rfl
      · exact⟨_,he⟩
      · obtain⟨o,eo,_⟩:=nj i1;exact⟨o,eo⟩
     exact Nat.ne_of_lt (Heap.lt_size eb)
    rw[aP this]
    exact(hf b hb).1
 done:=by
  intro X hP hw hK hc i pins s σ H E I hf st hg
  subst hP hw hK
  obtain⟨⟨old,he⟩,i1⟩:=st
  obtain⟨xs,q1,hle⟩:=hg
  obtain⟨us,r1,l1⟩:=kE I q1
  have e1:=r1.length
  have tz:s.TypeIs (.ref e) "enumerate":=⟨_,he,rfl⟩
  unfold pyNext
  refine wpAny_bind (wpAny_attempt (wpAny_callSpecial?_slot (name:=Str.ofString "__next__") tz F.slot_enumerate_next (wpAny_call_entry F.slot_enumerate_next tz F.entry_enumerate_next ?_ (F.args_enumerate_next_1 _))))
  show wpAny _ _ (field (.ref e) 2 >>= _) _ _ _
  refine wpAny_bind (wpAny_field he rfl (x:= .ref t) rfl ?_)
  refine wpAny_bind ((mS k t a n3 us.toArray).en i _ s _ _ (I.ok.hd hc) ⟨i1,l1⟩ (by simp;omega) fun g x sb hx=>?_)
  obtain⟨o,ho,hc2⟩:=hx
  refine wpAny_bind (wpAny_isInstance (T:="StopIteration") (b:=true) ⟨o,ho,hc2⟩ isSubtype_stop ?_)
  refine wpAny_pure ⟨rfl,FN (s:=s) (tk:=s.toks) I hf fun b o hb eb=>?_⟩
  simp only[List.mem_cons,not_or,List.not_mem_nil,not_false_eq_true,and_true]at hb
  exact sb b o hb.2 eb
 self:=fun _ _ _ _ _ st h=>wpAny_pyIter_enum st.1.choose_spec h
noncomputable def jT:Nat→List D→List D
 |_,[]=>[]
 |i,x::xs=> .tup [.int (i:Int),x]::jT (i+1) xs
theorem vF:∀ {xs:List D} {i:Nat},(jT i xs).length=xs.length
 | [],_=>rfl
 |_::xs,i=>by unfold jT;rw[List.length_cons,List.length_cons,vF]
theorem qt:∀ {xs:List D} {i n:Nat} {d:D},(jT i xs)[n]?=some d→∃x,xs[n]?=some x∧d= .tup [.int ((i+n:Nat):Int),x]
 | [],_,_,_,e=>by unfold jT at e;cases e
 |x::xs,i,0,d,e=>by
  unfold jT at e
  rw[List.getElem?_cons_zero]at e
  cases e
  exact⟨x,rfl,rfl⟩
 |x::xs,i,n+1,d,e=>by
  unfold jT at e
  rw[List.getElem?_cons_succ]at e
  obtain⟨y,h1,h2⟩:=qt e
  refine⟨y,by rw[List.getElem?_cons_succ];exact h1,?_⟩
  rw[h2,show i+1+n=i+(n+1) by omega]
theorem Hq{K:PySem.W.Frag}{k:SK}{a:Addr}{α:List (Option Addr)}{G:Hp}{ok:ai→Prop}{xs:List D}
 (h:∀α' G' st',Step α G α' G'→aX α' st' G'→ok st'→∃vs,Co k G' a vs∧aO α' G' xs vs):sZ (MQ K k a) α G ok (jT 0 xs) where
 stop:=fun n α' G' F' H' st' s P S o hn=>by
  obtain⟨vs,h1,r1⟩:=h α' G' st' s S o
  rw[vF]at hn
  refine⟨vs,jU P h1,?_⟩
  have:=r1.length
  omega
 go:=fun n d α' G' F' H' st' s P S o hn=>by
  obtain⟨vs,h1,r1⟩:=h α' G' st' s S o
  obtain⟨x,ex,rfl⟩:=qt hn
  obtain⟨v,ev,_⟩:=r1.get ex
  exact⟨vs,v,jU P h1,ev⟩
 oo:=fun n d α' G' F' H' st' x H'' s P S o hn y=>by
  obtain⟨vs,h1,r1⟩:=h α' G' st' s S o
  obtain⟨c,ec,rfl⟩:=qt hn
  obtain⟨T,v,hT,rfl,rfl,y1⟩:=y
  obtain⟨v',ev,rv⟩:=r1.get ec
  rw[y1 vs (jU P h1)]at ev
  cases ev
  have hg:=(P.none hT).1
  refine⟨upd G' T (.tup [.int (n:Int),v]),Step.laid hg,P.laid hT,S.laid hg,?_⟩
  unfold Rep
  refine⟨T,[.int (n:Int),v],rfl,S.kC hg,aY,?_⟩
  unfold aO
  refine⟨.int (n:Int),[v],rfl,?_,?_⟩
  · unfold Rep;rw[Nat.zero_add]
  unfold aO
  exact⟨v,[],rfl,rv.step (Step.laid hg),by unfold aO;rfl⟩
noncomputable def Au(ds:List D)(st1:ai)(K:List D→(ai→Prop)→ai→Prop):Prop:=match ds with
 | [x]=>(match items? st1 x with
   |some xs=>K (jT 0 xs) (fun st'=>items? st' x=some xs) st1
   |_=>False)
 |_=>False
@[irreducible] noncomputable def qy:List D→ai→(List D→(ai→Prop)→ai→Prop)→Prop:=Au
noncomputable def zN(t:DA):DI:=fun σ st K=>t σ st fun ds st1=>qy ds st1 K
theorem Dd:bootBuiltins "enumerate"=some (.type "enumerate"):=by decide+kernel
theorem Gr{X:Cx}{a:Expr}{elts:List Expr}{kx:Nat}{tpos p pos:Pos}{t:DA}(hg:Gl X "enumerate")(hm:X.mg "enumerate"=none)(ha:PA X [a] (LA t))(hs:starEach [a] X.env=[(false,eval a X.env)]):
 PI X (.Tuple elts kx tpos) (.Call (.Name "enumerate" p) [a] [] pos) (LI (zN t)):=by
 intro pins s σ H R I h
 obtain⟨α,σd,st,K,G,F,P,RS,S,t,k⟩:=h
 refine Call_ (kG I hg hm Dd (PyProof.Rows.callWith_type1 (cv (ha pos pins s σ H (fun vs H1=>∃ds α1 G1 st1,Step α G α1 G1∧cq G1 F H1∧aX α1 st1 G1∧aO α1 G1 ds vs∧qy ds st1 K) I ⟨α,σd,st,_,G,F,P,RS,S,t,fun ds st1 q α1 G1 H1 vs s1 P1 S1 r1=>⟨ds,α1,G1,st1,s1,P1,S1,r1,q⟩⟩) fun us s1 ⟨vs,H1,I1,rv,ds,α1,G1,st1,w1,P1,S1,r1,q⟩=>?_) (by rw[hs];rfl) (by rfl)))
 unfold qy Au at q
 split at q
 · rename_i x
   split at q
   · rename_i xs ex
     obtain⟨v1,rfl,q1⟩:=i7 r1 rfl
     obtain⟨p1,vs1,rfl,g1,c1⟩:=nh S1 q1 ex
     obtain⟨u1,rfl,ru1⟩:=vals1 rv
     cases ru1
     obtain⟨its1,_,l1⟩:=kE I1 (jU P1 c1)
     refine Cc l1 fun g he i1 kp=>?_
     obtain⟨o1,eo1⟩:=l1.some
     have hp1:p1<s1.heap.objs.size:=Heap.lt_size eo1
     refine wpAny_pyIter_enum (s:={s1 with heap:=g}) he ?_
     refine⟨s1.heap.objs.size+1,[s1.heap.objs.size+1,s1.heap.objs.size],_,_,H1,rfl,I1.kept (t':=s1.toks) kp,C9 (E_ x) (Nat.ne_of_gt (Nat.lt_succ_self _)) (Nat.ne_of_lt (Nat.lt_succ_of_lt hp1)) (Nat.ne_of_lt hp1),⟨⟨_,he⟩,i1⟩,fun b hb=>?_,?_⟩
     · have hb':s1.heap.objs.size≤b:=by
        simp only[List.mem_cons,List.not_mem_nil,or_false]at hb
        rcases hb with rfl|rfl
        · exact Nat.le_succ _
        · exact Nat.le_refl _
       exact I1.sQ hb' (I1.aM.fresh hb')
     · refine k _ _ st1 q _ α1 G1 H1 w1 P1 S1 (Hq fun α' G' st' s' S' o=>?_)
       obtain⟨p1',ws1,e1,f1,d1⟩:=nh S' (q1.step s') o
       cases e1
       exact⟨ws1,d1,f1⟩
   · exact q.elim
 · exact q.elim
theorem Hr{st:ai}{x:D}{xs:List D}{K:List D→(ai→Prop)→ai→Prop}(ex:items? st x=some xs)(k:∀ok:ai→Prop,(∀st',items? st' x=some xs→ok st')→K (jT 0 xs) ok st):qy [x] st K:=by
 unfold qy Au
 simp only[ex]
 exact k _ fun st' h1=>h1
theorem KI{X:Cx}{a:Expr}{elts:List Expr}{kx:Nat}{tpos p pos:Pos}{ar:DA}(hg:Gl X "enumerate")(hm:X.mg "enumerate"=none)(ha:JA X [a] ar)(hs:notStar a=true:=by rfl):JI X (.Tuple elts kx tpos) (.Call (.Name "enumerate" p) [a] [] pos) (zN ar):=by
 unfold JI;unfold JA at ha;exact Gr hg hm ha (cG hs)
end L3
namespace L3
open PySem L2
open PySem.Spec hiding items?
open PyProof.Rows hiding St
section
variable {prog:Program}{w:World}{A:Around}{E:Value→Shared→Prop}{s:Shared}
end
section
variable {X:Cx}{tg:Expr}
end
end L3
namespace L3
open PySem L2
open PySem.Spec hiding items?
open PyProof.Rows hiding St
section
variable {X:Cx}
end
end L3
namespace L3
open PySem L2
open PySem.Spec hiding items?
open PyProof.Rows hiding St
section
variable {X:Cx}
noncomputable def Fh:dJ:=fun x y st K=>match x,y with
 | .lst xs,.lst ys=>xs.length+ys.length≤sizeLine∧K (.ref st.length) (st++[.lst (xs++ys)])
 |_,_=>False
theorem Ko:cx X (binaryOp .Add) (LR Fh):=fun pins s σ H x y v u Q I rx ry ⟨α,d,e,st,K,G,F',P,r1,r2,S,q,k⟩=>by
 cases d<;>cases e<;>try exact q.elim
 unfold Rep at r1 r2
 obtain⟨a,vs,rfl,na,ha,ra⟩:=r1
 obtain⟨b,ws,rfl,nb,hb,rb⟩:=r2
 refine zz pins s σ H _ _ v u Q I rx ry ⟨a,b,vs,ws,rfl,rfl,gL P ha,gL P hb,by rw[←ra.length,←rb.length];exact q.1,fun p hp=>?_⟩
 exact k.new P q.2 S (aZ.mpr (fF (aZ.mp ra) (aZ.mp rb))) hp
@[irreducible] noncomputable def ux:dJ:=Fh
theorem KP:cx X (binaryOp .Add) (LR ux):=by unfold ux;exact Ko
end
theorem FZ{st:ai}{K:DK}{xs ys:List D}(h:xs.length+ys.length≤sizeLine)(k:K (.ref st.length) (st++[.lst (xs++ys)])):ux (.lst xs) (.lst ys) st K:=by unfold ux;exact⟨h,k⟩
end L3
namespace L3
open PySem L2
open PySem.Spec hiding items?
open PyProof.Rows hiding St
open PySem PySem.Spec L2 PySem.SeqAt
section
variable {X:Cx}
end
end L3
namespace L3
open PySem L2
open PySem.Spec hiding items?
open PyProof.Rows hiding St
section
variable {X:Cx}
end
end L3
namespace L3
open PySem L2
open PySem.Spec hiding items?
open PyProof.Rows hiding St
section
variable {X:Cx}
end
section
variable {X:Cx}
end
end L3
namespace L3
open PySem L2
open PySem.Spec hiding items?
open PyProof.Rows hiding St
section
variable {X:Cx}
end
end L3
namespace L3
open PySem L2
open PySem.Spec hiding items?
open PyProof.Rows hiding St
section
variable {X:Cx}
end
end L3
namespace L3
open PySem L2
open PySem.Spec hiding items?
open PyProof.Rows hiding St
section
variable {P:Program}{w:World}
section
variable {z ti to t1 t2 t3 a1 a2 a3:Addr}
end
end
end L3
namespace L3
open PySem L2
open PySem.Spec hiding items?
open PyProof.Rows hiding St
end L3
namespace L3
open PySem L2
open PySem.Spec hiding items?
open PyProof.Rows hiding St
section
variable {X:Cx}
end
end L3
namespace L3
open PySem L2
open PySem.Spec hiding items?
open PyProof.Rows hiding St
open Sem (wp)
section
variable {prog:Program}{w:World}{A:Around}{s:Shared}{E:Value→Shared→Prop}
end
section
variable {prog:Program}{w:World}{A:Around}{R:Result→Shared→Prop}{I:Addr}{fp wr:List Addr}{G:Array GenState→Array GenState→Prop}{n:Nat}{P:Nat→Value→Prop}{Sx:Nat→Shared→Prop}
end
section
variable {prog:Program}{w:World}{A:Around}{E:Value→Shared→Prop}{s:Shared}
end
section
variable {X:Cx}{pins:List (Addr×Obj)}{σ:L2.St}{H:Hp}{s:Shared}{α:List (Option Addr)}
end
end L3
namespace L3
open PySem L2
open PySem.Spec hiding items?
open PyProof.Rows hiding St
section
variable {X:Cx}
end
end L3
namespace L3
open PySem L2
open PySem.Spec hiding items?
open PyProof.Rows hiding St
noncomputable def putD(f:Str)(v:D):List (Str×D)→List (Str×D)
 | []=>[(f,v)]
 |(g,x)::r=>if g=f then(g,v)::r else(g,x)::putD f v r
theorem j4.look{α:List (Option Addr)}{H:Hp}{f:Str}{v:D}:∀ {fs:List (Str×D)} {vs:List (Str×V)},j4 α H fs vs→fs.lookup f=some v→∃u,vs.lookup f=some u∧Rep α H v u
 | [],_,_,e=>by cases e
 |(g,x)::fs,_,.cons (b:=q) h t,e=>by
  obtain⟨g',y⟩:=q
  obtain⟨h1,h2⟩:=h
  simp only at h1 h2
  subst h1
  rw[List.lookup_cons]at e⊢
  cases hb:f==g with
  |true=>rw[hb]at e;cases e;exact⟨y,rfl,h2⟩
  |false=>rw[hb]at e;exact j4.look t e
theorem j4.none{α:List (Option Addr)}{H:Hp}{f:Str}:∀ {fs:List (Str×D)} {vs:List (Str×V)},j4 α H fs vs→fs.lookup f=Option.none→vs.lookup f=Option.none
 | [],_,.nil,_=>rfl
 |(g,x)::fs,_,.cons (b:=q) h t,e=>by
  obtain⟨g',y⟩:=q
  obtain⟨h1,h2⟩:=h
  simp only at h1 h2
  subst h1
  rw[List.lookup_cons]at e⊢
  cases hb:f==g with
  |true=>rw[hb]at e;cases e
  |false=>rw[hb]at e;exact j4.none t e
theorem j4.put{α:List (Option Addr)}{H:Hp}{f:Str}{d:D}{v:V}(r:Rep α H d v):∀ {fs:List (Str×D)} {vs:List (Str×V)},j4 α H fs vs→j4 α H (putD f d fs) (h7 f v vs)
 | [],_,.nil=> .cons ⟨rfl,r⟩ .nil
 |(g,x)::fs,_,.cons (b:=q) h t=>by
  obtain⟨g',y⟩:=q
  obtain⟨h1,h2⟩:=h
  simp only at h1 h2
  subst h1
  unfold putD h7
  by_cases hb:g=f
  · rw[if_pos hb,if_pos hb];exact .cons ⟨rfl,r⟩ t
  · rw[if_neg hb,if_neg hb];exact .cons ⟨rfl,h2⟩ (j4.put r t)
noncomputable def Dk(C:Addr)(f:Str)(d:D)(st:ai)(K:DK):Prop:=match d with
 | .ref n=>(match st[n]? with|some (.ins C' fs)=>C'=C∧∃v,fs.lookup f=some v∧K v st|_=>False)
 |_=>False
@[irreducible] noncomputable def Ba(C:Addr)(f:Str):D→ai→DK→Prop:=Dk C f
noncomputable def eC(C:Addr)(f:Str)(te:DE):DE:=fun σ st K=>te σ st fun d st1=>Ba C f d st1 K
theorem cM{C:Addr}{f:Str}{n:Nat}{st:ai}{K:DK}{fs:List (Str×D)}{v:D}(e:st[n]?=some (.ins C fs))(h:fs.lookup f=some v)(k:K v st):Ba C f (.ref n) st K:=by
 unfold Ba Dk;simp only[e];exact⟨trivial,v,h,k⟩
noncomputable def AA(C:Addr)(f:Str)(x d:D)(st:ai)(K:ai→Prop):Prop:=match x with
 | .ref n=>(match st[n]? with|some (.ins C' fs)=>C'=C∧fs.length<1000∧K (st.set n (.ins C (putD f d fs)))|_=>False)
 |_=>False
@[irreducible] noncomputable def wy(C:Addr)(f:Str):D→D→ai→(ai→Prop)→Prop:=AA C f
noncomputable def nX(C:Addr)(f:Str)(to te:DE):DS:=fun D σ st=>te σ st fun d st1=>to σ st1 fun x st2=>wy C f x d st2 fun st3=>D.nx σ st3
theorem ni{C:Addr}{f:Str}{n:Nat}{d:D}{st:ai}{K:ai→Prop}{fs:List (Str×D)}(e:st[n]?=some (.ins C fs))(h:fs.length<1000)(k:K (st.set n (.ins C (putD f d fs)))):wy C f (.ref n) d st K:=by
 unfold wy AA;simp only[e];exact⟨trivial,h,k⟩
noncomputable def A4(C:Addr)(m:Str)(x:D)(st:ai)(k:Prop):Prop:=match x with
 | .ref n=>(match st[n]? with|some (.ins C' fs)=>C'=C∧fs.lookup m=none∧k|_=>False)
 |_=>False
@[irreducible] noncomputable def wj(C:Addr)(m:Str):D→ai→Prop→Prop:=A4 C m
theorem j9{C:Addr}{m:Str}{n:Nat}{st:ai}{k:Prop}{fs:List (Str×D)}(e:st[n]?=some (.ins C fs))(h:fs.lookup m=none)(q:k):wj C m (.ref n) st k:=by
 unfold wj A4;simp only[e];exact⟨trivial,h,q⟩
noncomputable def jR(C:Addr)(m:Str)(S:cJ)(to:DE)(t:DA):DE:=fun σ st K=>to σ st fun x st1=>wj C m x st1 (t σ st1 fun ds st2=>S (x::ds) st2 K)
noncomputable def Ad(C:Addr)(S:cJ)(t:DA):DE:=fun σ st K=>t σ st fun ds st1=>S (.ref st1.length::ds) (st1++[.ins C []]) fun r st2=>r= .aH∧K (.ref st1.length) st2
section
variable {X:Cx}{C f g:Addr}{fd:FuncData}{k:Nat}{x m fl:Str}{e o value:Expr}{es:List Expr}{p pos pos' apos:Pos}{te to:DE}{t:DA}{S:cJ}{ps:List Str}
theorem Ml(c:ny X.K C)(na:ia X.K C fl)(he:PE X e (LE te))(hb:attributeBase e fl X.env (eval e X.env)=eval e X.env):PE X (.Attribute e fl pos) (LE (eC C fl te)):=PE.imp (Ii he hb) fun σ H Q ⟨α,σd,st,K,G,F,P,R,S,t,k⟩=>by
 refine⟨α,σd,st,_,G,F,P,R,S,t,fun d st1 q α1 G1 H1 v s1 P1 S1 r1=>?_⟩
 unfold Ba Dk at q
 cases d<;>try exact q.elim
 simp only at q
 split at q
 · rename_i C' fs e'
   obtain⟨rfl,w,hw,q⟩:=q
   obtain⟨a,ea,dx,vs,h1,h2⟩:=S1.vX e'
   have r1':=dw ea r1
   subst r1'
   obtain⟨u,hu,ru⟩:=h2.look hw
   exact⟨a,_,dx,vs,u,rfl,P1.get h1,c,na,hu,(k.at s1).here P1 q S1 ru⟩
 · exact q.elim
theorem Kg(c:ny X.K C)(na:ia X.K C fl)(ho:PE X o (LE to))(hv:PE X value (LE te))(hs:swapsWith value (some (.Attribute o fl pos')) pos.line X.env=pure false):PS X (.Assign [.Attribute o fl pos'] value pos) (LS (nX C fl to te)):=PS.imp (Je ho hv hs) fun D σ H ⟨α,σd,st,DD,G,F,P,R,S,t,k⟩=>by
 refine⟨α,σd,st,_,G,F,P,R,S,t,fun d st1 q α1 G1 H1 v s1 P1 S1 r1=>?_⟩
 refine⟨α1,σd,st1,_,G1,F,P1,R.step s1,S1,q,fun x st2 q2 α2 G2 H2 v2 s2 P2 S2 r2=>?_⟩
 unfold wy AA at q2
 cases x<;>try exact q2.elim
 simp only at q2
 split at q2
 · rename_i C' fs e'
   obtain⟨rfl,hl,q2⟩:=q2
   obtain⟨a,ea,dx,vs,h1,h2⟩:=S2.vX e'
   have r2':=dw ea r2
   subst r2'
   have hm:some a∈α2:=List.mem_of_getElem? ea
   have lv:vs.length<1000:=by rw[←h2.length];exact hl
   refine⟨a,_,dx,vs,rfl,P2.get h1,c,na,lv,?_⟩
   refine((k.nx.at s1).at s2) σd _ q2 α2 (upd G2 a (.ins _ dx (h7 fl v vs))) _ σ (Step.write hm) (P2.write h1) (((R.step s1).step s2).step (Step.write hm)) ?_
   exact S2.write ea ⟨dx,h7 fl v vs,aY,(h2.put (r1.step s2)).step (Step.write hm)⟩
 · exact q2.elim
theorem LE.Li{σ:L2.St}{H:Hp}{Q:VK}(h:LE (jR C m S to t) σ H Q):Fb C m (aF S) [] E0 (LE to) (LA t) σ H Q:=by
 obtain⟨α,σd,st,K,G,F,P,R,Sr,tt,k⟩:=h
 refine⟨α,σd,st,_,G,F,P,R,Sr,tt,fun d st1 q α1 G1 H1 v s1 P1 S1 r1=>?_⟩
 unfold wj A4 at q
 cases d<;>try exact q.elim
 simp only at q
 split at q
 · rename_i n C' fs e'
   obtain⟨rfl,hl,q⟩:=q
   obtain⟨a,ea,dx,vs,h1,h2⟩:=S1.vX e'
   have r1':=dw ea r1
   subst r1'
   refine⟨a,dx,vs,rfl,P1.get h1,h2.none hl,?_⟩
   refine⟨α1,σd,st1,_,G1,F,P1,R.step s1,S1,q,fun ds st2 q2 α2 G2 H2 us s2 P2 S2 r2=>?_⟩
   try dsimp only
   rw[List.append_nil]
   exact⟨α2,_,st2,K,G2,F,P2,by unfold aO;exact⟨_,_,rfl,r1.step s2,r2⟩,S2,q2,(k.at s1).at s2⟩
 · exact q.elim
theorem LE.make{σ:L2.St}{H:Hp}{Q:VK}(h:LE (Ad C S t) σ H Q):E2 C (aF S) [] E0 (LA t) σ H Q:=by
 obtain⟨α,σd,st,K,G,F,P,R,Sr,tt,k⟩:=h
 refine⟨α,σd,st,_,G,F,P,R,Sr,tt,fun ds st1 q α1 G1 H1 us s1 P1 S1 r1=>?_⟩
 intro x dx hx hdx hne
 have hgd:=(P1.none hdx).1
 have P2:=P1.laid (o:= .own x) hdx
 have S2:=S1.laid (o:= .own x) hgd
 have hx2:upd H1 dx (.own x) x=none:=by rw[aP (Ne.symm hne)];exact hx
 have hg2:=(P2.none hx2).1
 have P3:=P2.laid (o:= .ins C dx []) hx2
 have S3:=S2.cell (o:= .ins C dx []) (c:= .ins C []) hg2 ⟨dx,[],aY,.nil⟩
 have s2:Step α1 G1 α1 (upd G1 dx (.own x)):=Step.laid hgd
 have s3:Step α1 (upd G1 dx (.own x)) (α1++[some x]) (upd (upd G1 dx (.own x)) x (.ins C dx [])):=Step.cell hg2
 have rx:Rep (α1++[some x]) (upd (upd G1 dx (.own x)) x (.ins C dx [])) (.ref st1.length) (.ref x):=by
  unfold Rep
  refine .inr ⟨x,?_,rfl⟩
  rw[List.getElem?_append_right (by rw[S1.len];exact Nat.le_refl _),S1.len,Nat.sub_self]
  rfl
 rw[List.append_nil]
 refine⟨α1++[some x],.ref st1.length::ds,st1++[.ins C []],_,_,F,P3,by unfold aO;exact⟨_,_,rfl,rx,(r1.step s2).step s3⟩,S3,q,fun d st2 q2 α' G' H' v s' P' S' r'=>?_⟩
 obtain⟨rfl,q2⟩:=q2
 unfold Rep at r'
 exact⟨r',(((k.at s1).at s2).at s3) _ st2 q2 α' G' H' _ s' P' S' (rx.step s')⟩
end
end L3
namespace L3
open PySem L2
open PySem.Spec hiding items?
open PyProof.Rows hiding St
noncomputable def IC(a:Int)(n:Nat):It:=⟨fun i _=>i<n,fun i H x H'=>H'=H∧x= .int (a+(i:Nat)*(-1)),fun i _=>n≤i⟩
theorem CF{P:Program}{w:World}{K:PySem.W.Frag}{tg:Expr}(it:Addr)(a:Int)(n:Nat):Turn P w K tg (IC a n) [it] it (fun i h=>IsRangeIter h it (a+(i:Nat)*(-1)) ((n:Int)-(i:Nat)) (-1)) where
 mem:=by simp
 obj:=fun i h st b hb=>by
  have e:b=it:=by simpa using hb
  subst e
  exact⟨_,st,fun v z=>by
   have z':Data.fields _=Data.cell v:=z
   cases z'⟩
 keep:=fun i h h' st k=>k it (by simp) _ st
 item:=by
  intro X hP hw hK hc i pins s σ H E I hf st hg
  subst hP hw hK
  obtain⟨f0,f1,f2,f3,f4,f5⟩:=hf it (by simp)
  have W:=Walks.range (prog:=X.prog) (w:=X.w) (I.ok.hd hc) it a (-1) n
  refine W.item i s _ _ hg st fun v h' tk hv st' kk=>?_
  obtain⟨t,rfl⟩:=hv
  have I1:Inv X pins σ H {s with heap:=h',toks:=tk}:=I.turned (fun b o hb e=>kk b o (by simpa using hb) e) f0 f1 f3 f4 f5
  exact⟨_,rfl,vZ (s:={s with heap:=h',toks:=tk}) (n:="range_iterator") st' rfl rfl (by decide) ⟨.int (a+(i:Nat)*(-1)),H,I1,⟨t,rfl⟩,⟨rfl,rfl⟩,st',fun b hb=>(hf b hb).1⟩⟩
 done:=by
  intro X hP hw hK hc i pins s σ H E I hf st hg
  subst hP hw hK
  obtain⟨f0,f1,f2,f3,f4,f5⟩:=hf it (by simp)
  exact wpAny_pyNext_range_end (I.ok.hd hc) st (by have:n≤i:=hg;omega) fun h' eb=>⟨rfl,I.turned (t':=s.toks) (fun b o hb e=>eb b o hb e) f0 f1 f3 f4 f5⟩
 self:=fun _ _ _ _ _ st h=>wpAny_pyIter_rangeiter st h
theorem vi(a b:Int):Builtin.Range.rangeSize a b (-1)=((a-b).toNat:Int):=by
 unfold Builtin.Range.rangeSize
 rw[if_neg (by decide)]
 have e:(a-b-1)/(- -1:Int)=a-b-1:=by simp
 rw[e]
 split<;>omega
theorem small_down{a b:Int}(ha: -(2^62)≤a)(ha':a<2^62)(hb: -(2^62)≤b)(hb':b<2^62):Builtin.Range.small a b (-1)=true:=by
 unfold Builtin.Range.small
 rw[vi]
 simp only[Builtin.Range.rangeFitsLong,Bool.and_eq_true,Bool.or_eq_true,decide_eq_true_eq,beq_iff_eq,show¬((-1:Int)>0) by decide,if_false]
 omega
noncomputable def FQ(ta:TA):TI:=fun σ H R=>ta σ H fun vs H1=>∃i j:Int,vs=[.int i,.int j,.int (-1)]∧(-(2^62)≤i∧i<2^62∧ -(2^62)≤j∧j<2^62)∧R (IC i (i-j).toNat) H1
section
variable {X:Cx}{tg:Expr}
theorem Cw{a b c:Expr}{ta:TA}{p pos:Pos}(hg:Gl X "range")(hm:X.mg "range"=none)(ha:PA X [a,b,c] ta)(hs:notStar a=true:=by rfl)(hs2:notStar b=true:=by rfl)(hs3:notStar c=true:=by rfl):
 PI X tg (.Call (.Name "range" p) [a,b,c] [] pos) (FQ ta):=by
 intro pins s σ H R I h
 refine Call_ (kG I hg hm boot_range (PyProof.Rows.callWith_type1 (cv (ha pos pins s σ H _ I h) fun us s1 ⟨vs,H1,I1,r1,q1⟩=>?_) (cG hs) (j5 (by simp[gR,hs2,hs3]))))
 obtain⟨i,j,e,⟨q1,q2,q3,q4⟩,q⟩:=q1
 subst e
 cases r1 with
 |cons r rr=>
  cases rr with
  |cons r' rr=>
   cases rr with
   |cons r'' rr=>
    cases rr
    obtain⟨t,rfl⟩:=r
    obtain⟨t',rfl⟩:=r'
    obtain⟨t'',rfl⟩:=r''
    refine call_range_3 (by decide) ?_ (Or.inl (PyProof.noPylong_of_log2 (by decide+kernel)))
    refine wpAny_pyIter_range (IsRange.new ..) (small_down q1 q2 q3 q4) ?_
    have I2:Inv X pins σ H1 {s1 with heap:=s1.heap.push {cls:= .type "range",data:= .fields #[.int i t,.int j t',.int (-1) t'']},toks:=s1.toks}:=I1.kept fun b o e=>Heap.get?_push_of_some _ e
    generalize({s1 with heap:=s1.heap.push {cls:= .type "range",data:= .fields #[.int i t,.int j t',.int (-1) t'']},toks:=s1.toks}:Shared)=s2 at I2⊢
    refine⟨s2.heap.objs.size,[s2.heap.objs.size],_,_,H1,rfl,I2.kept (t':=s2.toks) fun b o e=>Heap.get?_push_of_some _ e,CF _ i (i-j).toNat,?_,fun b hb=>?_,q⟩
    · show IsRangeIter _ _ (i+((0:Nat):Int)*(-1)) ((((i-j).toNat:Nat):Int)-((0:Nat):Int)) (-1)
      have e1:i+((0:Nat):Int)*(-1)=i:=by omega
      have e2:(((i-j).toNat:Nat):Int)-((0:Nat):Int)=Builtin.Range.rangeSize i j (-1):=by rw[vi];omega
      rw[e1,e2]
      exact Heap.get?_push_size _ rfl
    · have e:b=s2.heap.objs.size:=by simpa using hb
      subst e
      exact I2.sQ (Nat.le_refl _) (I2.aM.fresh (Nat.le_refl _))
end
noncomputable def iB(a:Int)(n:Nat):List D:=(List.range n).map fun(k:Nat)=>D.int (a+(k:Nat)*(-1))
theorem vo{a:Int}{n k:Nat}:(iB a n)[k]?=if k<n then some (.int (a+(k:Nat)*(-1)))else none:=by
 unfold iB
 rw[List.getElem?_map]
 by_cases h:k<n
 · rw[List.getElem?_range h,if_pos h];rfl
 · rw[List.getElem?_eq_none (by simpa using h),if_neg h];rfl
theorem nV{a:Int}{n:Nat}:(iB a n).length=n:=by unfold iB;simp
theorem F_{α:List (Option Addr)}{G:Hp}{a:Int}{n:Nat}:sZ (IC a n) α G (fun _=>True) (iB a n) where
 stop:=fun m α' G' F' H' st' s P S o hn=>by rw[nV]at hn;exact hn
 go:=fun m d α' G' F' H' st' s P S o hn=>by
  rw[vo]at hn
  split at hn
  · assumption
  · cases hn
 oo:=fun m d α' G' F' H' st' x H'' s P S o hn y=>by
  obtain⟨rfl,rfl⟩:=y
  rw[vo]at hn
  split at hn
  · cases hn
    exact⟨G',Step.refl,P,S,by unfold Rep;rfl⟩
  · cases hn
noncomputable def Mq(ds:List D)(st1:ai)(K:List D→(ai→Prop)→ai→Prop):Prop:=match ds with
 | [.int i,.int j,.int c]=>(c= -1∧ -(2^62)≤i∧i<2^62∧ -(2^62)≤j∧j<2^62)∧K (iB i (i-j).toNat) (fun _=>True) st1
 |_=>False
@[irreducible] noncomputable def wA:List D→ai→(List D→(ai→Prop)→ai→Prop)→Prop:=Mq
noncomputable def uE(t:DA):DI:=fun σ st K=>t σ st fun ds st1=>wA ds st1 K
theorem BG{X:Cx}{tg iter:Expr}{t:DA}(h:PI X tg iter (FQ (LA t))):PI X tg iter (LI (uE t)):=PI.imp h fun σ H R ⟨α,σd,st,K,G,F,P,RS,S,t,k⟩=>by
 refine⟨α,σd,st,_,G,F,P,RS,S,t,fun ds st1 q α1 G1 H1 vs s1 P1 S1 r1=>?_⟩
 unfold wA at q
 match ds,q,r1 with
 | [.int i,.int j,.int c],q,r1=>
   obtain⟨v,u,w,rfl,r2,r3,r4⟩:=Fl r1 rfl
   unfold Rep at r2 r3 r4
   subst r2 r3 r4
   obtain⟨⟨rfl,q1⟩,q2⟩:=q
   exact⟨i,j,rfl,q1,k _ _ st1 q2 _ α1 G1 H1 s1 P1 S1 F_⟩
theorem HP{st:ai}{i j:Int}{K:List D→(ai→Prop)→ai→Prop}(h: -(2^62)≤i∧i<2^62∧ -(2^62)≤j∧j<2^62)(k:K (iB i (i-j).toNat) (fun _=>True) st):wA [.int i,.int j,.int (-1)] st K:=by unfold wA;exact⟨⟨rfl,h⟩,k⟩
theorem DY{X:Cx}{tg a b c:Expr}{p pos:Pos}{ar:DA}(hg:Gl X "range")(hm:X.mg "range"=none)(ha:JA X [a,b,c] ar)(hs:notStar a=true:=by rfl)(hs2:notStar b=true:=by rfl)(hs3:notStar c=true:=by rfl):JI X tg (.Call (.Name "range" p) [a,b,c] [] pos) (uE ar):=by
 unfold JI;unfold JA at ha;exact BG (Cw hg hm ha hs hs2 hs3)
section
variable {X:Cx}
end
end L3
namespace L3
open PySem L2
open PySem.Spec hiding items?
open PyProof.Rows hiding St
section
variable {X:Cx}{e o i value:Expr}{es:List Expr}{te to ti:DE}{t:DA}{pos pos' tpos apos p:Pos}{C f:Addr}{fl m x:Str}{S:cJ}{k:Nat}{fd:FuncData}{ps:List Str}
theorem Ca{value o:Expr}{fl:Str}{pos':Pos}{n:Nat}{env:Env}:swapsWith value (some (.Attribute o fl pos')) n env=pure false:=by cases value<;>rfl
theorem dz(c:ny X.K C)(na:ia X.K C fl)(he:JE X e te)(hb:attributeBase e fl X.env (eval e X.env)=eval e X.env:=by rfl):JE X (.Attribute e fl pos) (eC C fl te):=by unfold JE at*;exact Ml c na he hb
theorem m9(c:ny X.K C)(na:ia X.K C fl)(ho:JE X o to)(hv:JE X value te):JS X (.Assign [.Attribute o fl pos'] value pos) (nX C fl to te):=by unfold JS;unfold JE at*;exact Kg c na ho hv Ca
theorem mi{pl:Sem Bool}(he:JE X o to)(c:ny X.K C)(hm:Meth X.K C m f)(F:au X.prog X.w X.K X.mg X.base aD k f fd ps (aF S))(hr:dg k X.A)(hb:Binds X.K fd ps [])(ha:JA X (e::es) t)
 (hs:notStar e=true:=by rfl) (hs2:gR es=true:=by rfl)
 (ht:eval (.Call (.Attribute o m apos) (e::es) [] pos) X.env=(do
   let ov ←eval o X.env
   standAt apos.atName
   let(f,first) ←holding [ov] (getMethod ov m pl)
   callWith pos f first (backTo pos (starEach (e::es) X.env)) (backToKw pos (keywordEach [] X.env))):=by rfl):
 JE X (.Call (.Attribute o m apos) (e::es) [] pos) (jR C m S to t):=by
 unfold JE at*
 unfold JA at ha
 exact PE.imp (GD he c hm F hr hb .nil Ab ha (cG hs) (j5 hs2) ht) fun _ _ _ h=>LE.Li h
theorem I_(M:Mk X.K C f)(F:au X.prog X.w X.K X.mg X.base aD k f fd ps (aF S))(hr:dg (k+1) X.A)(hg:Gl X x)(hmg:X.mg x=some (.ref C))(hb:Binds X.K fd ps [])(ha:JA X (e::es) t)(hdb:(x==("__debug__":Str))=false)
 (hs:notStar e=true:=by rfl) (hs2:gR es=true:=by rfl):JE X (.Call (.Name x p) (e::es) [] pos) (Ad C S t):=by
 unfold JE
 unfold JA at ha
 exact PE.imp (Hv M F hr hg hmg hb .nil Ab ha hdb (cG hs) (j5 hs2)) fun _ _ _ h=>LE.make h
end
end L3
namespace L2
open PySem PySem.Spec PyProof.Rows
structure Entry(K:PySem.W.Frag)(ts:List (Addr×Addr))(a:Addr)(ns:List Int)(H:Hp):Prop where
 lst:mr K H a (ns.map V.int)
 tab:∀q∈ts,H q.2=some (.kb #[])∧q.2≠a
theorem vH:∀ {vs:List Value} {ns:List Int},IntsAre vs ns→Vals (ns.map V.int) vs
 |_,_,.nil=> .nil
 |_,_,.cons n t h=> .cons ⟨t,rfl⟩ (vH h)
structure EJ(K:PySem.W.Frag)(ts:List (Addr×Addr))(h:Heap):Prop where
 hd:∀q∈ts,PySem.W.codeHdIn K q.1 q.2=true
 no:∀q∈ts,K.lookup q.2=none
 at':∀q∈ts,h.get? q.2=some (PySem.W.tabObj #[])
theorem BB{P:Program}{w:World}{K:PySem.W.Frag}{mg mb:Str→Option Value}{k:Nat}{fa a:Addr}{fd:FuncData}{x:Str}{sp:Sp}{s₁:Shared}{vs:List Value}{ns:List Int}{ts:List (Addr×Addr)}
 (KX:K.In s₁.heap) (hns:s₁.heap.Ns mainGlobals mg) (hb:s₁.heap.Ns builtinsNs mb) (hbb:∀x:Str,x≠"__name__"→mb x=bootBuiltins x) (hlim:s₁.heap.NoLimit) (hse:s₁.heap.NoSeer) (hgt:P.given.tree=none)
 (hbm:∃bm ob,mg "__builtins__"=some (.ref bm)∧bm≠builtinsNs∧s₁.heap.get? bm=some ob∧ob.cls= .type "module"∧ob.dict=some builtinsNs∧ob.data= .plain) (hT:EJ K ts s₁.heap) (hg:s₁.gens= #[])
 (ha:s₁.heap.get? a=some {cls:= .type "list",data:= .seq vs.toArray}) (hi:IntsAre vs ns) (hl:ns.length≤sizeLine) (hr:dg k callerA)
 (F:∀base:Heap,K.In base→base.Ns mainGlobals mg→au P w K mg base (fun _ _ _ _ _ _=>False) k fa fd [x] sp) (hbind:∀(s:Shared) (u:Value),BindsTo s fd ⟨[u],[]⟩ [(x,u)])
 (hsp:∀H:Hp,Entry K ts a ns H→sp [.ref a] H (fun v _=>v= .bl true) fun _ _ _=>False):
 codeAny (model P w) callerA (.call (.ref fa) ⟨[.ref a],[]⟩) (fun r s'=>r= .ok (.ret (.bool true))∧OldK s₁.heap s'.heap∧s'.os=s₁.os∧AllBare s'.gens) s₁:=by
 have rv:=vH hi
 have lenV:=hi.length
 have nta:∀q∈ts,q.2≠a:=fun q hq z=>by
  have:=hT.at' q hq
  rw[z,ha]at this
  cases this
 let sc:Option HO:=match K.lookup a with
  |some _=>none
  |none=>some (.g9 {cls:= .type "list",data:= .seq vs.toArray} (.lst (ns.map V.int)))
 let H:Hp:=fun b=>if b=a then sc else if b∈ts.map (·.2)then some (.kb #[])else none
 have Ha:H a=sc:=if_pos rfl
 have Ht:∀q∈ts,H q.2=some (.kb #[]):=fun q hq=>by
  show(if q.2=a then sc else if q.2∈ts.map (·.2)then some (HO.kb #[])else none)=_
  rw[if_neg (nta q hq),if_pos (List.mem_map_of_mem hq)]
 have Hs:∀b u,H b=some u→(b=a∧K.lookup a=none∧u= .g9 {cls:= .type "list",data:= .seq vs.toArray} (.lst (ns.map V.int)))∨(∃q∈ts,q.2=b∧u= .kb #[]):=fun b u e=>by
  have e':(if b=a then sc else if b∈ts.map (·.2)then some (HO.kb #[])else none)=some u:=e
  by_cases hba:b=a
  · rw[if_pos hba]at e'
    have e2:(match K.lookup a with
     |some _=>none
     |none=>some (HO.g9 {cls:= .type "list",data:= .seq vs.toArray} (.lst (ns.map V.int))))=some u:=e'
    cases q:K.lookup a with
    |some o=>rw[q]at e2;cases e2
    |none=>rw[q]at e2;cases e2;exact .inl ⟨hba,rfl,rfl⟩
  · rw[if_neg hba]at e'
    by_cases hbt:b∈ts.map (·.2)
    · rw[if_pos hbt]at e';cases e'
      obtain⟨q,hq,e⟩:=List.mem_map.mp hbt
      exact .inr ⟨q,hq,e,rfl⟩
    · rw[if_neg hbt]at e';cases e'
 have aM:iP P w H s₁.heap:=fun b u e=>by
  rcases Hs b u e with⟨rfl,_,rfl⟩|⟨q,hq,rfl,rfl⟩
  · exact⟨ha,by rw[List.length_map];exact hl,vs,_,rv,ha⟩
  · exact hT.at' q hq
 have hE:Entry K ts a ns H:=by
  refine⟨?_,fun q hq=>⟨Ht q hq,nta q hq⟩⟩
  cases q:K.lookup a with
  |some o=>
   have e:=KX a o q
   rw[ha]at e;cases e
   exact .inr ⟨_,vs.toArray,_,q,rfl,rfl,rfl,by rw[List.size_toArray,lenV];exact hl,by simpa using rv⟩
  |none=>
   refine .inl (.inr ⟨{cls:= .type "list",data:= .seq vs.toArray},?_⟩)
   rw[Ha]
   show(match K.lookup a with
    |some _=>none
    |none=>some (HO.g9 {cls:= .type "list",data:= .seq vs.toArray} (.lst (ns.map V.int))))=_
   rw[q]
 have dictNo:∀ {b:Addr} {o:Obj},s₁.heap.get? b=some o→(∀es ep,o.data≠ .seq es ep)→o.cls≠ .none→H b=none:=fun{b o} e d1 d2=>by
  cases q:H b with
  |none=>rfl
  |some u=>
   rcases Hs b u q with⟨rfl,_,_⟩|⟨t,ht,rfl,_⟩
   · rw[ha]at e;cases e;exact absurd rfl (d1 _ _)
   · rw[hT.at' t ht]at e;cases e;exact absurd rfl d2
 have nsK:∀ {b:Addr} {m:Str→Option Value},s₁.heap.Ns b m→(ow s₁.heap H).Ns b m:=fun{b m} ⟨o,es,ep,e,d,r⟩=>by
  refine⟨o,es,ep,o6 e ?_,d,r⟩
  cases q:H b with
  |none=>rfl
  |some u=>
   rcases Hs b u q with⟨rfl,_,_⟩|⟨t,ht,rfl,_⟩
   · rw[ha]at e;cases e;cases d
   · rw[hT.at' t ht]at e;cases e;cases d
 have hKb:K.In (ow s₁.heap H):=fun b o e=>o6 (KX b o e) (by
  cases q:H b with
  |none=>rfl
  |some u=>
   rcases Hs b u q with⟨rfl,z,_⟩|⟨t,ht,rfl,_⟩
   · rw[z]at e;cases e
   · rw[hT.no t ht]at e;cases e)
 obtain⟨bm,ob,b1,b2,b3,b4,b5,b6⟩:=hbm
 have hbmK:(ow s₁.heap H).get? bm=some ob:=o6 b3 (dictNo b3 (fun es ep z=>by rw[b6]at z;cases z) (fun z=>by rw[b4]at z;cases z))
 have seK:(ow s₁.heap H).NoSeer:=by
  obtain⟨⟨m1,a1,a2⟩,⟨m2,c1,c2⟩,⟨m3,d1,d2⟩,⟨mg',bm',ob',e1,e2,e3,e4,e5⟩⟩:=hse
  refine⟨⟨m1,nsK a1,a2⟩,⟨m2,nsK c1,c2⟩,⟨m3,nsK d1,d2⟩,⟨mg',bm',ob',nsK e1,e2,o6 e3 ?_,e4,e5⟩⟩
  cases q:H bm' with
  |none=>rfl
  |some u=>
   rcases Hs bm' u q with⟨rfl,_,_⟩|⟨t,ht,rfl,_⟩
   · rw[ha]at e3;cases e3;exact absurd (show Value.type "list"=Value.type "module" from e4) (by intro z;injection z with z;exact absurd z (by decide))
   · rw[hT.at' t ht]at e3;cases e3;cases e4
 have hM:Mod K mg (ow s₁.heap H):=⟨hKb,nsK hns,⟨mb,nsK hb,hbb⟩,let⟨mc,h1,h2⟩:=hlim;⟨mc,nsK h1,h2⟩,seK,⟨bm,ob,b1,b2,hbmK,b4,b5,b6⟩⟩
 have e0:s_ P w K mg (ow s₁.heap H) callerA [] s₁ H:=⟨rfl,hM,fun b o e=>HU e,Nat.le_of_eq (BK _ _),trivial,fun b hb=>absurd (show b∈([]:List Addr)from hb) (by simp),aM,.of_eq hg,hgt⟩
 refine codeAny_mono ((F _ hKb (nsK hns)).run callerA [] s₁ H ⟨[.ref a],[]⟩ [.ref a] [.ref a] _ _ hr e0 (hbind s₁ (.ref a)) (.cons rfl .nil) (hsp H hE)) fun r s' h=>?_
 cases r with
 |error e=>exact False.elim h
 |ok fl=>
  cases fl with
  |next=>exact False.elim h
  |brk=>exact False.elim h
  |cont=>exact False.elim h
  |ret u=>
   obtain⟨v,H',os,bare,un,hok',r',q⟩:=h
   have q':v= .bl true:=q
   subst q'
   obtain rfl:u=Value.bool true:=r'
   have noF:∀b:Addr,b∉oN ([]:List Env):=fun b z=>absurd (show b∈([]:List Addr)from z) (by simp)
   refine⟨rfl,⟨fun b o e=>?_,fun b o e=>un.there b o e (by simp)⟩,os,bare⟩
   cases q:H b with
   |none=>exact .inl (un.keep b o e q (noF b) (by simp))
   |some u=>
    rcases Hs b u q with⟨rfl,_,rfl⟩|⟨t,ht,rfl,rfl⟩
    · obtain⟨e2,_⟩:=hok' b _ (un.nJ b _ _ q)
      rw[ha]at e;cases e
      exact .inl e2
    · obtain⟨more,e1⟩:=un.nG _ _ q
      have e2:s'.heap.get? t.2=some {cls:= .none,data:= .fields (#[]++more)}:=hok' _ _ e1
      have e3:=hT.at' t ht
      rw[e3]at e;cases e
      have C:PySem.W.CodeHd s₁.heap t.1 t.2:=PySem.W.codeHd_of_K KX (hT.hd t ht)
      exact .inr (.inl ⟨(C.tab e3).isCodeTable,rfl,#[],more,rfl,e2⟩)
theorem LW{l:PySem.W.OpenLaw}{n k:Nat}{q:Program}{loose:List Str}{XP:(Str→Option Value)→Heap→Prop}{YP:World→Heap→Prop}{d:DefRec}{K:Params→PySem.W.Frag}{sp:World→Sp}{x:Str}{ts:List (Addr×Addr)}
 (hn:l.most=some n) (hn2:n≤sizeLine) (hdf:d.params.defaults=[]) (hr:dg k callerA) (hq:importsNone q=true) (hgt:l.prog.given.tree=none)
 (hY:∀(w:World) (h:Heap),YP w h→(K w.params).In h∧EJ (K w.params) ts h)
 (F:∀(w:World) (mg:Str→Option Value) (fa:Addr) (h:Heap),(K w.params).In h→h.Ns mainGlobals mg→mg d.name=some (.ref fa)→
   ∃fd:FuncData,(∀(s:Shared) (u:Value),BindsTo s fd ⟨[u],[]⟩ [(x,u)])∧
    ∀base:Heap,(K w.params).In base→base.Ns mainGlobals mg→au l.prog w (K w.params) mg base (fun _ _ _ _ _ _=>False) k fa fd [x] (sp w))
 (hsp:∀(w:World) (H:Hp) (a:Addr) (ns:List Int),ns.length≤n→Entry (K w.params) ts a ns H→sp w [.ref a] H (fun v _=>v= .bl true) fun _ _ _=>False):
 PySem.W.WalkO q loose XP YP l.row.toRowW d [] (fun f vs=>PySem.call f vs):=by
 refine Att.yE hn hdf fun w s₀ s₁ mg mb fa o pm cd doc a vs ns G Y ho hd hcd hmg hobj hints hlen hg=>?_
 obtain⟨KX,hT⟩:=hY w _ Y
 obtain⟨fd,hb,hF⟩:=F w mg fa _ KX G.T.g hmg
 exact BB KX G.T.g G.T.b G.T.builtins G.T.nolimit (G.T.seer hq) hgt G.T.bmain hT hg hobj hints (Nat.le_trans hlen hn2) hr hF hb fun H hE=>hsp w H a ns hlen hE
end L2
namespace L3
open PySem PySem.Spec L2
open PyProof.Rows hiding St
section
variable {X:Cx}{pins:List (Addr×Obj)}{σ:L2.St}{H:Hp}{s:Shared}{p:Addr}{o o':Obj}{h':Heap}
theorem k_{t':Nat}(I:Inv X pins σ H s)(hd:∀v,o.data≠ .cell v)(hfr:o.isFreed=false:=by rfl):Inv X (pins++[(s.heap.objs.size,o)]) σ H {s with heap:=s.heap.push o,toks:=t'}:=by
 have I':=I.kept (h':=s.heap.push o) (t':=t') (fun b u e=>Heap.get?_push_of_some _ e)
 refine I'.rD fun q hq=>?_
 rcases List.mem_append.mp hq with hq|hq
 · exact I'.pin q (List.mem_append_right _ hq)
 · have e:q=(s.heap.objs.size,o):=by simpa using hq
   subst e
   exact⟨Heap.get?_push_size _ hfr,I.aM.fresh (Nat.le_refl _),Nat.ne_of_gt I.lt,I.H0 (Nat.le_refl _),hd⟩
theorem gH(I:Inv X (pins++[(p,o)]) σ H s):s.heap.get? p=some o∧H p=none∧p≠X.env.locals∧p∉X.fs∧∀v,o.data≠ .cell v:=
 I.pin (p,o) (List.mem_append_right _ (List.mem_append_right _ (List.mem_singleton.mpr rfl)))
theorem yu(I:Inv X (pins++[(p,o)]) σ H s):∀x c,X.env.cells.lookup x=some c→c≠p:=fun x c e z=>by
 obtain⟨v,u,hu,hd⟩:=I.cell x c e
 obtain⟨h1,_,_,_,h5⟩:=gH I
 rw[z,h1]at hu;cases hu
 exact h5 v hd
theorem nE{t':Nat}(I:Inv X (pins++[(p,o)]) σ H s)(hs:Heap.SameBut p s.heap h')(hn:h'.get? p=some o')(hd:∀v,o'.data≠ .cell v)(h0:X.s₀.heap.objs.size≤p)(hp:∀q∈X.pn++pins,q.1≠p):
 Inv X (pins++[(p,o')]) σ H {s with heap:=h',toks:=t'}:=by
 obtain⟨_,n,neL,nfs,_⟩:=gH I
 have I0:Inv X pins σ H s:=I.iJ
 have I1:=I0.turned (t':=t') (h':=h') (it:=p) (fun b u hb e=>(hs.2 b hb).trans e) n neL (.inr h0) (yu I) hp
 refine I1.rD fun q hq=>?_
 rcases List.mem_append.mp hq with hq|hq
 · exact I1.pin q (List.mem_append_right _ hq)
 · have e:q=(p,o'):=by simpa using hq
   subst e
   exact⟨hn,n,neL,nfs,hd⟩
theorem BP{u:HO}(I:Inv X (pins++[(p,o)]) σ H s)(h0:X.s₀.heap.objs.size≤p)(hp:∀q∈X.pn++pins,q.1≠p)(new:dO X.prog X.w (upd H p u) s.heap p u):Inv X pins σ (upd H p u) s:=by
 obtain⟨e0,n,neL,nfs,_⟩:=gH I
 have ne:∀ {b:Addr} {w:HO},H b=some w→b≠p:=fun e=>dQ e n
 have ne0:∀ {b:Addr} {w:Obj},X.s₀.heap.get? b=some w→b≠p:=fun e=>Nat.ne_of_lt (Nat.lt_of_lt_of_le (Heap.lt_size e) h0)
 refine⟨I.ok,I.os,I.bare,⟨I.base.keep,I.base.slot,fun b w e q hx=>?_,I.base.there,fun b xs e=>?_,fun b w y e=>?_,fun b ps e=>?_⟩,I.loc,I.cell,?_,fun x c e=>?_,fun q hq=>?_,fun b w e=>?_,I.len⟩
 · rw[aP (ne0 e)];exact I.base.free b w e q hx
 · have:=I.base.ox b xs e;rw[aP (ne this)];exact this
 · have:=I.base.nJ b w y e;rw[aP (ne this)];exact this
 · obtain⟨m,q⟩:=I.base.nG b ps e
   exact⟨m,by rw[aP (ne q)];exact q⟩
 · rw[aP (Ne.symm neL)];exact I.free
 · rw[aP (yu I x c e)];exact I.i6 x c e
 · have hq':q∈X.pn++(pins++[(p,o)]):=by
    rcases List.mem_append.mp hq with z|z
    · exact List.mem_append_left _ z
    · exact List.mem_append_right _ (List.mem_append_left _ z)
   obtain⟨a1,a2,a3⟩:=I.pin q hq'
   exact⟨a1,by rw[aP (hp q hq)];exact a2,a3⟩
 · by_cases hb:b=p
   · subst hb;rw[aY]at e;cases e;exact new
   · rw[aP hb]at e
     exact(I.aM b w e).ou (fun _ _ _ q=>q) (fun c q=>by rw[aP (ne q)];exact q) fun c xs q=>by rw[aP (ne q)];exact q
end
noncomputable def mO(X:Cx)(pins:List (Addr×Obj))(σ:L2.St)(R:Hp→Prop)(own:List (Addr×Obj))(s:Shared):Prop:=∃H,Inv X (pins++own) σ H s∧R H
section
variable {X:Cx}{pins:List (Addr×Obj)}{σ:L2.St}{R:Hp→Prop}{s:Shared}{A:Around}{E:Value→Shared→Prop}{a kS:Addr}{e1 e:Nat}{keys:Array Value}{P:PySem.Fin→Shared→Prop}
structure Own(X:Cx)(pins:List (Addr×Obj))(p:Addr):Prop where
 ge:X.s₀.heap.objs.size≤p
 ne:∀q∈X.pn++pins,q.1≠p
theorem qT{H:Hp}(I:Inv X pins σ H s):Own X pins s.heap.objs.size:=⟨I.sz,fun q hq=>Nat.ne_of_lt (Heap.lt_size (I.pin q hq).1)⟩
theorem yl{p:Addr}{q:Addr×Obj}(h:Own X pins p)(hq:q.1≠p):Own X (pins++[q]) p:=⟨h.ge,fun r hr=>by
 rcases List.mem_append.mp hr with z|z
 · exact h.ne r (List.mem_append_left _ z)
 · rcases List.mem_append.mp z with z|z
   · exact h.ne r (List.mem_append_right _ z)
   · have e:r=q:=by simpa using z
     rw[e];exact hq⟩
theorem xV{x y:Addr×Obj}(J:mO X pins σ R [x,y] s):∃H,Inv X ((pins++[x])++[y]) σ H s∧R H:=by
 obtain⟨H,I,r⟩:=J
 exact⟨H,by rw[List.append_assoc];exact I,r⟩
theorem BL{x y:Addr×Obj}{H:Hp}(I:Inv X ((pins++[x])++[y]) σ H s)(r:R H):mO X pins σ R [x,y] s:=⟨H,by rw[List.append_assoc]at I;exact I,r⟩
theorem xw{st:SortSt}(J:mO X pins σ R [(a,seqObj "list" #[] e1),(kS,seqObj "list" keys e)] s)(ha:Own X pins a)(hk:Own X pins kS)(hka:kS≠a)(hz1:keys.size≤sizeLine)(hz2:(arrOf st).size≤sizeLine)(hf:failedOf st=none)
 (h:∀s' c,mO X pins σ R [(a,seqObj "list" ((arrOf st).map (·.2)) c)] s'→P (.done (.ret .none)) s'):
 wpAny (model X.prog X.w) A (PyProof.Rows.ksk_tail a false e1 (.ref kS) st) P E s:=by
 obtain⟨H,I,r⟩:=xV J
 have k1:=(gH I).1
 have s1:=Heap.SameBut.update s.heap kS (Obj.mapSeq fun _=>(#[]:Array Value))
 have I1:=nE (t':=s.toks) I s1 (get?_update_seq k1 fun _=> #[]) (fun v z=>by cases z) hk.ge (yl hk hka.symm).ne
 have I2:Inv X (pins++[(a,seqObj "list" #[] e1)]) σ H {s with heap:=s.heap.update kS (Obj.mapSeq fun _=>(#[]:Array Value)),toks:=s.toks}:=I1.iJ
 have a1:=(gH I2).1
 have s2:=Heap.SameBut.update (s.heap.update kS (Obj.mapSeq fun _=>(#[]:Array Value))) a (Obj.mapSeq fun _=>(arrOf st).map (·.2))
 have I3:=nE (t':=s.toks) I2 s2 (get?_update_seq a1 fun _=>(arrOf st).map (·.2)) (fun v z=>by cases z) ha.ge ha.ne
 unfold ksk_tail
 simp only[Bool.false_eq_true,if_false]
 refine wpAny_bind (listUpdate_at k1 rfl ?_ hz1 (Nat.zero_le _))
 refine wpAny_bind (wpAny_letGo ?_)
 refine wpAny_bind (seqEpoch_at a1 rfl ?_)
 refine wpAny_bind (listUpdate_at a1 rfl ?_ (Nat.zero_le _) (Nat.le_succ_of_le (by rw[Array.size_map];exact hz2)))
 rw[hf]
 simp only[bne_self_eq_false,Bool.false_eq_true,if_false]
 exact wpAny_pure (h _ _ ⟨H,I3,r⟩)
noncomputable def A3(kz:List Int)(vs out:List Value):Prop:=
 ∃ps:List (Int×Value),ps.Perm (kz.zip vs)∧out=ps.map Prod.snd∧ps.Pairwise fun p q=>p.1≤q.1
theorem zc{kz:List Int}{vs:List Value}(hk:IntsAre keys.toList kz){xs:Array Keyed}(hp:xs.Perm (keys.zip vs.toArray))(hs:SortedTo xs xs.size):A3 kz vs (xs.map (·.2)).toList:=by
 obtain⟨ps,h1,h2,h3⟩:=ksk_out hk (b:=false) hp hs
 exact⟨ps,h1,h2,h3⟩
theorem Gv{kz:List Int}{vs:List Value}(J:mO X pins σ R [(a,seqObj "list" #[] e1),(kS,seqObj "list" keys e)] s)(ha:Own X pins a)(hk:Own X pins kS)(hka:kS≠a)(hi:IntsAre keys.toList kz)(hl:kz.length=vs.length)(h64:vs.length<64)
 (h:∀s' out c,mO X pins σ R [(a,seqObj "list" out c)] s'→A3 kz vs out.toList→P (.done (.ret .none)) s'):
 wpAny (model X.prog X.w) A (ksk_end a false vs.toArray e1 (.ref kS) keys) P E s:=by
 have hsz:keys.size=vs.length:=by have:=hi.length;rw[Array.length_toList]at this;omega
 have hzs:(keys.zip vs.toArray).size=vs.length:=by rw[Array.size_zip,hsz,List.size_toArray,Nat.min_self]
 have hbig:vs.length≤sizeLine:=Nat.le_trans (Nat.le_of_lt h64) (by decide)
 unfold ksk_end
 simp only[Bool.false_eq_true,if_false]
 by_cases h2:vs.toArray.size<2
 · rw[if_pos h2,if_pos h2]
   refine wpAny_bind (wpAny_pure ?_)
   rw[StateT.run_pure]
   refine wpAny_bind (wpAny_pure ?_)
   refine xw (st:=SortSt.mk' general' (keys.zip vs.toArray) #[] 7 none) J ha hk hka (by omega) (by show(keys.zip vs.toArray).size≤_;omega) rfl fun s' c J'=>h s' _ c J' ?_
   refine zc hi (Array.Perm.refl _) fun i j hij hj=>?_
   have hj':j<(keys.zip vs.toArray).size:=hj
   rw[List.size_toArray]at h2
   have:i=j:=by omega
   rw[this];exact Int.le_refl _
 · rw[if_neg h2,if_neg h2]
   rw[List.size_toArray]at h2
   rw[ksk_kind hi (by omega)]
   refine wpAny_bind (wpAny_pure ?_)
   refine wpAny_bind (wpAny_mono (wpS_sortRuns (a₀:=keys.zip vs.toArray) (st:=SortSt.mk' oneType' (keys.zip vs.toArray) #[] 7 none)
    (Q:=fun _ st'=>(arrOf st').Perm (keys.zip vs.toArray)∧failedOf st'=none∧SortedTo (arrOf st') (keys.zip vs.toArray).size)
    (ksk_intKeys hi) ⟨Array.Perm.refl _,rfl,rfl,rfl⟩ (by omega) (by omega) fun st' b1 b2 b3=>⟨b1,b2,b3⟩) ?_ fun _ _ z=>z)
   rintro⟨⟨⟩,st'⟩ s' ⟨rfl,hp,hf,hs⟩
   have hz2:=hp.size_eq
   refine xw (st:=st') J ha hk hka (by omega) (by rw[hz2];omega) hf fun s' c J'=>h s' _ c J' (zc hi hp (by rw[hz2];exact hs))
theorem Eg{f:Value}{kz:List Int}{vs:List Value}(J:mO X pins σ R [(a,seqObj "list" #[] e1),(kS,seqObj "list" #[] 0)] s)(ha:Own X pins a)(hk:Own X pins kS)(hka:kS≠a)(hl:kz.length=vs.length)(h64:vs.length<64)
 (turn:∀(i:Nat) (v:Value) (k:Int),vs[i]?=some v→kz[i]?=some k→∀(own:List (Addr×Obj)) (s:Shared),mO X pins σ R own s→wpAny (model X.prog X.w) A (call f [v]) (fun u s'=>(∃t,u= .int k t)∧mO X pins σ R own s') (fun _ _=>False) s)
 (h:∀s' out c,mO X pins σ R [(a,seqObj "list" out c)] s'→A3 kz vs out.toList→P (.done (.ret .none)) s'):
 wpAny (model X.prog X.w) A (ksk_rest a f false vs.toArray e1 (.ref kS)) P E s:=by
 have hbig:vs.length≤sizeLine:=Nat.le_trans (Nat.le_of_lt h64) (by decide)
 unfold ksk_rest
 refine wpAny_bind (wpAny_rule ?_)
 first
  |rw[List.forIn_toArray]
  |(rw[←Array.forIn_toList];simp only[List.toList_toArray])
  |rw[←Array.forIn_toList]
 refine wpAny_bind (ksk_fold (fun i s'=>∃kA e,mO X pins σ R [(a,seqObj "list" #[] e1),(kS,seqObj "list" kA e)] s'∧IntsAre kA.toList (kz.take i)) vs 0 s ⟨#[],0,J,by simpa using IntsAre.nil⟩ ?st ?en)
 case st=>
  rintro j x s' hx ⟨kA,e,J',hk'⟩
  simp only[Nat.zero_add]at hk'⊢
  have hj:j<vs.length:=(List.getElem?_eq_some_iff.mp hx).1
  have hkj:kz[j]?=some (kz[j]'(by omega)):=List.getElem?_eq_getElem _
  have hz:kA.size≤vs.length:=by
   have:=hk'.length
   rw[Array.length_toList,List.length_take]at this
   omega
  refine wpAny_bind (wpAny_attempt (wpAny_mono (turn j x _ hx hkj _ s' J') (fun v s2 he=>?_) fun _ _ z=>z.elim))
  obtain⟨⟨t,rfl⟩,J2⟩:=he
  obtain⟨H,I,r⟩:=xV J2
  have k1:=(gH I).1
  have s1:=Heap.SameBut.update s2.heap kS (Obj.mapSeq (·.push (.int (kz[j]'(by omega)) t)))
  have I1:=nE (t':=s2.toks) I s1 (get?_update_seq k1 (·.push (.int (kz[j]'(by omega)) t))) (fun v z=>by cases z) hk.ge (yl hk hka.symm).ne
  refine wpAny_bind (listUpdate_at k1 rfl ?_ (by omega) (Nat.le_trans (Nat.le_of_eq (Array.size_push ..)) (by omega)))
  refine wpAny_pure ⟨rfl,_,_,BL I1 r,?_⟩
  have ek:kz.take (j+1)=kz.take j++[kz[j]'(by omega)]:=by rw[List.take_add_one,hkj];simp
  rw[ek,Array.toList_push]
  exact ksk_snoc hk'
 case en=>
  rintro s' ⟨kA,e,J',hk'⟩
  rw[show kz.take (0+vs.length)=kz from List.take_of_length_le (by omega)]at hk'
  obtain⟨H,I,r⟩:=xV J'
  refine wpAny_bind (listItems_at (gH I).1 rfl ?_)
  exact Gv J' ha hk hka hk' hl h64 h
theorem Aa{f:Addr}{l:Addr}{kz:List Int}{vs:List Value}{H:Hp}{Q:Value→Shared→Prop}(I:Inv X pins σ H s)(r:R H)(hli:s.heap.IsList l vs.toArray)(hl:kz.length=vs.length)(h64:vs.length<64)
 (turn:∀(i:Nat) (v:Value) (k:Int),vs[i]?=some v→kz[i]?=some k→∀(own:List (Addr×Obj)) (s:Shared),mO X pins σ R own s→wpAny (model X.prog X.w) A.in1.in1 (call (.ref f) [v]) (fun u s'=>(∃t,u= .int k t)∧mO X pins σ R own s') (fun _ _=>False) s)
 (h:∀D s' out c,Own X pins D→mO X pins σ R [(D,seqObj "list" out c)] s'→A3 kz vs out.toList→Q (.ref D) s'):
 wpAny (model X.prog X.w) A (call (.builtin "sorted") [.ref l] [(Str.ofString "key",.ref f)]) Q E s:=by
 have hbig:vs.length≤sizeLine:=Nat.le_trans (Nat.le_of_lt h64) (by decide)
 refine call_function_entry_kw kind_sorted plain_sorted entry_sorted (ksk_s1 _ _) ?_
 unfold Builtin.«sorted»
 refine wpAny_bind (m:=checkCount "sorted" 1 1 _) (wpAny_pure ?_)
 refine wpAny_bind (collect_list hli ?_ hbig)
 have I1:=k_ (o:=seqObj "list" #[] 0) (t':=s.toks) I (fun v z=>by cases z)
 have s1:=Heap.SameBut.update (s.heap.push (seqObj "list" #[] 0)) s.heap.objs.size (Obj.mapSeq (· ++vs.toArray))
 have I2:=nE (t':=s.toks) I1 s1 (get?_update_seq (gH I1).1 (· ++vs.toArray)) (fun v z=>by cases z) (qT I).ge (qT I).ne
 have I3:Inv X pins σ H {s with heap:=(s.heap.push (seqObj "list" #[] 0)).update s.heap.objs.size (Obj.mapSeq (· ++vs.toArray)),toks:=s.toks}:=I2.iJ
 refine wpAny_bind (wpAny_newList ?_ hbig)
 generalize hs3:({s with heap:=(s.heap.push (seqObj "list" #[] 0)).update s.heap.objs.size (Obj.mapSeq (· ++vs.toArray))}:Shared)=s3
 have I3':Inv X pins σ H s3:=by rw[←hs3];exact I3
 have oD:=qT I3'
 have I4:=k_ (o:=seqObj "list" vs.toArray 0) (t':=s3.toks) I3' (fun v z=>by cases z)
 have hD:=(gH I4).1
 refine wpAny_bind (wpAny_holding (wpAny_call_entry_kw slot_list_sort ⟨_,hD,rfl⟩ entry_list_sort ?body (ksk_l1 _ _)))
 case body=>
  show wpAny (model X.prog X.w) A.in1.in1 (Builtin.«list.sort» ⟨[.ref s3.heap.objs.size],[(Str.ofString "key",.ref f)]⟩) _ _ _
  rw[ksk_t1]
  unfold ksk_tree
  refine wpAny_bind (listItems_at hD rfl ?_)
  have s5:=Heap.SameBut.update (s3.heap.push (seqObj "list" vs.toArray 0)) s3.heap.objs.size (Obj.mapSeq fun _=>(#[]:Array Value))
  have I5:=nE (t':=s3.toks) I4 s5 (get?_update_seq hD fun _=> #[]) (fun v z=>by cases z) oD.ge oD.ne
  have hD5:=(gH I5).1
  refine wpAny_bind (listUpdate_at hD rfl ?_ (by rw[List.size_toArray];exact hbig) (Nat.zero_le _))
  refine wpAny_bind (seqEpoch_at hD5 rfl ?_)
  refine wpAny_bind (wpAny_newTuple ?_ (by show vs.length≤_;exact hbig))
  have I6:=(k_ (o:=seqObj "tuple" vs.toArray 0) (t':=s3.toks) I5 (fun v z=>by cases z)).iJ
  refine wpAny_bind (wpAny_newList ?_ (Nat.zero_le _))
  have ok:=qT I6
  have I7:=k_ (o:=seqObj "list" #[] 0) (t':=s3.toks) I6 (fun v z=>by cases z)
  refine wpAny_holding ?_
  have okp:Own X pins _:=⟨ok.ge,fun q hq=>ok.ne q (by
   rcases List.mem_append.mp hq with z|z
   · exact List.mem_append_left _ z
   · exact List.mem_append_right _ (List.mem_append_left _ z))⟩
  refine Eg (BL I7 r) oD okp (fun z=>ok.ne (s3.heap.objs.size,_) (List.mem_append_right _ (List.mem_append_right _ (List.mem_singleton.mpr rfl))) z.symm) hl h64 turn fun s' out c J' so=>⟨_,rfl,?_⟩
  exact wpAny_pure ⟨_,rfl,h _ s' out c oD J' so⟩
end
end L3
namespace L3
open PySem PySem.Spec L2
open PyProof.Rows hiding St
structure mP(X:Cx)(scope:Scope)(Nc:List Str)(fr:List (Option Nat))(p:Str):Prop where
 sc:bI X scope Nc fr
 BY:∀x∈scope.names,x.2≠ .cell
 co:scope.isCoroutine=false
 gen:scope.isGenerator=false
 p0:Nc[0]?=some p
 f0:fr[0]?=some none
 loc:scope.names.lookup p=some .local
noncomputable abbrev A_(X:Cx)(scope:Scope)(qual:Str)(f c:Addr)(s:Shared):Env:=PySem.W.envX qual scope s.heap.objs.size f (.ref c) (dB X.env.cells scope.names [])
noncomputable def BR(X:Cx)(scope:Scope)(Nc:List Str)(qual:Str)(f c:Addr)(s:Shared)(H:Hp):Cx:=
 {X with A:=X.A.in1.in1.deeper (A_ X scope qual f c s),N:=Nc,s₀:=s,H₀:=H,env:=A_ X scope qual f c s,outer:=X.stack,stack:=A_ X scope qual f c s::X.stack,ex:=[],fn:=fun _=>false,calm:=true,pn:=[],xe:=fun _ _=>False}
section
variable {X:Cx}{scope:Scope}{Nc:List Str}{fr:List (Option Nat)}{p qual:Str}{f c:Addr}{pins:List (Addr×Obj)}{σ:L2.St}{H:Hp}{s:Shared}
theorem IG(S:mP X scope Nc fr p)(I:Inv X pins σ H s)(hc:X.calm=true):(BR X scope Nc qual f c s H).Ok where
 mod:=I.ok.mod
 kind:=S.sc.kind
 glob:=rfl
 blt:=rfl
 above:=Nat.le_refl _
 inj:=fun x y a h1 h2=>I.ok.inj x y a (df _ [] (fun _ _ e=>by cases e) x a h1) (df _ [] (fun _ _ e=>by cases e) y a h2)
 has:=fun x hx=>by
  have hx':scope.names.lookup x=some .cell∨scope.names.lookup x=some .free:=hx
  rcases hx' with hx|hx
  · exact absurd rfl (S.BY _ (PySem.mem_of_lookup hx))
  · exact jd scope.names [] (I.ok.has x (S.sc.free _ (PySem.mem_of_lookup hx) rfl)) (.inl (PySem.mem_of_lookup hx))
 xQ:=fun x a hf _=>by cases hf
 hd:=fun _=>I.ok.hd hc
 frames:=Around.frames_deeper (by show X.A.frames=_;exact I.ok.frames)
 zd:= .inr ⟨rfl,rfl⟩
 C6:=fun b hb=>by cases hb
 bs:=I.bs
 qp:=Nat.le_trans I.ok.qp I.sz
 su:=fun b o e hb=>by cases hb
 td:=fun b hb=>by cases hb
 kB:=I.stack
 tJ:=I.uC
 gt:=I.ok.gt
theorem GP{h':Heap}{t':Nat}{v:V}{u:Value}(S:mP X scope Nc fr p)(I:Inv X pins σ H s)(hc:X.calm=true)(r:RelV v u)(hn:h'.Ns s.heap.objs.size (fun x=>[(p,u)].reverse.lookup x))
 (k:∀b o,s.heap.get? b=some o→h'.get? b=some o):Inv (BR X scope Nc qual f c s H) [] ((σC fr σ).set 0 (some v)) H {s with heap:=h',toks:=t'} where
 ok:=IG S I hc
 os:=rfl
 bare:=I.bare
 base:=Un.kept k
 loc:=⟨_,hn,fun i x w h1 h2 h3=>by
  by_cases hi:i=0
  · subst hi
    have hp:=S.p0
    have e:p=x:=Option.some.inj (hp.symm.trans h1)
    subst e
    have hl:0<(σC fr σ).length:=by
     have:=(List.getElem?_eq_some_iff.mp h2).1
     rw[List.length_set]at this;exact this
    rw[List.getElem?_set_self hl]at h2
    cases h2
    exact⟨u,r,.inl ⟨S.loc,by simp⟩⟩
  · rw[List.getElem?_set_ne (Ne.symm hi)]at h2
    obtain⟨j,q1,q2⟩:=zC h2
    obtain⟨n1,n2,n3⟩:=S.sc.map i j x h1 q1
    obtain⟨m,hm,hl⟩:=I.loc
    obtain⟨u',r',lk⟩:=hl j x w n1 q2 (n3.elim (fun z=> .inr (.inl z)) fun z=> .inr (.inr z))
    refine⟨u',r',?_⟩
    rcases lk with⟨z,_⟩|⟨_,a,e,ic⟩
    · rcases n3 with y|y<;>(rw[y]at z;cases z)
    · obtain⟨a',e'⟩:=jd scope.names [] ⟨a,e⟩ (.inl (PySem.mem_of_lookup n2))
      have e2:=df _ [] (fun _ _ e=>by cases e) x a' e'
      rw[e]at e2;cases e2
      exact .inr ⟨.inr n2,a,e',ic.keeps k⟩⟩
 cell:=fun x a h=>by
  obtain⟨v,q⟩:=I.cell x a (df _ [] (fun _ _ e=>by cases e) x a h)
  exact⟨v,q.keeps k⟩
 free:=I.aM.fresh (Nat.le_refl _)
 i6:=fun x a h=>I.i6 x a (df _ [] (fun _ _ e=>by cases e) x a h)
 pin:=fun q hq=>by cases hq
 aM:=I.aM.kept k
 len:=by rw[List.length_set];unfold σC;rw[List.length_map];exact S.sc.len
theorem Dp{R:Hp→Prop}{params:Arguments}{body:Expr}{tb:TE}{own:List (Addr×Obj)}{k:Int}{v:V}{u pm ctv:Value}(S:mP X scope Nc fr p)(hc:X.calm=true)(hr:X.A.depth<recursionLimit)
 (hb:∀(s:Shared) (H:Hp),PE (BR X scope Nc qual f c s H) body tb)
 (hbind:∀(cl:List (Str×Addr)) (pm cd ct v:Value),bindArgs (PySem.W.kla_fn "<lambda>" qual params body scope cl pm cd ct) ⟨[v],[]⟩=pure [(p,v)])
 (r:RelV v u) (hf:(f,PySem.W.kla_obj "<lambda>" qual params body scope (dB X.env.cells scope.names []) pm c ctv)∈pins)
 (hcr:∀(H:Hp) (s:Shared),Inv X (pins++own) σ H s→R H→s.heap.CodeRec (.ref c) qual)
 (hq:∀H,R H→tb ((σC fr σ).set 0 (some v)) H fun x H'=>x= .int k∧R H') (J:mO X pins σ R own s):
 wpAny (model X.prog X.w) X.A.in1.in1 (call (.ref f) [u]) (fun u' s'=>(∃t,u'= .int k t)∧mO X pins σ R own s') (fun _ _=>False) s:=by
 obtain⟨H,I,rH⟩:=J
 have ho:=(I.pin _ (List.mem_append_right _ (List.mem_append_left _ hf))).1
 refine wpAny_call (PySem.W.kla_callFunE (fd:=PySem.W.kla_fn "<lambda>" qual params body scope (dB X.env.cells scope.names []) pm (.ref c) ctv) (by show X.A.depth<_;exact hr) ho rfl S.co S.gen rfl (hcr H s I rH) ?_)
 rw[hbind]
 refine wpAny_pure (wpAny_newFunctionEnv S.BY (fun y hy=>by
  have e:y=(p,u):=by simpa using hy
  rw[e];exact S.loc) (fun h₁ hns hsb=>?_) S.sc.kind)
 have hk:∀b o,s.heap.get? b=some o→h₁.get? b=some o:=fun b o e=>hsb.extBut b o (Nat.ne_of_lt (Heap.lt_size e)) (Heap.get?_push_of_some _ e)
 refine⟨I.nolimit.keeps hk,?_⟩
 show codeAny _ X.A.in1.in1 (.expr body (A_ X scope qual f c s)) _ _
 refine PySem.W.kla_codeExpr (wpAny_mono (hb s H [] _ _ H _ (GP S I hc r hns hk) (hq H rH)) (fun w s' he=>?_) fun e s' z=>False.elim z)
 obtain⟨x,H',I',rx,rfl,rH'⟩:=he
 exact⟨rx,H',I.Ax (s':=s') (ch:=[]) I'.os I'.base I'.aM I'.bare (fun b z=>absurd z (by simp)),rH'⟩
theorem set_same{α:Type}:∀ {l:List α} {n:Nat} {x:α},l[n]?=some x→l.set n x=l
 | [],n,x,h=>by simp at h
 |a::l,0,x,h=>by simp at h;subst h;rfl
 |a::l,n+1,x,h=>by
  rw[List.set_cons_succ,set_same (n:=n) (by simpa using h)]
theorem Dm{params:Arguments}{body:Expr}{lpos:Pos}{c0 T:Addr}{α:List (Option Addr)}{G F:Hp}{st:ai}{n0:Nat}{b:Bool}{E:Value→Shared→Prop}{Q:Value→Shared→Prop}(S:mP X scope Nc fr p)(hcode:X.env.code= .ref c0)(hC:PySem.W.codeHdIn X.K c0 T=true)
 (hdef:defaultsOf params X.env=([],[])) (hql:X.env.qual++"<lambda>"=qual) (I:Inv X pins σ H s) (Sp:cq G F H) (SR:aX α st G) (hn0:st[n0]?=some (.tab T lpos qual b))
 (h:∀(f c:Addr) (ctv pm:Value) (G2 H2:Hp) (s2:Shared),Inv X (pins++[(f,PySem.W.kla_obj "<lambda>" qual params body scope (dB X.env.cells scope.names []) pm c ctv)]) σ H2 s2→Step α G α G2→cq G2 F H2→aX α (st.set n0 (.tab T lpos qual true)) G2→
   (some c∉α∧∃o vs t,G2 c=some (.g9 o (.own c))∧o.data= .fields vs∧vs[1]?=some (.str qual t))→Q (.ref f) s2):
 wpAny (model X.prog X.w) X.A (eval (.Lambda params body scope lpos) X.env) Q E s:=by
 refine PySem.W.kla_eval hdef ?_
 rw[hql]
 rcases SR.at' n0 _ hn0 with⟨z,_⟩|⟨a,ha,rfl,ps,gP,tr,cs⟩
 · cases z
 have hP:=I.aM a _ (Sp.get gP)
 have hP:s.heap.get? a=some (PySem.W.tabObj ps):=hP
 have hg:s.heap.Ns mainGlobals X.mg:=I.mod.glob.keeps I.bk
 obtain⟨bm,ob,b1,b2,b3,b4,b5,b6⟩:=I.mod.bmain
 have b3':=I.bk _ _ b3
 have hgP:mainGlobals≠a:=fun q=>by
  obtain⟨o,es,ep,e,hd,_⟩:=hg
  rw[q,hP]at e;cases e;cases hd
 have n1:bm≠mainGlobals:=fun q=>by
  obtain⟨o,es,ep,e,hd,_⟩:=hg
  rw[q,e]at b3';cases b3';rw[hd]at b6;cases b6
 have n2:bm≠a:=fun q=>by rw[q,hP]at b3';cases b3';cases b4
 have hB:s.heap.BuiltinsAt X.mg a:=⟨bm,ob,b1,b2,n1,n2,b3',b4,b5,b6⟩
 have hcl:closureFor scope X.env=pure (dB X.env.cells scope.names []):=mL fun x hx hk=>I.ok.has x.1 (S.sc.free x hx hk)
 have C:PySem.W.CodeHd s.heap c0 a:=PySem.W.codeHd_of_K I.iz hC
 rcases cs with⟨rfl,hnf⟩|⟨rfl,c,o,vs,t,q1,q2,q3,q4,q5⟩
 · refine PySem.W.kla_makeFunction hcl I.ok.glob hg hcode C hP tr hnf hgP hB fun c' ctv h' tk hx hge hlt hrec htb=>?_
   obtain⟨c2,oc,vs,t,e2,hoc,hd,hv⟩:=hrec
   cases e2
   have hHc:H c'=none:=I.aM.fresh hge
   have hGc:G c'=none:=(Sp.none hHc).1
   have hHa:H a=some (.kb ps):=Sp.get gP
   have hac:a≠c':=dQ hHa hHc
   let ps':=ps++ #[rawInt lpos.line,rawInt lpos.col,.ref c']
   have nb:∀ {b:Addr},H b=none→b≠a:=fun e z=>by rw[z,hHa]at e;cases e
   have I1:Inv X pins σ (upd (upd H c' (.g9 oc (.own c'))) a (.kb ps')) {s with heap:=h',gens:=s.gens,drawn:=s.drawn,toks:=tk}:=by
    have old:∀ {b:Addr} {u:HO},H b=some u→b≠a→upd (upd H c' (.g9 oc (.own c'))) a (.kb ps') b=some u:=fun e n=>by rw[aP n,aP (dQ e hHc)];exact e
    refine I.step (ch:=[]) (fun _ z=>nomatch z) (fun b o _ _ _ e n=>hx b o (nb n) e) (fun b o _ _ _ e n=>⟨o.slots,hx b o (nb n) e⟩) (fun b o _ e n=>?_) (fun b o _ e=>?_) (fun b xs e=>?_) (fun b o u e=>?_) (fun b qs e=>?_) (fun m hm=>?_) (fun b u e=>?_) I.bare
    · rw[aP (nb n),aP (Nat.ne_of_lt (Nat.lt_of_lt_of_le (Heap.lt_size e) hge))];exact n
    · by_cases hb:b=a
      · exact⟨_,by rw[hb];exact htb⟩
      · exact⟨o,hx b o hb e⟩
    · exact old e fun z=>by rw[z,hHa]at e;cases e
    · exact old e fun z=>by rw[z,hHa]at e;cases e
    · by_cases hb:b=a
      · subst hb
        rw[hHa]at e;cases e
        exact⟨_,aY⟩
      · exact⟨#[],by rw[old e hb];simp⟩
    · obtain⟨o,es,ep,ho,r⟩:=hm
      exact⟨o,es,ep,hx _ o (nb I.free) ho,r⟩
    · by_cases hb:b=a
      · subst hb;rw[aY]at e;cases e;exact htb
      · rw[aP hb]at e
        by_cases hbc:b=c'
        · subst hbc;rw[aY]at e;cases e;exact⟨hoc,_,hoc⟩
        · rw[aP hbc]at e
          refine(I.aM b u e).ou (fun d w hd q=>hx d w ?_ q) (fun d q=>old q fun z=>by rw[z,hHa]at q;cases q) fun d xs q=>old q fun z=>by rw[z,hHa]at q;cases q
          rcases hd with rfl|hd
          · exact hb
          · intro z;rw[z,hHa]at hd;cases hd
   have I2:=k_ (o:=PySem.W.kla_obj "<lambda>" qual params body scope (dB X.env.cells scope.names []) ((X.mg "__name__").getD .none) c' ctv) (t':=tk) I1 (fun v z=>by cases z)
   have gP':upd G c' (.g9 oc (.own c')) a=some (.kb ps):=by rw[aP hac];exact gP
   refine h _ c' ctv _ (upd (upd G c' (.g9 oc (.own c'))) a (.kb ps')) _ _ I2 ((Step.laid hGc).trans (Step.write (List.mem_of_getElem? ha))) ((Sp.laid hHc).write gP') ((SR.laid hGc).write ha ⟨rfl,ps',aY,?_,.inr ⟨rfl,c',oc,vs,t,?_,SR.kC hGc,?_,hd,hv⟩⟩) ⟨SR.kC hGc,oc,vs,t,?_,hd,hv⟩
   · show TriplesOk (ps++ #[rawInt lpos.line,rawInt lpos.col,.ref c']).toList
     rw[Array.toList_append]
     exact TriplesOk_snoc _ _ _ _ tr
   · show codeAmong lpos (ps++ #[rawInt lpos.line,rawInt lpos.col,.ref c']).toList=_
     rw[Array.toList_append]
     exact codeAmong_snoc _ tr hnf
   · rw[aP hac.symm,aY]
   · rw[aP hac.symm,aY]
 · refine PySem.W.kla_makeFunctionHit hcl I.ok.glob hg hcode C hP tr q1 hB fun ctv h' tk hk hsz=>?_
   have I1:=I.kept (t':=tk) hk
   have I2:=k_ (o:=PySem.W.kla_obj "<lambda>" qual params body scope (dB X.env.cells scope.names []) ((X.mg "__name__").getD .none) c ctv) (t':=tk) I1 (fun v z=>by cases z)
   refine h _ c ctv _ G H _ I2 Step.refl Sp (by rw[set_same hn0];exact SR) ⟨q2,o,vs,t,q3,q4,q5⟩
end
noncomputable def slt(p q:Int×Int):Prop:=p.1≤q.1
noncomputable def xZ(n0:Nat)(T:Addr)(lpos:Pos)(qual:Str)(fr:List (Option Nat))(tb te:DE):DE:=fun σ st K=>te σ st fun d st1=>∃(ns ks:List Int) (b:Bool),d= .lst (ns.map .int)∧ns.length<64∧ns.Pairwise (· < ·)∧ks.length=ns.length∧
 st1[n0]?=some (.tab T lpos qual b)∧(∀(i:Nat) (n k:Int),ns[i]?=some n→ks[i]?=some k→tb ((h_ fr σ).set 0 (some (.int n))) (st1.set n0 (.tab T lpos qual true)) fun v st2=>v= .int k∧st2=st1.set n0 (.tab T lpos qual true))∧
 ∀os:List (Int×Int),os.Perm (ks.zip ns)→os.Pairwise slt→K (.lst (os.map fun p=> .int p.2)) (st1.set n0 (.tab T lpos qual true))
theorem xj{α:List (Option Addr)}{H:Hp}:∀ {ns:List Int} {vs:List V},aO α H (ns.map D.int) vs→vs=ns.map V.int
 | [],vs,h=>by unfold aO at h;exact h
 |n::ns,vs,h=>by
  unfold aO at h
  obtain⟨v,r,rfl,h1,h2⟩:=h
  unfold Rep at h1
  rw[h1,xj h2];rfl
theorem w9{α:List (Option Addr)}{H:Hp}:∀(ns:List Int),aO α H (ns.map D.int) (ns.map V.int)
 | []=>by unfold aO;rfl
 |n::ns=>by unfold aO;exact⟨_,_,rfl,by unfold Rep;rfl,w9 ns⟩
theorem wQ:∀ {ns:List Int} {us:List Value},Vals (ns.map V.int) us→IntsAre us ns
 | [],_,.nil=> .nil
 |n::ns,_,.cons ⟨t,rfl⟩ h=> .cons n t (wQ h)
section
variable {X:Cx}{scope:Scope}{Nc:List Str}{fr:List (Option Nat)}{p x qual:Str}{params:Arguments}{e body:Expr}{te tb:DE}{lpos kpos pos ppos:Pos}{c0 T:Addr}{n0:Nat}
theorem Gs(S:mP X scope Nc fr p)(hc:X.calm=true)(hr:dg 2 X.A)(hcode:X.env.code= .ref c0)(hC:PySem.W.codeHdIn X.K c0 T=true)(hdef:defaultsOf params X.env=([],[]))(hql:X.env.qual++"<lambda>"=qual)
 (hbind:∀(cl:List (Str×Addr)) (pm cd ct v:Value),bindArgs (PySem.W.kla_fn "<lambda>" qual params body scope cl pm cd ct) ⟨[v],[]⟩=pure [(p,v)])
 (hb:∀(f c:Addr) (s:Shared) (H:Hp),PE (BR X scope Nc qual f c s H) body (LE tb)) (ha:PA X [e] (LA (ae te ak)))
 (hg:Gl X "sorted") (hm:X.mg "sorted"=none) (hv:bootBuiltins "sorted"=some (.builtin "sorted"))
 (he:backTo pos (starEach [e] X.env)=(false,eval e X.env)::backTo pos (starEach [] X.env):=by rfl) (hpl:(backTo pos (starEach [e] X.env)).any (·.1)=false:=by rfl):
 PE X (.Call (.Name "sorted" ppos) [e] [⟨some "key",.Lambda params body scope lpos,kpos⟩] pos) (LE (xZ n0 T lpos qual fr tb te)):=by
 intro pins s σ H Q I h
 obtain⟨α,σd,st,K,G,F,Sp,RS,SR,t,k⟩:=h
 refine wpAny_Call_Name_kw (kG I hg hm hv ?_)
 refine callWith_kw ?_ he hpl
 let K1:DK:=fun d st1=>∃(ns ks:List Int) (b:Bool),d= .lst (ns.map .int)∧ns.length<64∧ns.Pairwise (· < ·)∧ks.length=ns.length∧
  st1[n0]?=some (.tab T lpos qual b)∧(∀(i:Nat) (n k:Int),ns[i]?=some n→ks[i]?=some k→tb ((h_ fr σd).set 0 (some (.int n))) (st1.set n0 (.tab T lpos qual true)) fun v st2=>v= .int k∧st2=st1.set n0 (.tab T lpos qual true))∧
  ∀os:List (Int×Int),os.Perm (ks.zip ns)→os.Pairwise slt→K (.lst (os.map fun p=> .int p.2)) (st1.set n0 (.tab T lpos qual true))
 refine cv (ha pos pins s σ H (fun vs H1=>∃d v st1 α1 G1,vs=[v]∧K1 d st1∧Step α G α1 G1∧cq G1 F H1∧aX α1 st1 G1∧Rep α1 G1 d v) I
  ⟨α,σd,st,fun ds st1=>match ds with| [d]=>K1 d st1|_=>False,G,F,Sp,RS,SR,t,fun ds st1 q α1 G1 H1 vs s1 P1 S1 r1=>?_⟩) fun us s1 ⟨vs,H1,I1,rv,d,v,st1,α1,G1,hvs,kd,s1',P1,S1,r1⟩=>?_
 · match ds,q,r1 with
   | [d],q,r1=>
     unfold aO at r1
     obtain⟨v,r,rfl,h1,h2⟩:=r1
     unfold aO at h2
     subst h2
     exact⟨d,v,st1,α1,G1,rfl,q,s1,P1,S1,h1⟩
 subst hvs
 obtain⟨ns,ks,b,rfl,h64,hup,hlen,hn0,hkey,hK⟩:=kd
 show wpAny _ _ (evalAll ((do let v ←eval (.Lambda params body scope lpos) X.env;standAt pos;pure v)::[])) _ _ s1
 refine wpAny_evalAll_cons (wpAny_bind (Dm S hcode hC hdef hql I1 P1 S1 hn0 fun f c ctv pm G2 H2 s2 I2 st2 P2 S2 ⟨hc1,o,vs,tq,hc2,hc3,hc4⟩=>wpAny_bind (wpAny_standAt (wpAny_pure (wpAny_evalAll_nil ?_)))))
 have r2:=r1.step st2
 unfold Rep at r2
 obtain⟨l,xs,rfl,hl1,hl2,hl3⟩:=r2
 have exs:=xj hl3
 subst exs
 cases rv with
 |cons ru rn=>
  cases rn
  cases ru
  have hrd:Rd H2 l (.lst (ns.map V.int)):=by
   rcases hl2 with z|⟨w,z⟩
   · exact .inl (P2.get z)
   · exact .inr ⟨w,P2.get z⟩
  obtain⟨_,its,nn,vv,hobj⟩:=hrd.ok I2.aM
  have hints:=wQ vv
  have hlen2:=hints.length
  have key:∀(H':Hp),(∃α' G',Step α1 G2 α' G'∧cq G' F H'∧aX α' (st1.set n0 (.tab T lpos qual true)) G')→H' c=some (.g9 o (.own c)):=fun H' ⟨α',G',q1,q2,q3⟩=>q2.get (q1.ext c _ hc1 hc2)
  show wpAny _ _ (call (.builtin "sorted") [.ref l] [(Str.ofString "key",.ref f)]) _ _ _
  refine Aa (X:=X) (pins:=pins++[(f,PySem.W.kla_obj "<lambda>" qual params body scope (dB X.env.cells scope.names []) pm c ctv)]) (R:=fun H'=>∃α' G',Step α1 G2 α' G'∧cq G' F H'∧aX α' (st1.set n0 (.tab T lpos qual true)) G') (kz:=ks) (vs:=its)
   I2 ⟨α1,G2,Step.refl,P2,S2⟩ ⟨_,hobj,rfl,nn,rfl⟩ (by omega) (by omega) (fun i u kk hu hk own s' J=>?_) fun D s' out cc oD J so=>?_
  · have hi:i<ns.length:=by
     have:=(List.getElem?_eq_some_iff.mp hu).1
     omega
    obtain⟨tt,ht⟩:=hints.get i ns[i] (List.getElem?_eq_getElem hi)
    have ht:some u=some (Value.int ns[i] tt):=by rw[←hu];exact ht
    cases ht
    refine Dp (v:= .int ns[i]) (u:= .int ns[i] tt) S hc (by have:=hr.dp;omega) (hb f c) hbind ⟨tt,rfl⟩ (List.mem_append_right _ (List.mem_singleton.mpr rfl)) (fun H' s'' J' r'=>?_) (fun H' r'=>?_) J
    · have q:=J'.aM c _ (key H' r')
      exact⟨c,o,vs,tq,rfl,q.1,hc3,hc4⟩
    · obtain⟨α',G',q1,q2,q3⟩:=r'
      refine⟨α',(h_ fr σd).set 0 (some (.int ns[i])),_,_,G',F,q2,?_,q3,hkey i ns[i] kk (List.getElem?_eq_getElem hi) hk,fun d' st' hd α'' G'' H'' v' s'' P'' S'' r''=>?_⟩
      · exact((RS.step ((s1'.trans st2).trans q1)).comp).set 0 (by unfold Rep;rfl)
      · obtain⟨rfl,rfl⟩:=hd
        unfold Rep at r''
        exact⟨r'',α'',G'',q1.trans s'',P'',S''⟩
  · obtain⟨H',I',α',G',q1,q2,q3⟩:=J
    obtain⟨ps,hp,ho,hs⟩:=so
    have hps:∀q∈ps,∃t,q.2= .int (numOf q.2) t:=fun q hq=>by
     have h1:=hp.mem_iff.mp hq
     have h2:q.2∈its:=(List.of_mem_zip (show(q.1,q.2)∈ks.zip its from h1)).2
     obtain⟨n,t,e⟩:=hints.all _ h2
     exact⟨t,by rw[e];rfl⟩
    have hos:(ps.map fun q=>(q.1,numOf q.2)).Perm (ks.zip ns):=by
     have h1:=hp.map fun q:Int×Value=>(q.1,numOf q.2)
     have e:(ks.zip its).map (fun q:Int×Value=>(q.1,numOf q.2))=ks.zip ns:=by
      rw[←hints.nums,List.zip_map_right]
      exact List.map_congr_left fun⟨a,b⟩ _=>rfl
     rw[e]at h1;exact h1
    have hpw:(ps.map fun q=>(q.1,numOf q.2)).Pairwise slt:=by rw[List.pairwise_map];exact hs
    have kk:=hK _ hos hpw
    rw[List.map_map]at kk
    have hD0:=gH I'
    have vout:Vals ((ps.map fun q=>numOf q.2).map V.int) out.toList:=by
     rw[ho]
     clear hos hpw kk hs hp ho
     induction ps with
     |nil=>exact .nil
     |cons q r ih=>
      obtain⟨t,e⟩:=hps q (List.mem_cons_self ..)
      exact .cons ⟨t,e⟩ (ih fun z hz=>hps z (List.mem_cons_of_mem _ hz))
    have hlo:(ps.map fun q=>numOf q.2).length≤sizeLine:=by
     rw[List.length_map,hp.length_eq,List.length_zip]
     exact Nat.le_trans (Nat.min_le_left _ _) (Nat.le_trans (show ks.length≤64 by omega) (by decide))
    have I3:=BP (u:= .lst ((ps.map fun q=>numOf q.2).map V.int)) I' oD.ge oD.ne ⟨by rw[List.length_map];exact hlo,out.toList,cc,vout,hD0.1⟩
    have hG:=(q2.none hD0.2.1).1
    refine⟨.ref D,_,I3.iJ,rfl,k _ _ kk α' _ _ _ ((s1'.trans st2).trans (q1.trans (Step.laid hG))) (q2.laid hD0.2.1) (q3.laid hG) ?_⟩
    unfold Rep
    refine⟨D,_,rfl,q3.kC hG,.inl aY,?_⟩
    have e:List.map ((fun p:Int×Int=>L3.D.int p.snd)∘fun q:Int×Value=>(q.fst,numOf q.snd)) ps=(ps.map fun q=>numOf q.2).map L3.D.int:=by rw[List.map_map];rfl
    rw[e]
    exact w9 _
end
end L3
namespace L3
open PySem L2
open PySem.Spec hiding items?
open PyProof.Rows hiding St
noncomputable def EK(sc:Scope)(N gl:List Str):Bool:=
 N.all (fun x=>(sc.names.lookup x==some .local||sc.names.lookup x==some .cell)&&x != "__debug__"&&x != "__classdict__")&&gl.all (fun x=>sc.names.lookup x==some .globalImplicit&&x != "__debug__")
structure VS(sc:Scope)(N gl:List Str):Prop where
 ok:EK sc N gl=true
theorem VS.at_{sc:Scope}{N gl:List Str}(V:VS sc N gl){i:Nat}{x:Str}(h:N[i]?=some x):Loc sc x∧(x==("__debug__":Str))=false∧(x==("__classdict__":Str))=false:=by
 have o:=V.ok
 unfold EK at o
 have:=List.all_eq_true.mp (Bool.and_eq_true_iff.mp o).1 x (List.mem_of_getElem? h)
 simp only[Bool.and_eq_true,Bool.or_eq_true,beq_iff_eq,bne_iff_ne,ne_eq]at this
 exact⟨this.1.1,beq_false_of_ne this.1.2,beq_false_of_ne this.2⟩
theorem VS.MC{sc:Scope}{N gl:List Str}(V:VS sc N gl){i:Nat}{x:Str}(h:gl[i]?=some x):sc.names.lookup x=some .globalImplicit∧(x==("__debug__":Str))=false:=by
 have o:=V.ok
 unfold EK at o
 have:=List.all_eq_true.mp (Bool.and_eq_true_iff.mp o).2 x (List.mem_of_getElem? h)
 simp only[Bool.and_eq_true,beq_iff_eq,bne_iff_ne,ne_eq]at this
 exact⟨this.1,beq_false_of_ne this.2⟩
section
variable {X:Cx}{sc:Scope}{N gl:List Str}{x:Str}{pos:Pos}
theorem VS.nm(V:VS X.env.scope X.N gl)(i:Nat)(h:X.N[i]?=some x:=by rfl):JE X (.Name x pos) (ab i):=
 let q:=V.at_ h
 Bp q.2.1 q.2.2 (q.1.elim .inl fun z=> .inr (.inl z)) h
theorem VS.l(V:VS sc N gl)(i:Nat)(h:N[i]?=some x:=by rfl):Loc sc x:=(V.at_ h).1
theorem VS.g(V:VS sc N gl)(i:Nat)(h:gl[i]?=some x:=by rfl):sc.names.lookup x=some .globalImplicit:=(V.MC h).1
theorem VS.d(V:VS sc N gl)(i:Nat)(h:gl[i]?=some x:=by rfl):(x==("__debug__":Str))=false:=(V.MC h).2
theorem c_{n:Nat}(hN:X.N[n]?=some x:=by rfl)(hd:((x==("__debug__":Str))||(x==("__classdict__":Str)))=false:=by decide+kernel)
 (hv:wV X.env.scope x:=by first|exact Or.inl rfl|exact Or.inr (Or.inl rfl)|exact Or.inr (Or.inr rfl)):JE X (.Name x pos) (ab n):=
 Bp (Bool.or_eq_false_iff.mp hd).1 (Bool.or_eq_false_iff.mp hd).2 hv hN
@[irreducible] noncomputable def mv:dJ:=tZ (fun _ j=>j≠0) fun i j=> .int (i.fdiv j)
theorem rl{k:Nat}(hr:dg k X.A)(hs:X.stack=X.env::X.outer)(hgen:X.env.scope.isGenerator=false)(hco:X.env.scope.isCoroutine=false):cx X (binaryOp .FloorDiv) (LR mv):=by
 unfold mv
 refine mm (g':=fun i j=> .int (i.fdiv j)) (fun _ _ _ _=>by unfold Rep;rfl) ?_
 intro pins s σ H x y v u Q I rx ry h
 obtain⟨i,j,rfl,rfl,hc,q⟩:=h
 obtain⟨t,rfl⟩:=rx
 obtain⟨t',rfl⟩:=ry
 refine floordiv_int hc ⟨.int (i.fdiv j),H,I.tok _,⟨_,rfl⟩,q⟩ (.inr (PySem.PylongRoom.of I.nolimit ?_ ?_))
 · have:=hr.dp
   show X.A.depth+100<_
   omega
 · exact PySem.SeerAt.of (env:=X.env) (l:=X.outer) (I.mod.seer.keeps I.bk) I.ok.gt (by rw[I.ok.frames,hs]) hgen hco I.ok.blt I.ok.glob
theorem lg{st:ai}{K:DK}{i j:Int}(h0:j≠0)(k:K (.int (i.fdiv j)) st):mv (.int i) (.int j) st K:=by unfold mv;exact⟨h0,k⟩
theorem mP.look{scope:Scope}{Nc:List Str}{fr:List (Option Nat)}{p:Str}(S:bI X scope Nc fr)(h:(scope.names.all (fun x=>x.2 != .cell)&&(!scope.isCoroutine&& !scope.isGenerator)&&(scope.names.lookup p==some .local))=true:=by decide+kernel)
 (p0:Nc[0]?=some p:=by rfl) (f0:fr[0]?=some none:=by rfl):mP X scope Nc fr p:=by
 simp only[Bool.and_eq_true,Bool.not_eq_true',beq_iff_eq]at h
 exact⟨S,fun x hx=>by simpa using List.all_eq_true.mp h.1.1 x hx,h.1.2.1,h.1.2.2,p0,f0,h.2⟩
theorem Gf{scope:Scope}{Nc:List Str}{fr:List (Option Nat)}{p qual:Str}{params:Arguments}{e body:Expr}{te tb:DE}{lpos kpos pos ppos:Pos}{c0 T:Addr}{n0 k:Nat}(S:mP X scope Nc fr p)(hc:X.calm=true)(hr:dg k X.A)(hcode:X.env.code= .ref c0)(hC:PySem.W.codeHdIn X.K c0 T=true)
 (hb:∀(f c:Addr) (s:Shared) (H:Hp),JE (BR X scope Nc qual f c s H) body tb) (he:JE X e te) (hg:X.env.kindOf "sorted"=some .globalImplicit) (hm:X.mg "sorted"=none)
 (hdef:defaultsOf params X.env=([],[]):=by rfl) (hql:X.env.qual++"<lambda>"=qual:=by rfl)
 (hbind:∀(cl:List (Str×Addr)) (pm cd ct v:Value),bindArgs (PySem.W.kla_fn "<lambda>" qual params body scope cl pm cd ct) ⟨[v],[]⟩=pure [(p,v)]:=by(intros;rfl)) (hk:2≤k:=by decide)
 (he1:starEach [e] X.env=(false,eval e X.env)::starEach [] X.env:=by rfl):
 JE X (.Call (.Name "sorted" ppos) [e] [⟨some "key",.Lambda params body scope lpos,kpos⟩] pos) (xZ n0 T lpos qual fr tb te):=by
 unfold JE at he hb⊢
 refine Gs S hc (hr.mono hk) hcode hC hdef hql hbind hb (rB he tD he1) hg hm rfl ?_ ?_
 · rw[he1];rfl
 · rw[he1];rfl
end
structure Ic(K:PySem.W.Frag)(x qual:Str)(st:Stmt)(f:Addr)(fd:FuncData)(c:Addr):Prop where
 ex:∃(oc:Value) (od:Option Addr) (kV doc pm:Value) (an:Option Addr) (ct:Value) (osl:Array (Option Value)),
  fd=PySem.W.fnOf x qual (aR st) (aN st) (af st) .none kV doc pm an (.ref c) ct∧K.lookup f=some ⟨oc,od,.func fd,osl⟩∧PySem.W.codeIn K (.ref c) qual=true
theorem Jg{P:Program}{w:World}{K:PySem.W.Frag}{mg:Str→Option Value}{base:Heap}{x qual:Str}{st:Stmt}{f c:Addr}{fd:FuncData}{N ps:List Str}{k:Nat}{sp:cJ}{t:DS}(F:Ic K x qual st f fd c)(S:aU N ps (af st))
 (hbody:∀(A:Around) (outer:List Env) (s:Shared) (H:Hp) (E:XK),dg k (A.deeper (envOfC qual (af st) s.heap.objs.size f (.ref c)))→JB (pA aD P w K mg base N qual (af st) f (.ref c) A outer s H E).tW (aN st) t)
 (hsp:∀ds st K,sp ds st K→ds.length=ps.length∧t {nx:=fun _ st'=>K .aH st',rt:=K} (bf N ds) st):au P w K mg base aD (k+1) f fd ps (aF sp):=by
 obtain⟨oc,od,kV,doc,pm,an,ct,osl,rfl,lk,hcd⟩:=F.ex
 unfold JB at hbody
 refine E6 lk hcd S (fun vs H Q E h=>?_) fun A outer s H vs Q E hr h=>?_
 · obtain⟨α,ds,st,K,G,F,P,R,S,q,k⟩:=h
   rw[←R.length];exact(hsp ds st K q).1
 · obtain⟨α,ds,st,K,G,F',P,R,SR,q,k⟩:=h
   refine⟨_,(hbody A outer s H E hr).tW,α,bf N ds,st,_,G,F',P,eE.start R,SR,(hsp ds st K q).2,?_,k,?_,?_⟩
   · intro σd' st' kk α' G' H' σ' s' P' R' S'
     exact k .aH st' kk α' G' H' .aH s' P' S' (by unfold Rep;rfl)
   · intro σd' st' kk
     exact kk.elim
   · intro σd' st' kk
     exact kk.elim
noncomputable def Bt(tl:List (Addr×Pos×Str)):cJ:=fun ds st K=>∃ns:List Int,ds=[.lst (ns.map .int)]∧ns.length≤63∧st=tl.map (fun q=> .tab q.1 q.2.1 q.2.2 false)∧∀st',K (.bl true) st'
noncomputable def ue(K:PySem.W.Frag)(ts:List (Addr×Addr)):Sp:=fun vs H Q _=>∃(a:Addr) (ns:List Int),vs=[.ref a]∧Entry K ts a ns H∧ns.length≤63∧∀H',Q (.bl true) H'
theorem Bi{K:PySem.W.Frag}{ts:List (Addr×Addr)}{tl:List (Addr×Pos×Str)}(nl:xf K=true)(hts:ts.map (·.2)=tl.map (·.1))(nd:(tl.map (·.1)).Nodup){vs:List V}{H:Hp}{Q:VK}{E:XK}(h:ue K ts vs H Q E):aF (Bt tl) vs H Q E:=by
 obtain⟨a,ns,rfl,hE,hl,q⟩:=h
 have tabs:∀q∈tl,H q.1=some (.kb #[])∧q.1≠a:=fun q hq=>by
  have h1:q.1∈ts.map (·.2):=by rw[hts];exact List.mem_map_of_mem hq
  obtain⟨t,ht,e⟩:=List.mem_map.mp h1
  rw[←e];exact hE.tab t ht
 have at_:∀(i:Nat) (x:Addr),(tl.map fun q=>some q.1)[i]?=some (some x)→∃q,tl[i]?=some q∧q.1=x:=fun i x e=>by
  rw[List.getElem?_map]at e
  cases z:tl[i]? with
  |none=>rw[z]at e;cases e
  |some w=>rw[z]at e;simp at e;exact⟨w,rfl,e⟩
 have nota:some a∉tl.map fun q=>some q.1:=fun z=>by
  obtain⟨w,hw,e⟩:=List.mem_map.mp z
  exact(tabs w hw).2 (Option.some.inj e)
 rcases hE.lst with hS|⟨o,its,n,e,hc,_⟩
 · refine⟨tl.map fun q=>some q.1,[.lst (ns.map .int)],tl.map (fun q=> .tab q.1 q.2.1 q.2.2 false),fun d _=>d= .bl true,H,fun _=>none,⟨fun b=>by cases H b<;>rfl,fun _ _ _=>rfl⟩,?_,⟨by simp,fun i j x e1 e2=>?_,fun n c e=>?_⟩,⟨ns,rfl,hl,rfl,fun _=>rfl⟩,?_⟩
   · unfold aO
     refine⟨.ref a,[],rfl,?_,by unfold aO;rfl⟩
     unfold Rep
     exact⟨a,ns.map V.int,rfl,nota,hS,vA ns⟩
   · obtain⟨p,hp,e3⟩:=at_ i x e1
     obtain⟨r,hr,e4⟩:=at_ j x e2
     have k1:(tl.map (·.1))[i]?=some x:=by rw[List.getElem?_map,hp,←e3];rfl
     have k2:(tl.map (·.1))[j]?=some x:=by rw[List.getElem?_map,hr,←e4];rfl
     have hi:=(List.getElem?_eq_some_iff.mp k1).1
     exact(List.getElem?_inj hi nd).mp (k1.trans k2.symm)
   · rw[List.getElem?_map]at e
     cases z:tl[n]? with
     |none=>rw[z]at e;cases e
     |some w=>
      rw[z]at e
      have e':Cell.tab w.1 w.2.1 w.2.2 false=c:=Option.some.inj e
      subst e'
      refine .inr ⟨w.1,by rw[List.getElem?_map,z];rfl,rfl,#[],(tabs w (List.mem_of_getElem? z)).1,trivial,.inl ⟨rfl,rfl⟩⟩
   · rintro d st' rfl α' G' H' v _ _ _ r
     unfold Rep at r
     subst r
     exact q H'
 · exact absurd hc (vR nl e)
end L3
namespace L3
open PySem L2
open PySem.Spec hiding items?
open PyProof.Rows hiding St
section
variable {K:PySem.W.Frag}{x qual p1 p2 p3 p4 p5:Str}{st:Stmt}{f:Addr}{fd:FuncData}
noncomputable abbrev Fs(x qual:Str)(st:Stmt)(kV doc pm:Value)(an:Option Addr)(cdv ct:Value):FuncData:=PySem.W.fnOf x qual (aR st) (aN st) (af st) .none kV doc pm an cdv ct
theorem g7{α:Type}{n:Nat}{us:List α}(h:us.length=n+1):∃a r,us=a::r∧r.length=n:=by
 cases us with
 |nil=>cases h
 |cons a r=>exact⟨a,r,rfl,Nat.succ.inj h⟩
theorem qY{α:Type}{us:List α}(h:us.length=0):us=[]:=List.length_eq_zero_iff.mp h
theorem sh(F:oR K x qual st f fd)(h:∀kV doc pm an cdv ct a,bindArgs (Fs x qual st kV doc pm an cdv ct) ⟨[a],[]⟩=pure [(p1,a)]):Binds K fd [p1] []:=
 F.binds fun kV doc pm an cdv ct us hl=>by
  obtain⟨a,r1,rfl,h1⟩:=g7 hl
  cases qY h1
  exact h kV doc pm an cdv ct a
theorem h9(F:oR K x qual st f fd)(h:∀kV doc pm an cdv ct a b,bindArgs (Fs x qual st kV doc pm an cdv ct) ⟨[a,b],[]⟩=pure [(p1,a),(p2,b)]):Binds K fd [p1,p2] []:=
 F.binds fun kV doc pm an cdv ct us hl=>by
  obtain⟨a,r1,rfl,h1⟩:=g7 hl
  obtain⟨b,r2,rfl,h2⟩:=g7 h1
  cases qY h2
  exact h kV doc pm an cdv ct a b
theorem rZ(F:oR K x qual st f fd)(h:∀kV doc pm an cdv ct a b c,bindArgs (Fs x qual st kV doc pm an cdv ct) ⟨[a,b,c],[]⟩=pure [(p1,a),(p2,b),(p3,c)]):Binds K fd [p1,p2,p3] []:=
 F.binds fun kV doc pm an cdv ct us hl=>by
  obtain⟨a,r1,rfl,h1⟩:=g7 hl
  obtain⟨b,r2,rfl,h2⟩:=g7 h1
  obtain⟨c,r3,rfl,h3⟩:=g7 h2
  cases qY h3
  exact h kV doc pm an cdv ct a b c
theorem NG(F:oR K x qual st f fd)(h:∀kV doc pm an cdv ct a b c d,bindArgs (Fs x qual st kV doc pm an cdv ct) ⟨[a,b,c,d],[]⟩=pure [(p1,a),(p2,b),(p3,c),(p4,d)]):Binds K fd [p1,p2,p3,p4] []:=
 F.binds fun kV doc pm an cdv ct us hl=>by
  obtain⟨a,r1,rfl,h1⟩:=g7 hl
  obtain⟨b,r2,rfl,h2⟩:=g7 h1
  obtain⟨c,r3,rfl,h3⟩:=g7 h2
  obtain⟨d,r4,rfl,h4⟩:=g7 h3
  cases qY h4
  exact h kV doc pm an cdv ct a b c d
end
end L3
namespace L3
open PySem L2
open PySem.Spec hiding items?
open PyProof.Rows hiding St
section
variable {X:Cx}
end
end L3
namespace L3
open PySem L2
open PySem.Spec hiding items?
open PyProof.Rows hiding St
section
variable {X:Cx}
end
end L3
namespace L3
open PySem L2
open PySem.Spec hiding items?
open PyProof.Rows hiding St
section
variable {X:Cx}
end
end L3
namespace L3
open PySem L2
open PySem.Spec hiding items?
open PyProof.Rows hiding St
section
variable {X:Cx}
end
end L3
namespace L3
open PySem L2
open PySem.Spec hiding items?
open PyProof.Rows hiding St
section
variable {X:Cx}
noncomputable def tW(X:Cx):Cx:={X with xe:=fun _ _=>False}
end
end L3
namespace L3
open PySem L2
open PySem.Spec hiding items?
open PyProof.Rows hiding St
section
variable {X:Cx}
end
variable {st:ai}{K:D→ai→Prop}{i j:Int}
end L3
namespace L3
open PySem L2
open PySem.Spec hiding items?
open PyProof.Rows hiding St
section
variable {X:Cx}{pos:Pos}
noncomputable def Ks(n:Nat)(t:tw):TG:=fun v σ H Q=>∃a xs,v= .ref a∧Rd H a (.lst xs)∧xs.length=n∧t xs σ H Q
theorem Jj{es:List Expr}{k:Nat}{t:tw}{n:Nat}(hc:X.calm=true)(h:zg X es t)
 (hn:(assignEach es X.env).length=n:=by rfl) (hst:(assignEach es X.env).findIdx? (·.1)=none:=by rfl):PG X (.Tuple es k pos) (Ks n t):=by
 intro pins s σ H v u Q I r hw
 obtain⟨a,xs,e1,hq,hl,hw⟩:=hw
 subst e1
 cases r
 obtain⟨hz,its,n',rv,hle,ho⟩:=L3.Inv.u6 I hq
 have il:s.heap.IsList a its.toArray:=⟨_,ho,rfl,n',rfl⟩
 rw[assign_Tuple]
 refine wpAny_bind (wpAny_standAt ?_)
 unfold unpack
 rw[hn,hst,show n=its.toArray.size by simp[←hl,hle]]
 refine wpAny_bind (wpAny_holding (PySem.W.kun_itemsOf (I.ok.hd hc) il fun h' hx=>?_))
 have I1:Inv X pins σ H {s with heap:=h'}:=I.kept (t':=s.toks) fun b o e=>hx b o (Nat.ne_of_lt (Heap.lt_size e)) e
 exact h pins _ σ H xs _ Q I1 (by simpa using rv) hw
noncomputable def pf(i j k:Nat):fz:=fun d σ=>match d with| .lst [x,y,z]=>some (((σ.set i (some x)).set j (some y)).set k (some z))|_=>none
theorem BO{tg:Expr}{i j k:Nat}(h:PG X tg (Ks 3 (nP (jy i) (nP (jy j) (nP (jy k) AD))))):PG X tg (LG (pf i j k)):=PG.imp h fun v σ H Q ⟨α,σd,st,d,K,G,F,P,R,S,r,⟨σ',e,q⟩,kk⟩=>by
 unfold pf at e
 split at e
 · rename_i x y z
   cases e
   unfold Rep at r
   obtain⟨a,vs,rfl,na,h1,h2⟩:=r
   obtain⟨v1,v2,v3,rfl,r1,r2,r3⟩:=Fl h2 rfl
   exact⟨a,_,rfl,gL P h1,rfl,v1,_,rfl,v2,_,rfl,v3,_,rfl,rfl,kk.here P q (((R.set i r1).set j r2).set k r3) S⟩
 · cases e
theorem Ib{i j k n:Nat}{x y z:Str}{px py pz:Pos}(hc:X.calm=true)(hN:X.N.Nodup)(hx:Loc X.env.scope x)(hf:X.fn x=true∨X.env.scope.names.lookup x=some .local)(hy:Loc X.env.scope y)(hg:X.fn y=true∨X.env.scope.names.lookup y=some .local)(hz:Loc X.env.scope z)(hh:X.fn z=true∨X.env.scope.names.lookup z=some .local)
 (hi:X.N[i]?=some x:=by rfl) (hj:X.N[j]?=some y:=by rfl) (hk:X.N[k]?=some z:=by rfl):JG X (.Tuple [.Name x px,.Name y py,.Name z pz] n pos) (pf i j k):=by
 unfold JG;exact BO (Jj hc (j7 (nq hN hi hx hf) (j7 (nq hN hj hy hg) (j7 (nq hN hk hz hh) uD))))
end
end L3
namespace Mx
noncomputable def S:Nat→(Nat→Int)→Int
 |0,_=>0
 |n+1,f=>S n f+f n
theorem cD{n:Nat}{f g:Nat→Int}(h:∀i,i<n→f i=g i):S n f=S n g:=by
 induction n with
 |zero=>rfl
 |succ n ih=>unfold S;rw[ih fun i hi=>h i (by omega),h n (by omega)]
theorem uw{n:Nat}{f:Nat→Int}(h:∀i,i<n→f i=0):S n f=0:=by
 induction n with
 |zero=>rfl
 |succ n ih=>unfold S;rw[ih fun i hi=>h i (by omega),h n (by omega)];rfl
theorem pd(n:Nat)(f g:Nat→Int):S n (fun i=>f i+g i)=S n f+S n g:=by
 induction n with
 |zero=>rfl
 |succ n ih=>unfold S;rw[ih];dsimp only;omega
theorem qR(n:Nat)(c:Int)(f:Nat→Int):S n (fun i=>c*f i)=c*S n f:=by
 induction n with
 |zero=>unfold S;rw[Int.mul_zero]
 |succ n ih=>unfold S;rw[ih,Int.mul_add]
theorem C_(n:Nat)(c:Int)(f:Nat→Int):S n (fun i=>f i*c)=S n f*c:=by
 induction n with
 |zero=>unfold S;rw[Int.zero_mul]
 |succ n ih=>unfold S;rw[ih,Int.add_mul]
theorem FJ(n:Nat)(f:Nat→Int):S n (fun i=> -f i)= -S n f:=by
 induction n with
 |zero=>rfl
 |succ n ih=>unfold S;rw[ih];dsimp only;omega
theorem BF(m n:Nat)(f:Nat→Nat→Int):S m (fun i=>S n fun j=>f i j)=S n fun j=>S m fun i=>f i j:=by
 induction m with
 |zero=>exact(uw (n:=n) (fun i _=>rfl)).symm
 |succ m ih=>
  have:S n (fun j=>S (m+1) fun i=>f i j)=S n fun j=>(S m fun i=>f i j)+f m j:=cD fun j _=>rfl
  rw[this,pd,←ih]
  rfl
theorem rG{n:Nat}{k:Nat}(hk:k<n){f:Nat→Int}(h:∀i,i<n→i≠k→f i=0):S n f=f k:=by
 induction n with
 |zero=>omega
 |succ n ih=>
  unfold S
  by_cases e:k=n
  · subst e
    rw[uw fun i hi=>h i (by omega) (by omega),Int.zero_add]
  · rw[ih (by omega) fun i hi hn=>h i (by omega) hn,h n (by omega) (by omega),Int.add_zero]
noncomputable def dl(i j:Nat):Int:=if i=j then 1 else 0
theorem gh(i:Nat):dl i i=1:=if_pos rfl
theorem gM{i j:Nat}(h:i≠j):dl i j=0:=if_neg h
theorem uh{n k:Nat}(hk:k<n)(f:Nat→Int):S n (fun i=>dl k i*f i)=f k:=by
 rw[rG hk (fun i _ h=>by rw[gM (Ne.symm h),Int.zero_mul]),gh,Int.one_mul]
theorem x_{n k:Nat}(hk:k<n)(f:Nat→Int):S n (fun i=>f i*dl i k)=f k:=by
 rw[rG hk (fun i _ h=>by rw[gM h,Int.mul_zero]),gh,Int.mul_one]
noncomputable abbrev Row:=List Int
noncomputable abbrev Rows:=List (List Int)
noncomputable def Mv(r:Row)(j:Nat):Int:=r.getD j 0
noncomputable def g(A:Rows)(i j:Nat):Int:=(A.getD i []).getD j 0
structure dc(m n:Nat)(A:Rows):Prop where
 len:A.length=m
 sr:∀r∈A,r.length=n
theorem bB{α:Type}{l:List α}{i:Nat}{d:α}(h:i<l.length):l.getD i d=l[i]:=by
 rw[List.getD_eq_getElem?_getD,List.getElem?_eq_getElem h];rfl
theorem nc{α:Type}{l:List α}{i:Nat}{d:α}(h:l.length≤i):l.getD i d=d:=by
 rw[List.getD_eq_getElem?_getD,List.getElem?_eq_none h];rfl
theorem uY{a b:Row}{n:Nat}(ha:a.length=n)(hb:b.length=n)(h:∀j,j<n→a.getD j 0=b.getD j 0):a=b:=by
 refine List.ext_getElem (by omega) fun i h1 h2=>?_
 have:=h i (by omega)
 rwa [bB h1,bB h2]at this
theorem dc.row{m n:Nat}{A:Rows}(h:dc m n A){i:Nat}(hi:i<m):(A.getD i []).length=n:=by
 have hl:=h.len
 rw[bB (by omega)]
 exact h.sr _ (List.getElem_mem _)
theorem dc.ext{m n:Nat}{A B:Rows}(ha:dc m n A)(hb:dc m n B)(h:∀i j,i<m→j<n→g A i j=g B i j):A=B:=by
 have h1:=ha.len
 have h2:=hb.len
 refine List.ext_getElem (by omega) fun i hi hj=>?_
 have e1:=ha.row (i:=i) (by omega)
 have e2:=hb.row (i:=i) (by omega)
 have:=uY e1 e2 fun j hj=>h i j (by omega) hj
 rwa [bB hi,bB hj]at this
noncomputable def bX(r:Row)(t:Int)(s:Row):Row:=List.zipWith (fun a b=>a+t*b) r s
theorem gw{r s:Row}{t:Int}(h:r.length=s.length):(bX r t s).length=r.length:=by unfold bX;simp[h]
theorem fC{r s:Row}{t:Int}(h:r.length=s.length)(j:Nat):(bX r t s).getD j 0=r.getD j 0+t*s.getD j 0:=by
 unfold bX
 by_cases hj:j<r.length
 · rw[bB (by simp;omega),bB hj,bB (by omega)];simp
 · rw[nc (by simp;omega),nc (by omega),nc (by omega)];simp
noncomputable def pC:Row→Rows→Row→Row
 |w::ws,r::rs,acc=>pC ws rs (bX acc w r)
 |_,_,acc=>acc
theorem dw(n j:Nat):(List.replicate n (0:Int)).getD j 0=0:=by
 by_cases h:j<n
 · rw[bB (by simpa using h)];simp
 · rw[nc (by simp;omega)]
noncomputable def ki(n i:Nat):Row:=(List.range n).map fun k=>dl k i
noncomputable def units(n:Nat):Rows:=(List.range n).map fun i=>ki n i
theorem range_getD{α:Type}{f:Nat→α}{n i:Nat}{d:α}(h:i<n):((List.range n).map f).getD i d=f i:=by
 rw[bB (by simpa using h)];simp
theorem sD(n:Nat):dc n n (units n):=⟨by simp[units],fun r hr=>by unfold units at hr;obtain⟨i,_,rfl⟩:=List.mem_map.mp hr;simp[ki]⟩
theorem kW{n i j:Nat}(hi:i<n)(hj:j<n):g (units n) i j=dl i j:=by
 unfold g units ki
 rw[range_getD hi,range_getD hj]
 unfold dl
 by_cases h:i=j
 · subst h;rfl
 · rw[if_neg (Ne.symm h),if_neg h]
noncomputable def uW(A:Rows)(j:Nat):Row:=A.map fun r=>r.getD j 0
noncomputable def FR(A:Rows)(n:Nat):Rows:=(List.range n).map fun j=>uW A j
noncomputable def H_:Row→Row→Int
 |a::as,b::bs=>a*b+H_ as bs
 |_,_=>0
end Mx
namespace Mx
theorem zL(i j:Nat):dl i j=dl j i:=by
 unfold dl
 by_cases h:i=j
 · rw[if_pos h,if_pos h.symm]
 · rw[if_neg h,if_neg (Ne.symm h)]
noncomputable def sw(i j k:Nat):Nat:=if k=i then j else if k=j then i else k
theorem Nk{n i j:Nat}(hi:i<n)(hj:j<n)(hij:i≠j)(f:Nat→Int):S n (fun k=>f (sw i j k))=S n f:=by
 have:S n (fun k=>f (sw i j k))=S n fun k=>f k+(f j-f i)*dl k i+(f i-f j)*dl k j:=cD fun k _=>by
  unfold sw
  by_cases h1:k=i
  · subst h1;rw[if_pos rfl,gh,gM hij];omega
  · rw[if_neg h1,gM h1]
    by_cases h2:k=j
    · subst h2;rw[if_pos rfl,gh];omega
    · rw[if_neg h2,gM h2];omega
 rw[this,pd,pd,x_ (f:=fun _=>f j-f i) hi,x_ (f:=fun _=>f i-f j) hj]
 omega
theorem oJ{A:Rows}{i:Nat}{r:Row}(hi:i<A.length)(a k:Nat):g (A.set i r) a k=if a=i then r.getD k 0 else g A a k:=by
 have e:(A.set i r).getD a []=if a=i then r else A.getD a []:=by
  rw[List.getD_eq_getElem?_getD,List.getD_eq_getElem?_getD]
  by_cases h:a=i
  · subst h
    rw[if_pos rfl,List.getElem?_set_self hi];rfl
  · rw[if_neg h,List.getElem?_set_ne (Ne.symm h)]
 unfold g
 rw[e]
 by_cases h:a=i
 · rw[if_pos h,if_pos h]
 · rw[if_neg h,if_neg h]
theorem yd{m n i:Nat}{A:Rows}{r:Row}(h:dc m n A)(hr:r.length=n):dc m n (A.set i r):=⟨by rw[List.length_set];exact h.len,fun q hq=>by
 rcases List.mem_or_eq_of_mem_set hq with z|rfl
 · exact h.sr q z
 · exact hr⟩
end Mx
namespace Mx
noncomputable abbrev Fn:=Nat→Nat→Int
noncomputable def sk(j c:Nat):Nat:=if c<j then c else c+1
noncomputable def sg(j:Nat):Int:=if j%2=0 then 1 else-1
noncomputable def D:Nat→Fn→Int
 |0,_=>1
 |n+1,M=>S (n+1) fun j=>sg j*M 0 j*D n fun r c=>M (r+1) (sk j c)
noncomputable def upd(M:Fn)(i:Nat)(x:Nat→Int):Fn:=fun r c=>if r=i then x c else M r c
theorem aP{M:Fn}{i r:Nat}{x:Nat→Int}(h:r≠i)(c:Nat):upd M i x r c=M r c:=if_neg h
noncomputable def un(j c:Nat):Nat:=if c<j then c else c-1
noncomputable def tr(M:Fn):Fn:=fun r c=>M c r
end Mx
namespace Mx
noncomputable def gx(R:Fn)(p:Nat)(x:Nat→Int)(j:Nat):Int:=D (p+1) fun r c=>if r<p then R r (if c<p then c else j)else x (if c<p then c else j)
noncomputable def bt(R:Fn)(p:Nat)(x:Nat→Int)(k:Nat):Int:=D (p+1) (upd (fun c r=>if r<p then R r c else x c) p (dl k))
noncomputable def cl(p j1 j2 c:Nat):Nat:=if c<p then c else if c=p then j1 else j2
end Mx
namespace Mx
end Mx
namespace Mx
noncomputable def lam(G:Fn)(i j:Nat):Int:=gx G j (G i) j
noncomputable def M6(A:Rows):Fn:=fun i j=>H_ (A.getD i []) (A.getD j [])
end Mx
namespace Mx
noncomputable def LX(G:Fn)(i:Nat):Row:=(List.range (i+1)).map fun j=>lam G i j
noncomputable def Iq(G:Fn)(n:Nat):Rows:=(List.range n).map (LX G)
end Mx
namespace Mx
noncomputable def RA(A:Rows)(N:Nat):Fn:=fun i j=>if j<N then M6 A i j else(A.getD i []).getD (j-N) 0
noncomputable def ev(A:Rows)(N i k c:Nat):Int:=gx (RA A N) k (RA A N i) (N+c)
theorem AB(n:Nat)(a b:Int)(f g:Nat→Int):S n (fun c=>a*f c-b*g c)=a*S n f-b*S n g:=by
 induction n with
 |zero=>show(0:Int)=a*0-b*0;omega
 |succ n ih=>
  show S n (fun c=>a*f c-b*g c)+(a*f n-b*g n)=a*(S n f+f n)-b*(S n g+g n)
  rw[ih,Int.mul_add,Int.mul_add];omega
section
variable {A:Rows}{N w:Nat}
end
end Mx
namespace Mx
end Mx
namespace Mx
noncomputable def NP(M:Fn)(k j:Nat)(q:Int):Fn:=fun a b=>if a=k then M a b-q*M j b else M a b
noncomputable def NK(M:Fn)(k j:Nat)(q:Int):Fn:=fun a b=>if b=k then M a b-q*M a j else M a b
noncomputable def tk(G:Fn)(k j:Nat)(q:Int):Fn:=NK (NP G k j q) k j q
end Mx
namespace Mx
section
variable {G:Fn}{t:Nat}(sym:∀i j,G i j=G j i)
include sym
end
end Mx
namespace Mx
section
variable {A:Rows}{N w:Nat}
theorem cW(hA:dc N w A){i:Nat}(hi:i<N):(A.getD i []).length=w:=hA.sr _ (by have:=hA.len;rw[bB (by omega)];exact List.getElem_mem _)
end
end Mx
namespace Mx
noncomputable def cf(A:Rows)(k:Nat)(q:Int)(j:Nat):Rows:=A.set k (bX (A.getD k []) (-q) (A.getD j []))
noncomputable def bP(A:Rows)(k o:Nat):Rows:=(A.set k (A.getD o [])).set o (A.getD k [])
theorem kX{A:Rows}{k i:Nat}{r:Row}(hk:k<A.length):(A.set k r).getD i []=if i=k then r else A.getD i []:=by
 rw[List.getD_eq_getElem?_getD,List.getElem?_set]
 by_cases h:k=i
 · rw[if_pos h,if_pos (by omega),if_pos h.symm];rfl
 · rw[if_neg h,if_neg (Ne.symm h),List.getD_eq_getElem?_getD]
theorem BE{A:Rows}{k j:Nat}{q:Int}:(cf A k q j).length=A.length:=by unfold cf;rw[List.length_set]
theorem sP{A:Rows}{N w k j:Nat}{q:Int}(hA:dc N w A)(hk:k<N)(hj:j<N):dc N w (cf A k q j):=by
 refine⟨BE.trans hA.len,fun r hr=>?_⟩
 unfold cf at hr
 rcases List.mem_or_eq_of_mem_set hr with h|rfl
 · exact hA.sr r h
 · rw[gw (by rw[cW hA hk,cW hA hj]),cW hA hk]
end Mx
namespace Mx
structure Tn(A0 A U C:Rows)(N w:Nat):Prop where
 isA:dc N w A
 gf:dc N N U
 iq:dc N N C
 ua:∀i c,i<N→c<w→g A i c=S N fun k=>g U i k*g A0 k c
 ub:∀i j,i<N→j<N→S N (fun k=>g U i k*g C j k)=dl i j
 bu:∀i j,i<N→j<N→S N (fun k=>g C k i*g U k j)=dl i j
theorem fM{A:Rows}{N w k j:Nat}{q:Int}(hA:dc N w A)(hk:k<N)(hj:j<N)(i c:Nat):g (cf A k q j) i c=if i=k then g A k c-q*g A j c else g A i c:=by
 unfold g cf
 have hl:=hA.len
 rw[kX (by omega)]
 by_cases h:i=k
 · rw[if_pos h,if_pos h,fC (by rw[cW hA hk,cW hA hj]),Int.neg_mul];omega
 · rw[if_neg h,if_neg h]
theorem t5(n:Nat)(a b:Int)(f h:Nat→Int):S n (fun c=>a*f c+b*h c)=a*S n f+b*S n h:=by
 rw[pd,qR,qR]
theorem Tn.take{A0 A U C:Rows}{N w k j:Nat}{q:Int}(T:Tn A0 A U C N w)(hk:k<N)(hj:j<N)(hkj:j≠k):Tn A0 (cf A k q j) (cf U k q j) (cf C j (-q) k) N w where
 isA:=sP T.isA hk hj
 gf:=sP T.gf hk hj
 iq:=sP T.iq hj hk
 ua:=fun i c hi hc=>by
  rw[fM T.isA hk hj]
  have e:S N (fun m=>g (cf U k q j) i m*g A0 m c)=S N fun m=>(if i=k then g U k m-q*g U j m else g U i m)*g A0 m c:=cD fun m _=>by rw[fM T.gf hk hj]
  rw[e]
  by_cases h:i=k
  · simp only[if_pos h]
    rw[T.ua k c hk hc,T.ua j c hj hc]
    have e2:S N (fun m=>(g U k m-q*g U j m)*g A0 m c)=S N fun m=>1*(g U k m*g A0 m c)-q*(g U j m*g A0 m c):=cD fun m _=>by grind
    rw[e2,AB];omega
  · simp only[if_neg h]
    exact T.ua i c hi hc
 ub:=fun i l hi hl=>by
  have e:S N (fun m=>g (cf U k q j) i m*g (cf C j (-q) k) l m)=S N fun m=>(if i=k then g U k m-q*g U j m else g U i m)*(if l=j then g C j m- -q*g C k m else g C l m):=cD fun m _=>by rw[fM T.gf hk hj,fM T.iq hj hk]
  rw[e]
  have djk:dl j k=0:=gM hkj
  by_cases h:i=k
  · by_cases h2:l=j
    · simp only[if_pos h,if_pos h2]
      have e2:S N (fun m=>(g U k m-q*g U j m)*(g C j m- -q*g C k m))=S N fun m=>1*(1*(g U k m*g C j m)+q*(g U k m*g C k m))-q*(1*(g U j m*g C j m)+q*(g U j m*g C k m)):=cD fun m _=>by grind
      rw[e2,AB,t5,t5,T.ub k j hk hj,T.ub k k hk hk,T.ub j j hj hj,T.ub j k hj hk,h,h2,gh,gh,djk,zL k j,djk]
      omega
    · simp only[if_pos h,if_neg h2]
      have e2:S N (fun m=>(g U k m-q*g U j m)*g C l m)=S N fun m=>1*(g U k m*g C l m)-q*(g U j m*g C l m):=cD fun m _=>by grind
      rw[e2,AB,T.ub k l hk hl,T.ub j l hj hl,h,gM (Ne.symm h2)]
      omega
  · by_cases h2:l=j
    · simp only[if_neg h,if_pos h2]
      have e2:S N (fun m=>g U i m*(g C j m- -q*g C k m))=S N fun m=>1*(g U i m*g C j m)+q*(g U i m*g C k m):=cD fun m _=>by grind
      rw[e2,t5,T.ub i j hi hj,T.ub i k hi hk,h2,gM h]
      omega
    · simp only[if_neg h,if_neg h2]
      exact T.ub i l hi hl
 bu:=fun i l hi hl=>by
  have e:S N (fun m=>g (cf C j (-q) k) m i*g (cf U k q j) m l)=S N fun m=>g C m i*g U m l+((q*(g C k i*g U j l))*dl m j+(-(q*(g C k i*g U j l)))*dl m k):=cD fun m _=>by
   rw[fM T.gf hk hj,fM T.iq hj hk]
   by_cases h1:m=j
   · have h2:m≠k:=by omega
     rw[if_pos h1,if_neg h2,h1,gh,gM hkj];grind
   · rw[if_neg h1,gM h1]
     by_cases h2:m=k
     · rw[if_pos h2,h2,gh];grind
     · rw[if_neg h2,gM h2];grind
  rw[e,pd,t5,T.bu i l hi hl]
  have e1:S N (fun c=>dl c j)=1:=by
   rw[rG hj fun i _ h=>gM h,gh]
  have e2:S N (fun c=>dl c k)=1:=by
   rw[rG hk fun i _ h=>gM h,gh]
  rw[e1,e2];omega
end Mx
namespace Mx
theorem yk{A:Rows}{k o i:Nat}(hk:k<A.length)(ho:o<A.length):(bP A k o).getD i []=A.getD (sw k o i) []:=by
 unfold bP
 rw[kX (by rw[List.length_set];exact ho),kX hk]
 unfold sw
 by_cases h1:i=k
 · rw[if_pos h1,if_pos h1]
   by_cases h2:i=o
   · rw[if_pos h2,←h1,←h2]
   · rw[if_neg h2]
 · rw[if_neg h1,if_neg h1]
   by_cases h2:i=o
   · rw[if_pos h2,if_pos h2]
   · rw[if_neg h2,if_neg h2]
theorem sU{A:Rows}{N w k o:Nat}(hA:dc N w A)(hk:k<N)(ho:o<N):dc N w (bP A k o):=by
 refine⟨by unfold bP;rw[List.length_set,List.length_set];exact hA.len,fun r hr=>?_⟩
 unfold bP at hr
 rcases List.mem_or_eq_of_mem_set hr with h|rfl
 · rcases List.mem_or_eq_of_mem_set h with h|rfl
   · exact hA.sr r h
   · exact cW hA ho
 · exact cW hA hk
theorem kl{A:Rows}{N w k o:Nat}(hA:dc N w A)(hk:k<N)(ho:o<N)(i c:Nat):g (bP A k o) i c=g A (sw k o i) c:=by
 unfold g
 rw[yk (by have:=hA.len;omega) (by have:=hA.len;omega)]
theorem qg{k o N i:Nat}(hk:k<N)(ho:o<N)(hi:i<N):sw k o i<N:=by unfold sw;split<;>(try split)<;>assumption
theorem Ci(k o x:Nat):sw k o (sw k o x)=x:=by
 unfold sw
 by_cases h1:x=k
 · subst h1
   rw[if_pos rfl]
   by_cases h2:o=x
   · rw[if_pos h2];exact h2
   · rw[if_neg h2,if_pos rfl]
 · rw[if_neg h1]
   by_cases h2:x=o
   · subst h2;rw[if_pos rfl,if_pos rfl]
   · rw[if_neg h2,if_neg h1,if_neg h2]
theorem Lr{k o a b:Nat}:dl (sw k o a) (sw k o b)=dl a b:=by
 by_cases h:a=b
 · rw[h,gh,gh]
 · rw[gM h,gM fun z=>h (by rw[←Ci k o a,←Ci k o b,z])]
theorem HD(k x:Nat):sw k k x=x:=by
 unfold sw
 by_cases h:x=k
 · rw[if_pos h,h]
 · rw[if_neg h,if_neg h]
theorem Ll{n i j:Nat}(hi:i<n)(hj:j<n)(f:Nat→Int):S n (fun k=>f (sw i j k))=S n f:=by
 by_cases h:i=j
 · subst h;exact cD fun k _=>by rw[HD]
 · exact Nk hi hj h f
theorem Tn.Fv{A0 A U C:Rows}{N w k o:Nat}(T:Tn A0 A U C N w)(hk:k<N)(ho:o<N):Tn A0 (bP A k o) (bP U k o) (bP C k o) N w where
 isA:=sU T.isA hk ho
 gf:=sU T.gf hk ho
 iq:=sU T.iq hk ho
 ua:=fun i c hi hc=>by
  rw[kl T.isA hk ho,T.ua _ c (qg hk ho hi) hc]
  exact cD fun m _=>by rw[kl T.gf hk ho]
 ub:=fun i j hi hj=>by
  rw[←Lr (k:=k) (o:=o),←T.ub _ _ (qg hk ho hi) (qg hk ho hj)]
  exact cD fun m _=>by rw[kl T.gf hk ho,kl T.iq hk ho]
 bu:=fun i j hi hj=>by
  rw[←T.bu i j hi hj,←Ll hk ho fun m=>g C m i*g U m j]
  exact cD fun m _=>by rw[kl T.gf hk ho,kl T.iq hk ho]
noncomputable def ik(A:Rows)(k:Nat):Rows:=A.set k ((A.getD k []).map fun x=> -x)
theorem xq{A:Rows}{N w k:Nat}(hA:dc N w A)(hk:k<N):dc N w (ik A k):=by
 refine⟨by unfold ik;rw[List.length_set];exact hA.len,fun r hr=>?_⟩
 unfold ik at hr
 rcases List.mem_or_eq_of_mem_set hr with h|rfl
 · exact hA.sr r h
 · rw[List.length_map];exact cW hA hk
theorem DR(r:Row)(c:Nat):(r.map fun x=> -x).getD c 0= -r.getD c 0:=by
 rw[List.getD_eq_getElem?_getD,List.getD_eq_getElem?_getD,List.getElem?_map]
 cases r[c]?<;>rfl
theorem kJ{A:Rows}{N w k:Nat}(hA:dc N w A)(hk:k<N)(i c:Nat):g (ik A k) i c=if i=k then-g A k c else g A i c:=by
 unfold g ik
 rw[kX (by have:=hA.len;omega)]
 by_cases h:i=k
 · rw[if_pos h,if_pos h,DR]
 · rw[if_neg h,if_neg h]
theorem Tn.neg{A0 A U C:Rows}{N w k:Nat}(T:Tn A0 A U C N w)(hk:k<N):Tn A0 (ik A k) (ik U k) (ik C k) N w where
 isA:=xq T.isA hk
 gf:=xq T.gf hk
 iq:=xq T.iq hk
 ua:=fun i c hi hc=>by
  rw[kJ T.isA hk]
  by_cases h:i=k
  · rw[if_pos h,T.ua k c hk hc,←FJ]
    exact cD fun m _=>by rw[kJ T.gf hk,if_pos h,Int.neg_mul]
  · rw[if_neg h,T.ua i c hi hc]
    exact cD fun m _=>by rw[kJ T.gf hk,if_neg h]
 ub:=fun i j hi hj=>by
  have e:S N (fun m=>g (ik U k) i m*g (ik C k) j m)=S N fun m=>(if i=k then-1 else 1)*(if j=k then-1 else 1)*(g U i m*g C j m):=cD fun m _=>by
   rw[kJ T.gf hk,kJ T.iq hk]
   by_cases h1:i=k<;>by_cases h2:j=k<;>simp only[h1,h2,if_true,if_false]<;>grind
  rw[e,qR,T.ub i j hi hj]
  by_cases h1:i=k
  · by_cases h2:j=k
    · simp[h1,h2]
    · rw[gM (by omega)];simp
  · by_cases h2:j=k
    · rw[gM (by omega)];simp
    · simp[h1,h2]
 bu:=fun i j hi hj=>by
  rw[←T.bu i j hi hj]
  exact cD fun m _=>by
   rw[kJ T.gf hk,kJ T.iq hk]
   by_cases h:m=k
   · subst h;rw[if_pos rfl,if_pos rfl];grind
   · rw[if_neg h,if_neg h]
structure j0(A:Rows)(N top p:Nat)(L:List Nat):Prop where
 mem:∀k,k∈L↔top≤k∧k<N∧g A k p≠0
 ord:L.Pairwise fun i j=>(g A i p).natAbs≤(g A j p).natAbs
 nd:L.Nodup
structure B3 where
 A:Rows
 U:Rows
 C:Rows
noncomputable def qn(x y:Int):Int:=(2*x+y).fdiv (2*y)
noncomputable def ko(b:B3)(p k j:Nat):B3:=⟨cf b.A k (qn (g b.A k p) (g b.A j p)) j,cf b.U k (qn (g b.A k p) (g b.A j p)) j,cf b.C j (-(qn (g b.A k p) (g b.A j p))) k⟩
noncomputable def FA(N top p:Nat)(b c:B3):Prop:=∃(L:List Nat) (k j:Nat),j0 b.A N top p (L++[j,k])∧c=ko b p k j
inductive fS(N top p:Nat):B3→B3→Prop
 |refl (b:B3):fS N top p b b
 |head {b c d:B3} (h:FA N top p b c) (t:fS N top p c d):fS N top p b d
theorem fS.tail{N top p:Nat}{b c d:B3}(h:fS N top p b c)(t:FA N top p c d):fS N top p b d:=by
 induction h with
 |refl b=>exact .head t (.refl _)
 |head x _ ih=>exact .head x (ih t)
noncomputable def ja(X:Rows)(N top m:Nat):Prop:=∀i c,top≤i→i<N→(g X i c).natAbs≤m
noncomputable def PR(f:Nat→Nat):Nat→Nat
 |0=>1
 |n+1=>PR f n*f n
theorem Bv{f:Nat→Nat}(h:∀i,1≤f i):∀n,1≤PR f n
 |0=>Nat.le_refl _
 |n+1=>Nat.mul_le_mul (Bv h n) (h n)
theorem x8{f f':Nat→Nat}:∀ {n:Nat},(∀i,i<n→f i=f' i)→PR f n=PR f' n
 |0,_=>rfl
 |n+1,h=>by
  show PR f n*f n=PR f' n*f' n
  rw[x8 fun i hi=>h i (Nat.lt_succ_of_lt hi),h n (Nat.lt_succ_self n)]
theorem Cp{f f':Nat→Nat}{k:Nat}:∀ {n:Nat},k<n→(∀i,i≠k→f i=f' i)→PR f n*f' k=PR f' n*f k
 |0,hk,_=>absurd hk (Nat.not_lt_zero _)
 |n+1,hk,h=>by
  show PR f n*f n*f' k=PR f' n*f' n*f k
  by_cases e:k=n
  · subst e
    rw[x8 (n:=k) fun i hi=>h i (Nat.ne_of_lt hi),Nat.mul_assoc,Nat.mul_comm (f k),Nat.mul_assoc]
  · have:=Cp (n:=n) (by omega) h
    rw[h n (Ne.symm e),Nat.mul_right_comm,this,Nat.mul_right_comm]
theorem FE{f:Nat→Nat}{m top:Nat}(hm:1≤m):∀ {n:Nat},(∀i,i<n→i<top→f i≤1)→(∀i,i<n→f i≤m)→PR f n≤m^(n-top)
 |0,_,_=>by simp[PR]
 |n+1,h1,h2=>by
  have ih:=FE hm (n:=n) (fun i hi=>h1 i (Nat.lt_succ_of_lt hi)) fun i hi=>h2 i (Nat.lt_succ_of_lt hi)
  show PR f n*f n≤_
  by_cases ht:n<top
  · have z:n+1-top=n-top:=by omega
    rw[z]
    exact Nat.le_trans (Nat.mul_le_mul ih (h1 n (Nat.lt_succ_self n) ht)) (by rw[Nat.mul_one];exact Nat.le_refl _)
  · have z:n+1-top=(n-top)+1:=by omega
    rw[z,Nat.pow_succ]
    exact Nat.mul_le_mul ih (h2 n (Nat.lt_succ_self n))
noncomputable def wt(A:Rows)(top p i:Nat):Nat:=if top≤i∧g A i p≠0 then 2*(g A i p).natAbs else 1
theorem Dc(A:Rows)(top p i:Nat):1≤wt A top p i:=by
 unfold wt
 split<;>omega
theorem uS{x y:Int}(hy:y≠0):2*(x-qn x y*y).natAbs≤y.natAbs:=by
 unfold qn
 have h1:=Int.mul_fdiv_add_fmod (2*x+y) (2*y)
 have h2:(2*x+y).fmod (2*y)=2*x+y-2*y*(2*x+y).fdiv (2*y):=by omega
 generalize(2*x+y).fdiv (2*y)=q at*
 have e:2*(x-q*y)=(2*x+y).fmod (2*y)-y:=by rw[h2];grind
 rcases Int.lt_or_gt_of_ne hy with h|h
 · have a0:=Int.neg_fmod_neg (2*x+y) (2*y)
   have a1:=Int.fmod_nonneg_of_pos (-(2*x+y)) (show 0< -(2*y) by omega)
   have a2:=Int.fmod_lt_of_pos (-(2*x+y)) (show 0< -(2*y) by omega)
   omega
 · have a1:=Int.fmod_nonneg_of_pos (2*x+y) (show 0<2*y by omega)
   have a2:=Int.fmod_lt_of_pos (2*x+y) (show 0<2*y by omega)
   omega
theorem GB{x y:Int}(hy:y≠0)(hxy:y.natAbs≤x.natAbs):(1+(qn x y).natAbs)*(if x-qn x y*y≠0 then 2*(x-qn x y*y).natAbs else 1)≤2*x.natAbs:=by
 have h2:=uS (x:=x) hy
 generalize qn x y=q at*
 generalize hr:x-q*y=r at*
 have hx:x=q*y+r:=by omega
 have hq:(q*y).natAbs=q.natAbs*y.natAbs:=Int.natAbs_mul ..
 by_cases h0:r=0
 · rw[if_neg (fun z=>z h0),Nat.mul_one]
   subst h0
   have hxa:x.natAbs=q.natAbs*y.natAbs:=by rw[←hq,hx];simp
   have hy1:1≤y.natAbs:=by omega
   have hq1:1≤q.natAbs:=by
    rcases Nat.eq_zero_or_pos q.natAbs with z|z
    · rw[z,Nat.zero_mul]at hxa;omega
    · exact z
   have:q.natAbs≤q.natAbs*y.natAbs:=Nat.le_mul_of_pos_right _ hy1
   omega
 · rw[if_pos h0]
   have hr1:1≤r.natAbs:=by omega
   have key:(1+q.natAbs)*r.natAbs≤x.natAbs:=by
    rcases Nat.lt_or_ge q.natAbs 2 with hlt|hge
    · rcases Nat.lt_or_ge q.natAbs 1 with h|h
      · have zq:q=0:=Int.natAbs_eq_zero.mp (Nat.le_zero.mp (Nat.le_of_lt_succ h))
        subst zq
        simp at hx
        subst hx
        simp
      · have z:q.natAbs=1:=Nat.le_antisymm (Nat.le_of_lt_succ hlt) h
        rw[z]
        exact Nat.le_trans h2 hxy
    · have h3:(q*y).natAbs≤x.natAbs+r.natAbs:=by omega
      rw[hq]at h3
      have h4:q.natAbs*(2*r.natAbs)≤q.natAbs*y.natAbs:=Nat.mul_le_mul_left _ h2
      have h5:2*r.natAbs≤q.natAbs*r.natAbs:=Nat.mul_le_mul_right _ hge
      have h6:q.natAbs*(2*r.natAbs)=q.natAbs*r.natAbs+q.natAbs*r.natAbs:=by rw[Nat.mul_left_comm];omega
      rw[Nat.add_mul,Nat.one_mul]
      omega
   have:(1+q.natAbs)*(2*r.natAbs)=2*((1+q.natAbs)*r.natAbs):=by rw[Nat.mul_left_comm]
   omega
structure pU(A0:Rows)(N w top p m:Nat)(b0 b:B3)(gr:Nat):Prop where
 tn:Tn A0 b.A b.U b.C N w
 up:∀i,i<top→b.A.getD i []=b0.A.getD i []∧b.U.getD i []=b0.U.getD i []∧b.C.getD i []=b0.C.getD i []
 lA:ja b.A N top (m*gr)
 lU:ja b.U N top (m*gr)
 lC:ja b.C N top (m*gr)
 zs:∀i c,top≤i→i<N→c<p→g b.A i c=0
 ML:gr*PR (wt b.A top p) N≤PR (wt b0.A top p) N
 pos:1≤gr
 Md:b=b0∨∃j,top≤j∧j<N∧g b.A j p≠0
theorem sW{X:Rows}{N w top k j m gr:Nat}{q:Int}(hX:dc N w X)(hk:k<N)(hj:j<N)(hkt:top≤k)(hjt:top≤j)(h:ja X N top (m*gr)):ja (cf X k q j) N top (m*(gr*(1+q.natAbs))):=fun i c hi hN=>by
 rw[fM hX hk hj]
 have e:m*(gr*(1+q.natAbs))=m*gr+q.natAbs*(m*gr):=by rw[←Nat.mul_assoc,Nat.mul_add,Nat.mul_one,Nat.mul_comm (m*gr) q.natAbs]
 rw[e]
 by_cases hik:i=k
 · rw[if_pos hik]
   have h1:=h k c hkt hk
   have h2:=h j c hjt hj
   have h3:(q*g X j c).natAbs≤q.natAbs*(m*gr):=by rw[Int.natAbs_mul];exact Nat.mul_le_mul_left _ h2
   exact Nat.le_trans (Int.natAbs_sub_le _ _) (Nat.add_le_add h1 h3)
 · rw[if_neg hik]
   exact Nat.le_trans (h i c hi hN) (Nat.le_add_right _ _)
theorem ka{X:Rows}{k j i:Nat}{q:Int}(hk:k<X.length)(h:i≠k):(cf X k q j).getD i []=X.getD i []:=by
 unfold cf
 rw[kX hk,if_neg h]
theorem half_lt{r y x:Nat}(h:2*r≤y)(h2:y≤x)(h3:0<x):r<x:=by omega
theorem pU.step{A0:Rows}{N w top p m gr:Nat}{b0 b:B3}{L:List Nat}{k j:Nat}(G:pU A0 N w top p m b0 b gr)(hp:p<w)(hL:j0 b.A N top p (L++[j,k])):
 pU A0 N w top p m b0 (ko b p k j) (gr*(1+(qn (g b.A k p) (g b.A j p)).natAbs))∧(g (ko b p k j).A k p).natAbs<(g b.A k p).natAbs∧(∀i,i≠k→g (ko b p k j).A i p=g b.A i p)∧top≤k∧k<N∧top≤j∧j<N∧j≠k∧g b.A j p≠0:=by
 obtain⟨hk1,hk2,hk3⟩:=(hL.mem k).mp (by simp)
 obtain⟨hj1,hj2,hj3⟩:=(hL.mem j).mp (by simp)
 have hord:=hL.ord
 rw[List.pairwise_append]at hord
 have hle:=(List.pairwise_cons.mp hord.2.1).1 k (by simp)
 have hnd:=hL.nd
 rw[List.nodup_append]at hnd
 have hjk:j≠k:=fun z=>(List.nodup_cons.mp hnd.2.1).1 (by rw[z];exact List.mem_singleton.mpr rfl)
 have gk:g (ko b p k j).A k p=g b.A k p-qn (g b.A k p) (g b.A j p)*g b.A j p:=by
  show g (cf b.A k _ j) k p=_
  rw[fM G.tn.isA hk2 hj2,if_pos rfl]
 have gi:∀i,i≠k→g (ko b p k j).A i p=g b.A i p:=fun i hi=>by
  show g (cf b.A k _ j) i p=_
  rw[fM G.tn.isA hk2 hj2,if_neg hi]
 have hrest:=uS (x:=g b.A k p) hj3
 have hgrow:=GB (x:=g b.A k p) hj3 hle
 refine⟨⟨G.tn.take hk2 hj2 hjk,fun i hi=>?_,sW G.tn.isA hk2 hj2 hk1 hj1 G.lA,sW G.tn.gf hk2 hj2 hk1 hj1 G.lU,?_,fun i c hi hN hc=>?_,?_,?_,.inr ⟨j,hj1,hj2,by rw[gi j hjk];exact hj3⟩⟩,?_,gi,hk1,hk2,hj1,hj2,hjk,hj3⟩
 · obtain⟨a1,a2,a3⟩:=G.up i hi
   refine⟨(ka (by rw[G.tn.isA.len];exact hk2) (by omega)).trans a1,(ka (by rw[G.tn.gf.len];exact hk2) (by omega)).trans a2,(ka (by rw[G.tn.iq.len];exact hj2) (by omega)).trans a3⟩
 · have:=sW (q:= -(qn (g b.A k p) (g b.A j p))) G.tn.iq hj2 hk2 hj1 hk1 G.lC
   rw[Int.natAbs_neg]at this
   exact this
 · show g (cf b.A k _ j) i c=0
   rw[fM G.tn.isA hk2 hj2]
   by_cases h:i=k
   · rw[if_pos h,G.zs k c hk1 hk2 hc,G.zs j c hj1 hj2 hc,Int.mul_zero];rfl
   · rw[if_neg h];exact G.zs i c hi hN hc
 · have e:=Cp (f:=wt (ko b p k j).A top p) (f':=wt b.A top p) (k:=k) hk2 fun i hi=>by unfold wt;rw[gi i hi]
   have w1:wt b.A top p k=2*(g b.A k p).natAbs:=by unfold wt;rw[if_pos ⟨hk1,hk3⟩]
   have w2:(1+(qn (g b.A k p) (g b.A j p)).natAbs)*wt (ko b p k j).A top p k≤wt b.A top p k:=by
    rw[w1]
    unfold wt
    rw[gk]
    by_cases h0:g b.A k p-qn (g b.A k p) (g b.A j p)*g b.A j p=0
    · rw[if_neg (fun z=>z.2 h0)]
      rw[if_neg (fun z=>z h0)]at hgrow
      exact hgrow
    · rw[if_pos ⟨hk1,h0⟩]
      rw[if_pos h0]at hgrow
      exact hgrow
   have hw:0<wt b.A top p k:=Dc _ _ _ _
   refine Nat.le_of_mul_le_mul_right (c:=wt b.A top p k) ?_ hw
   have s1:gr*(1+(qn (g b.A k p) (g b.A j p)).natAbs)*PR (wt (ko b p k j).A top p) N*wt b.A top p k=gr*PR (wt b.A top p) N*((1+(qn (g b.A k p) (g b.A j p)).natAbs)*wt (ko b p k j).A top p k):=by
    rw[Nat.mul_assoc _ (PR _ N),e]
    simp only[Nat.mul_assoc,Nat.mul_left_comm]
   rw[s1]
   exact Nat.mul_le_mul G.ML w2
 · exact Nat.mul_pos G.pos (by omega)
 · rw[gk];exact half_lt hrest hle (Int.natAbs_pos.mpr hk3)
end Mx
namespace Mx
theorem pU.low{A0:Rows}{N w top p e gr:Nat}{b0 b:B3}(G:pU A0 N w top p (2^e) b0 b gr)(h0:ja b0.A N top (2^e)):2^e*gr≤2^((N-top+1)*(e+1)):=by
 have h1:gr≤PR (wt b0.A top p) N:=Nat.le_trans (Nat.le_mul_of_pos_right _ (Bv (Dc _ _ _) N)) G.ML
 have h2:PR (wt b0.A top p) N≤(2^(e+1))^(N-top):=FE Nat.one_le_two_pow (fun i _ ht=>by unfold wt;rw[if_neg (by omega)];exact Nat.le_refl _) fun i hi=>by
  unfold wt
  split
  · rename_i h
    have:=h0 i p h.1 hi
    rw[Nat.pow_succ];omega
  · exact Nat.one_le_two_pow
 refine Nat.le_trans (Nat.mul_le_mul_left _ (Nat.le_trans h1 h2)) ?_
 rw[←Nat.pow_mul,←Nat.pow_add]
 refine Nat.pow_le_pow_right (by decide) ?_
 have e1:(N-top+1)*(e+1)=(e+1)*(N-top)+(e+1):=by rw[Nat.add_mul,Nat.one_mul,Nat.mul_comm]
 rw[e1]
 omega
structure i9(A0:Rows)(N w:Nat)(b:B3)(top p:Nat)(ld:Nat→Nat)(e u:Nat):Prop where
 tn:Tn A0 b.A b.U b.C N w
 le:top≤N
 lo:ja b.A N top (2^e)∧ja b.U N top (2^e)∧ja b.C N top (2^e)
 hi:∀i c,i<top→(g b.A i c).natAbs≤2^u∧(g b.U i c).natAbs≤2^u∧(g b.C i c).natAbs≤2^u
 zs:∀i c,top≤i→i<N→c<p→g b.A i c=0
 lead:∀i,i<top→ld i<p∧0<g b.A i (ld i)∧∀c,c<ld i→g b.A i c=0
 mono:∀i j,i<j→j<top→ld i<ld j
 red:∀i j,i<j→j<top→0≤g b.A i (ld j)∧g b.A i (ld j)<g b.A j (ld j)
theorem i9.y8{A0:Rows}{N w top p e u:Nat}{b:B3}{ld:Nat→Nat}(S:i9 A0 N w b top p ld e u):pU A0 N w top p (2^e) b b 1:=
 ⟨S.tn,fun _ _=>⟨rfl,rfl,rfl⟩,by rw[Nat.mul_one];exact S.lo.1,by rw[Nat.mul_one];exact S.lo.2.1,by rw[Nat.mul_one];exact S.lo.2.2,S.zs,by rw[Nat.one_mul];exact Nat.le_refl _,Nat.le_refl _,.inl rfl⟩
theorem i9.skip{A0:Rows}{N w top p e u:Nat}{b:B3}{ld:Nat→Nat}(S:i9 A0 N w b top p ld e u)(h:j0 b.A N top p []):i9 A0 N w b top (p+1) ld e u:=
 ⟨S.tn,S.le,S.lo,S.hi,fun i c h1 h2 h3=>by
  by_cases hc:c=p
  · subst hc
    exact Classical.byContradiction fun z=>absurd ((h.mem i).mpr ⟨h1,h2,z⟩) (by simp)
  · exact S.zs i c h1 h2 (by omega),fun i hi=>⟨Nat.lt_succ_of_lt (S.lead i hi).1,(S.lead i hi).2⟩,S.mono,S.red⟩
noncomputable def setB(b:B3)(p top r:Nat):B3:=
 if g (bP b.A top r) top p<0 then⟨ik (bP b.A top r) top,ik (bP b.U top r) top,ik (bP b.C top r) top⟩else⟨bP b.A top r,bP b.U top r,bP b.C top r⟩
theorem sL{X:Rows}{N w top r m:Nat}(hX:dc N w X)(ht:top<N)(hr:r<N)(hrt:top≤r)(h:ja X N top m):ja (bP X top r) N top m:=fun i c hi hN=>by
 rw[kl hX ht hr]
 refine h _ c ?_ (qg ht hr hN)
 unfold sw
 split
 · exact hrt
 · split
   · exact Nat.le_refl _
   · exact hi
theorem xY{X:Rows}{N w top m:Nat}(hX:dc N w X)(ht:top<N)(h:ja X N top m):ja (ik X top) N top m:=fun i c hi hN=>by
 rw[kJ hX ht]
 split
 · rw[Int.natAbs_neg];exact h top c (Nat.le_refl _) ht
 · exact h i c hi hN
theorem sI{X:Rows}{N w top r i:Nat}(hX:dc N w X)(ht:top<N)(hr:r<N)(hrt:top≤r)(hi:i<top):(bP X top r).getD i []=X.getD i []:=by
 rw[yk (by have:=hX.len;omega) (by have:=hX.len;omega)]
 unfold sw
 rw[if_neg (by omega),if_neg (by omega)]
theorem yo{X:Rows}{N w top i:Nat}(hX:dc N w X)(ht:top<N)(hi:i<top):(ik X top).getD i []=X.getD i []:=by
 unfold ik
 rw[kX (by have:=hX.len;omega),if_neg (by omega)]
structure oz(A0:Rows)(N w top p m:Nat)(b0 b:B3):Prop where
 tn:Tn A0 b.A b.U b.C N w
 up:∀i,i<top→b.A.getD i []=b0.A.getD i []∧b.U.getD i []=b0.U.getD i []∧b.C.getD i []=b0.C.getD i []
 lo:ja b.A N top m∧ja b.U N top m∧ja b.C N top m
 zs:∀i c,top≤i→i<N→c<p→g b.A i c=0
 tp:0<g b.A top p
 z1:∀i,top<i→i<N→g b.A i p=0
theorem pU.set{A0:Rows}{N w top p m gr r:Nat}{b0 b:B3}(G:pU A0 N w top p m b0 b gr)(hL:j0 b.A N top p [r]):oz A0 N w top p (m*gr) b0 (setB b p top r)∧top≤r∧r<N:=by
 obtain⟨hr1,hr2,hr3⟩:=(hL.mem r).mp (by simp)
 have ht:top<N:=by omega
 have z:∀i,top≤i→i<N→i≠r→g b.A i p=0:=fun i h1 h2 h3=>Classical.byContradiction fun y=>h3 (by simpa using(hL.mem i).mpr ⟨h1,h2,y⟩)
 have swg:∀i c,g (bP b.A top r) i c=g b.A (sw top r i) c:=fun i c=>kl G.tn.isA ht hr2 i c
 have gt:g (bP b.A top r) top p=g b.A r p:=by rw[swg];unfold sw;rw[if_pos rfl]
 have T1:=G.tn.Fv ht hr2
 have z1:∀i,top<i→i<N→g (bP b.A top r) i p=0:=fun i h1 h2=>by
  rw[swg]
  unfold sw
  rw[if_neg (by omega)]
  by_cases h:i=r
  · rw[if_pos h];exact z top (Nat.le_refl _) ht (by omega)
  · rw[if_neg h];exact z i (by omega) h2 h
 have zs:∀i c,top≤i→i<N→c<p→g (bP b.A top r) i c=0:=fun i c h1 h2 h3=>by
  rw[swg]
  refine G.zs _ c ?_ (qg ht hr2 h2) h3
  unfold sw
  split
  · exact hr1
  · split
    · exact Nat.le_refl _
    · exact h1
 have up:∀i,i<top→(bP b.A top r).getD i []=b0.A.getD i []∧(bP b.U top r).getD i []=b0.U.getD i []∧(bP b.C top r).getD i []=b0.C.getD i []:=fun i hi=>by
  obtain⟨a1,a2,a3⟩:=G.up i hi
  exact⟨(sI G.tn.isA ht hr2 hr1 hi).trans a1,(sI G.tn.gf ht hr2 hr1 hi).trans a2,(sI G.tn.iq ht hr2 hr1 hi).trans a3⟩
 have lo:=And.intro (sL G.tn.isA ht hr2 hr1 G.lA) (And.intro (sL G.tn.gf ht hr2 hr1 G.lU) (sL G.tn.iq ht hr2 hr1 G.lC))
 refine⟨?_,hr1,hr2⟩
 unfold setB
 by_cases hs:g (bP b.A top r) top p<0
 · rw[if_pos hs]
   refine⟨T1.neg ht,fun i hi=>?_,⟨xY T1.isA ht lo.1,xY T1.gf ht lo.2.1,xY T1.iq ht lo.2.2⟩,fun i c h1 h2 h3=>?_,?_,fun i h1 h2=>?_⟩
   · obtain⟨a1,a2,a3⟩:=up i hi
     exact⟨(yo T1.isA ht hi).trans a1,(yo T1.gf ht hi).trans a2,(yo T1.iq ht hi).trans a3⟩
   · show g (ik (bP b.A top r) top) i c=0
     rw[kJ T1.isA ht]
     split
     · rw[zs top c (Nat.le_refl _) ht h3];rfl
     · exact zs i c h1 h2 h3
   · show 0<g (ik (bP b.A top r) top) top p
     rw[kJ T1.isA ht,if_pos rfl];omega
   · show g (ik (bP b.A top r) top) i p=0
     rw[kJ T1.isA ht,if_neg (by omega)];exact z1 i h1 h2
 · rw[if_neg hs]
   exact⟨T1,up,lo,zs,by show 0<g (bP b.A top r) top p;rw[gt]at hs⊢;omega,z1⟩
noncomputable def jF(p top:Nat):Nat→B3→B3
 |0,b=>b
 |k+1,b=>
  let c:=jF p top k b
  ⟨cf c.A k ((g c.A k p).fdiv (g c.A top p)) top,cf c.U k ((g c.A k p).fdiv (g c.A top p)) top,cf c.C top (-((g c.A k p).fdiv (g c.A top p))) k⟩
structure ot(A0:Rows)(N w top p e u:Nat)(b:B3)(k:Nat)(c:B3):Prop where
 tn:Tn A0 c.A c.U c.C N w
 rA:∀i,k≤i→c.A.getD i []=b.A.getD i []∧c.U.getD i []=b.U.getD i []
 rC:∀i,i≠top→c.C.getD i []=b.C.getD i []
 ah:∀i q,i<k→q<p→g c.A i q=g b.A i q
 rd:∀i,i<k→0≤g c.A i p∧g c.A i p<g c.A top p
 sz:∀i q,i<k→(g c.A i q).natAbs≤2^(u+e+1)∧(g c.U i q).natAbs≤2^(u+e+1)
 sC:∀q,(g c.C top q).natAbs≤2^e+k*2^(u+u)
theorem sG(a:Int){b:Int}(hb:0<b):(a.fdiv b).natAbs≤a.natAbs:=by
 rw[Int.fdiv_eq_ediv_of_nonneg _ (Int.le_of_lt hb)]
 exact Int.natAbs_ediv_le_natAbs a b
theorem yM{a b c:Nat}(h1:a≤2^c)(h2:b≤2^c):a+b≤2^(c+1):=by rw[Nat.pow_succ];omega
theorem u0{x y:Int}{a b:Nat}(hx:x.natAbs≤a)(hy:y.natAbs≤b):(x-y).natAbs≤a+b:=Nat.le_trans (Int.natAbs_sub_le x y) (Nat.add_le_add hx hy)
theorem ot.step{A0:Rows}{N w top p e u k:Nat}{b c:B3}(I:ot A0 N w top p e u b k c)(hk:k<top)(ht:top<N)(hp:p<w)(htp:0<g b.A top p)(hz:∀q,q<p→g b.A top q=0)
 (hlo:∀q,(g b.A top q).natAbs≤2^e∧(g b.U top q).natAbs≤2^e) (hhi:∀i q,i<top→(g b.A i q).natAbs≤2^u∧(g b.U i q).natAbs≤2^u∧(g b.C i q).natAbs≤2^u):
 ot A0 N w top p e u b (k+1) ⟨cf c.A k ((g c.A k p).fdiv (g c.A top p)) top,cf c.U k ((g c.A k p).fdiv (g c.A top p)) top,cf c.C top (-((g c.A k p).fdiv (g c.A top p))) k⟩:=by
 have hkN:k<N:=by omega
 have gA:∀i q,k≤i→g c.A i q=g b.A i q:=fun i q hi=>by unfold g;rw[(I.rA i hi).1]
 have gU:∀i q,k≤i→g c.U i q=g b.U i q:=fun i q hi=>by unfold g;rw[(I.rA i hi).2]
 have gC:∀i q,i≠top→g c.C i q=g b.C i q:=fun i q hi=>by unfold g;rw[I.rC i hi]
 have qe:((g c.A k p).fdiv (g c.A top p)).natAbs≤2^u:=by
  rw[gA k p (Nat.le_refl _),gA top p (by omega)]
  exact Nat.le_trans (sG _ htp) (hhi k p hk).1
 have hq:∀x:Int,x.natAbs≤2^e→((g c.A k p).fdiv (g c.A top p)*x).natAbs≤2^(u+e):=fun x hx=>by
  rw[Int.natAbs_mul,Nat.pow_add];exact Nat.mul_le_mul qe hx
 have le1:2^u≤2^(u+e):=Nat.pow_le_pow_right (by decide) (by omega)
 refine⟨I.tn.take hkN ht (by omega),fun i hi=>?_,fun i hi=>?_,fun i q hi hqp=>?_,fun i hi=>?_,fun i q hi=>?_,fun q=>?_⟩
 · exact⟨(ka (by rw[I.tn.isA.len];exact hkN) (by omega)).trans (I.rA i (by omega)).1,(ka (by rw[I.tn.gf.len];exact hkN) (by omega)).trans (I.rA i (by omega)).2⟩
 · exact(ka (by rw[I.tn.iq.len];exact ht) hi).trans (I.rC i hi)
 · show g (cf c.A k _ top) i q=_
   rw[fM I.tn.isA hkN ht]
   split
   · rename_i h
     rw[gA top q (by omega),hz q hqp,Int.mul_zero,gA k q (Nat.le_refl _),h];omega
   · exact I.ah i q (by omega) hqp
 · show 0≤g (cf c.A k _ top) i p∧g (cf c.A k _ top) i p<g (cf c.A k _ top) top p
   rw[fM I.tn.isA hkN ht,fM I.tn.isA hkN ht,if_neg (show¬top=k by omega)]
   split
   · have h1:=Int.mul_fdiv_add_fmod (g c.A k p) (g c.A top p)
     have htp':0<g c.A top p:=by rw[gA top p (by omega)];exact htp
     have h2:=Int.fmod_nonneg_of_pos (g c.A k p) htp'
     have h3:=Int.fmod_lt_of_pos (g c.A k p) htp'
     rw[Int.mul_comm]at h1
     omega
   · exact I.rd i (by omega)
 · show(g (cf c.A k _ top) i q).natAbs≤_∧(g (cf c.U k _ top) i q).natAbs≤_
   rw[fM I.tn.isA hkN ht,fM I.tn.gf hkN ht]
   split
   · have a1:=hq (g c.A top q) (by rw[gA top q (by omega)];exact(hlo q).1)
     have a2:=hq (g c.U top q) (by rw[gU top q (by omega)];exact(hlo q).2)
     rw[gA k q (Nat.le_refl _),gU k q (Nat.le_refl _)]
     rw[Nat.pow_succ,Nat.mul_two]
     exact⟨u0 (Nat.le_trans (hhi k q hk).1 le1) a1,u0 (Nat.le_trans (hhi k q hk).2.1 le1) a2⟩
   · exact I.sz i q (by omega)
 · show(g (cf c.C top _ k) top q).natAbs≤_
   rw[fM I.tn.iq ht hkN,if_pos rfl,gC k q (by omega),Int.neg_mul]
   have a1:=I.sC q
   have a2:((g c.A k p).fdiv (g c.A top p)*g b.C k q).natAbs≤2^(u+u):=by
    rw[Int.natAbs_mul,Nat.pow_add];exact Nat.mul_le_mul qe (hhi k q hk).2.2
   rw[Nat.add_mul,Nat.one_mul,←Nat.add_assoc]
   exact u0 a1 (by rw[Int.natAbs_neg];exact a2)
theorem ot.start{A0:Rows}{N w top p e u:Nat}{b:B3}(T:Tn A0 b.A b.U b.C N w)(h:∀q,(g b.C top q).natAbs≤2^e):ot A0 N w top p e u b 0 b:=
 ⟨T,fun _ _=>⟨rfl,rfl⟩,fun _ _=>rfl,fun _ _ h=>absurd h (Nat.not_lt_zero _),fun _ h=>absurd h (Nat.not_lt_zero _),fun _ _ h=>absurd h (Nat.not_lt_zero _),fun q=>by rw[Nat.zero_mul];exact h q⟩
theorem oz.next{A0:Rows}{N w top p e u e' u':Nat}{b0 b c:B3}{ld:Nat→Nat}(S:i9 A0 N w b0 top p ld e u)(s:oz A0 N w top p (2^e') b0 b)(ht:top<N)(I:ot A0 N w top p e' u b top c)(hN:N≤8)
 (h1:u+e'+1≤u') (h2:u+u+4≤u'):i9 A0 N w c (top+1) (p+1) (fun i=>if i=top then p else ld i) e' u':=by
 have hup:∀i q,i<top→g b.A i q=g b0.A i q:=fun i q hi=>by unfold g;rw[(s.up i hi).1]
 have hA:∀i q,top≤i→g c.A i q=g b.A i q:=fun i q hi=>by unfold g;rw[(I.rA i hi).1]
 have hU:∀i q,top≤i→g c.U i q=g b.U i q:=fun i q hi=>by unfold g;rw[(I.rA i hi).2]
 have hC:∀i q,i≠top→g c.C i q=g b.C i q:=fun i q hi=>by unfold g;rw[I.rC i hi]
 have le:∀ {a x:Nat},a≤2^x→x≤u'→a≤2^u':=fun h hx=>Nat.le_trans h (Nat.pow_le_pow_right (by decide) hx)
 refine⟨I.tn,ht,⟨fun i q hi hN=>?_,fun i q hi hN=>?_,fun i q hi hN=>?_⟩,fun i q hi=>?_,fun i q hi hN hq=>?_,fun i hi=>?_,fun i j hij hj=>?_,fun i j hij hj=>?_⟩
 · rw[hA i q (by omega)];exact s.lo.1 i q (by omega) hN
 · rw[hU i q (by omega)];exact s.lo.2.1 i q (by omega) hN
 · rw[hC i q (by omega)];exact s.lo.2.2 i q (by omega) hN
 · by_cases h:i=top
   · subst h
     refine⟨?_,?_,?_⟩
     · rw[hA i q (Nat.le_refl _)];exact le (s.lo.1 i q (Nat.le_refl _) ht) (by omega)
     · rw[hU i q (Nat.le_refl _)];exact le (s.lo.2.1 i q (Nat.le_refl _) ht) (by omega)
     · have h3:=I.sC q
       have h4:i*2^(u+u)≤2^(u+u+3):=by rw[Nat.pow_add _ _ 3,Nat.mul_comm];exact Nat.mul_le_mul_left _ (by omega)
       have h5:2^(u+u+3)*2≤2^u':=by rw[←Nat.pow_succ];exact Nat.pow_le_pow_right (by decide) h2
       have h6:2^e'*2≤2^u':=by rw[←Nat.pow_succ];exact Nat.pow_le_pow_right (by decide) (by omega)
       omega
   · have hi':i<top:=by omega
     refine⟨le (I.sz i q hi').1 h1,le (I.sz i q hi').2 h1,?_⟩
     rw[hC i q h]
     have:g b.C i q=g b0.C i q:=by unfold g;rw[(s.up i hi').2.2]
     rw[this]
     exact le (S.hi i q hi').2.2 (by omega)
 · rw[hA i q (by omega)]
   by_cases h:q=p
   · rw[h];exact s.z1 i (by omega) hN
   · exact s.zs i q (by omega) hN (by omega)
 · by_cases h:i=top
   · subst h
     rw[if_pos rfl]
     refine⟨Nat.lt_succ_self p,?_,fun q hq=>?_⟩
     · rw[hA i p (Nat.le_refl _)];exact s.tp
     · rw[hA i q (Nat.le_refl _)];exact s.zs i q (Nat.le_refl _) ht hq
   · have hi':i<top:=by omega
     rw[if_neg h]
     obtain⟨a1,a2,a3⟩:=S.lead i hi'
     refine⟨Nat.lt_succ_of_lt a1,?_,fun q hq=>?_⟩
     · rw[I.ah i _ hi' a1,hup i _ hi'];exact a2
     · rw[I.ah i _ hi' (Nat.lt_trans hq a1),hup i _ hi'];exact a3 q hq
 · by_cases h:j=top
   · rw[if_pos h,if_neg (by omega)];exact(S.lead i (by omega)).1
   · rw[if_neg h,if_neg (by omega)];exact S.mono i j hij (by omega)
 · by_cases h:j=top
   · subst h
     rw[if_pos rfl]
     exact I.rd i hij
   · have hj':j<top:=by omega
     rw[if_neg h]
     have:=S.red i j hij hj'
     have hl:=(S.lead j hj').1
     rw[I.ah i _ (by omega) hl,I.ah j _ hj' hl,hup i _ (by omega),hup j _ hj']
     exact this
theorem Tn.start{A:Rows}{N w:Nat}(hA:dc N w A):Tn A A (units N) (units N) N w where
 isA:=hA
 gf:=sD N
 iq:=sD N
 ua:=fun i c hi hc=>by
  rw[←uh hi fun k=>g A k c]
  exact cD fun m hm=>by rw[kW hi hm]
 ub:=fun i j hi hj=>by
  rw[zL i j,←uh hi fun k=>dl j k]
  · exact cD fun m hm=>by rw[kW hi hm,kW hj hm]
 bu:=fun i j hi hj=>by
  rw[←x_ hi fun k=>dl k j]
  exact cD fun m hm=>by rw[kW hm hi,kW hm hj,Int.mul_comm]
theorem i9.start{A:Rows}{N w e:Nat}(hA:dc N w A)(h:ja A N 0 (2^e)):i9 A N w ⟨A,units N,units N⟩ 0 0 (fun _=>0) e 0:=by
 have hu:ja (units N) N 0 (2^e):=fun i c _ hi=>by
  by_cases hc:c<N
  · rw[kW hi hc]
    unfold dl
    split
    · exact Nat.one_le_two_pow
    · exact Nat.zero_le _
  · unfold g
    rw[nc (l:=(units N).getD i []) (by rw[cW (sD N) hi];omega)]
    exact Nat.zero_le _
 exact⟨Tn.start hA,Nat.zero_le _,⟨h,hu,hu⟩,fun _ _ h=>absurd h (Nat.not_lt_zero _),fun _ _ _ _ h=>absurd h (Nat.not_lt_zero _),fun _ h=>absurd h (Nat.not_lt_zero _),fun _ _ _ h=>absurd h (Nat.not_lt_zero _),fun _ _ _ h=>absurd h (Nat.not_lt_zero _)⟩
end Mx
namespace Mx
noncomputable def SU(f:Nat→Nat):Nat→Nat
 |0=>0
 |n+1=>SU f n+f n
theorem FL{f f':Nat→Nat}:∀ {n:Nat},(∀i,i<n→f' i≤f i)→SU f' n≤SU f n
 |0,_=>Nat.le_refl _
 |n+1,h=>Nat.add_le_add (FL fun i hi=>h i (Nat.lt_succ_of_lt hi)) (h n (Nat.lt_succ_self n))
theorem Ff{f f':Nat→Nat}{k:Nat}(hlt:f' k<f k):∀ {n:Nat},k<n→(∀i,i<n→f' i≤f i)→SU f' n<SU f n
 |0,hk,_=>absurd hk (Nat.not_lt_zero _)
 |n+1,hk,h=>by
  by_cases e:k=n
  · subst e
    exact Nat.add_lt_add_of_le_of_lt (FL fun i hi=>h i (Nat.lt_succ_of_lt hi)) hlt
  · exact Nat.add_lt_add_of_lt_of_le (Ff hlt (by omega) fun i hi=>h i (Nat.lt_succ_of_lt hi)) (h n (Nat.lt_succ_self n))
noncomputable def mu(A:Rows)(N p:Nat):Nat:=SU (fun i=>(g A i p).natAbs) N
inductive KD(N p:Nat):Nat→B3→Nat→B3→Prop
 |none {top:Nat} {b:B3} (h:j0 b.A N top p []):KD N p top b top b
 |one {top r:Nat} {b c:B3} (h:fS N top p b c) (l:j0 c.A N top p [r]):KD N p top b (top+1) (jF p top top (setB c p top r))
inductive kT(A:Rows)(N:Nat):Nat→Nat→B3→Prop
 |start:kT A N 0 0 ⟨A,units N,units N⟩
 |next {p t t':Nat} {b b':B3} (h:kT A N p t b) (c:KD N p t b t' b'):kT A N (p+1) t' b'
noncomputable def Ez(N e0:Nat):Nat→Nat
 |0=>e0
 |t+1=>(N-t+1)*(Ez N e0 t+1)
noncomputable def Vz(N e0:Nat):Nat→Nat
 |0=>0
 |t+1=>Vz N e0 t+Vz N e0 t+Ez N e0 (t+1)+5
end Mx
namespace Mx
noncomputable def bM(X:Rows)(n w:Nat)(v:Nat→Int):Prop:=∃z:Nat→Int,∀c,c<w→v c=S n fun k=>z k*g X k c
theorem bM.row{X:Rows}{n w k:Nat}(hk:k<n):bM X n w (g X k):=⟨fun i=>dl k i,fun c _=>(uh hk fun i=>g X i c).symm⟩
theorem bM.sub{X:Rows}{n w:Nat}{u v:Nat→Int}(hu:bM X n w u)(hv:bM X n w v):bM X n w fun c=>u c-v c:=by
 obtain⟨y,hy⟩:=hu
 obtain⟨z,hz⟩:=hv
 refine⟨fun k=>y k-z k,fun c hc=>?_⟩
 show u c-v c=S n fun k=>(y k-z k)*g X k c
 rw[hy c hc,hz c hc,Int.sub_eq_add_neg,←FJ,←pd]
 exact cD fun k _=>by rw[Int.sub_mul,Int.sub_eq_add_neg]
theorem bM.trans{X Y:Rows}{m n w:Nat}{v:Nat→Int}(h:∀k,k<m→bM Y n w (g X k))(hv:bM X m w v):bM Y n w v:=by
 obtain⟨z,hz⟩:=hv
 have h':∀k,∃y:Nat→Int,k<m→∀c,c<w→g X k c=S n fun i=>y i*g Y i c:=fun k=>by
  by_cases hk:k<m
  · obtain⟨y,hy⟩:=h k hk
    exact⟨y,fun _=>hy⟩
  · exact⟨fun _=>0,fun h=>absurd h hk⟩
 refine⟨fun i=>S m fun k=>z k*Classical.choose (h' k) i,fun c hc=>?_⟩
 rw[hz c hc]
 have e1:S m (fun k=>z k*g X k c)=S m fun k=>S n fun i=>z k*Classical.choose (h' k) i*g Y i c:=cD fun k hk=>by
  rw[Classical.choose_spec (h' k) hk c hc,←qR]
  exact cD fun i _=>(Int.mul_assoc _ _ _).symm
 rw[e1,BF]
 exact cD fun i _=>C_ _ _ _
structure cN(X:Rows)(n w:Nat)(ld:Nat→Nat):Prop where
 lead:∀i,i<n→ld i<w∧0<g X i (ld i)∧∀c,c<ld i→g X i c=0
 mono:∀i j,i<j→j<n→ld i<ld j
theorem cN.inj{X:Rows}{n w:Nat}{ld:Nat→Nat}(s:cN X n w ld){i j:Nat}(hi:i<n)(hj:j<n)(h:ld i=ld j):i=j:=by
 rcases Nat.lt_trichotomy i j with q|q|q
 · exact absurd h (Nat.ne_of_lt (s.mono i j q hj))
 · exact q
 · exact absurd h.symm (Nat.ne_of_lt (s.mono j i q hi))
theorem cN.lt{X:Rows}{n w:Nat}{ld:Nat→Nat}(s:cN X n w ld){i j:Nat}(hi:i<n)(hj:j<n)(h:ld i<ld j):i<j:=by
 rcases Nat.lt_trichotomy i j with q|q|q
 · exact q
 · rw[q]at h;exact absurd h (Nat.lt_irrefl _)
 · exact absurd (Nat.lt_trans h (s.mono j i q hi)) (Nat.lt_irrefl _)
theorem cN.gone{X:Rows}{n w q:Nat}{ld:Nat→Nat}{v z:Nat→Int}(s:cN X n w ld)(hz:∀c,c<w→v c=S n fun k=>z k*g X k c)(h0:∀c,c<q→v c=0)(k:Nat):k<n→ld k<q→z k=0:=by
 induction k using Nat.strongRecOn with
 |ind k ih=>
  intro hk hq
  obtain⟨h1,h2,h3⟩:=s.lead k hk
  have e:=hz (ld k) h1
  rw[h0 _ hq,rG hk fun i hi ne=>?_]at e
  · exact(Int.mul_eq_zero.mp e.symm).resolve_right (Int.ne_of_gt h2)
  · rcases Nat.lt_or_gt_of_ne ne with l|l
    · rw[ih i l hi (Nat.lt_trans (s.mono i k l hk) hq),Int.zero_mul]
    · rw[(s.lead i hi).2.2 _ (s.mono k i l hi),Int.mul_zero]
theorem cN.at{X:Rows}{n w q:Nat}{ld:Nat→Nat}{v:Nat→Int}(s:cN X n w ld)(hv:bM X n w v)(hq:q<w)(h0:∀c,c<q→v c=0):(∃i,i<n∧ld i=q∧g X i q∣v q)∨v q=0:=by
 obtain⟨z,hz⟩:=hv
 have go:∀k,k<n→ld k≠q→z k*g X k q=0:=fun k hk ne=>by
  rcases Nat.lt_or_gt_of_ne ne with l|l
  · rw[s.gone hz h0 k hk l,Int.zero_mul]
  · rw[(s.lead k hk).2.2 _ l,Int.mul_zero]
 by_cases h:∃i,i<n∧ld i=q
 · obtain⟨i,hi,e⟩:=h
   refine .inl ⟨i,hi,e,z i,?_⟩
   rw[hz q hq,rG hi fun k hk ne=>go k hk fun z=>ne (s.inj hk hi (z.trans e.symm)),Int.mul_comm]
 · refine .inr ?_
   rw[hz q hq]
   exact uw fun k hk=>go k hk fun e=>h ⟨k,hk,e⟩
theorem cN.sees{X Y:Rows}{n m w:Nat}{ld ld':Nat→Nat}(sX:cN X n w ld)(sY:cN Y m w ld')(h:∀k,k<n→bM Y m w (g X k))(i:Nat)(hi:i<n):∃j,j<m∧ld' j=ld i∧g Y j (ld i)∣g X i (ld i):=by
 obtain⟨h1,h2,h3⟩:=sX.lead i hi
 rcases sY.at (h i hi) h1 h3 with q|q
 · exact q
 · rw[q]at h2;exact absurd h2 (by decide)
theorem cN.same{X Y:Rows}{n m w:Nat}{ld ld':Nat→Nat}(sX:cN X n w ld)(sY:cN Y m w ld')(h1:∀k,k<n→bM Y m w (g X k))(h2:∀k,k<m→bM X n w (g Y k))(i:Nat):i<n→i<m∧ld' i=ld i∧g Y i (ld i)=g X i (ld i):=by
 induction i using Nat.strongRecOn with
 |ind i ih=>
  intro hi
  obtain⟨j,hj,ej,dj⟩:=sX.sees sY h1 i hi
  have e:j=i:=by
   rcases Nat.lt_trichotomy j i with l|l|l
   · have:=(ih j l (Nat.lt_trans l hi)).2.1
     exact absurd (this.symm.trans ej) (Nat.ne_of_lt (sX.mono j i l hi))
   · exact l
   · obtain⟨k,hk,ek,_⟩:=sY.sees sX h2 i (Nat.lt_trans l hj)
     have lk:k<i:=sX.lt hk hi (by rw[ek,←ej];exact sY.mono i j l hj)
     have:=(ih k lk hk).2.1
     exact absurd (this.trans ek) (Nat.ne_of_lt (sY.mono k i lk (Nat.lt_trans l hj)))
  subst e
  refine⟨hj,ej,?_⟩
  obtain⟨k,hk,ek,dk⟩:=sY.sees sX h2 j hj
  have:=sX.inj hk hi (ek.trans ej)
  subst this
  rw[ej]at dk
  exact Int.dvd_antisymm (by rw[←ej];exact Int.le_of_lt (sY.lead k hj).2.1) (Int.le_of_lt (sX.lead k hi).2.1) dj dk
theorem cN.many{X Y:Rows}{n m w:Nat}{ld ld':Nat→Nat}(sX:cN X n w ld)(sY:cN Y m w ld')(h1:∀k,k<n→bM Y m w (g X k))(h2:∀k,k<m→bM X n w (g Y k)):n=m:=by
 refine Nat.le_antisymm ?_ ?_
 · cases n with
   |zero=>exact Nat.zero_le _
   |succ n=>exact(sX.same sY h1 h2 n (Nat.lt_succ_self n)).1
 · cases m with
   |zero=>exact Nat.zero_le _
   |succ m=>exact(sY.same sX h2 h1 m (Nat.lt_succ_self m)).1
noncomputable def sM(X:Rows)(n:Nat)(ld:Nat→Nat):Prop:=∀i j,i<j→j<n→0≤g X i (ld j)∧g X i (ld j)<g X j (ld j)
theorem cN.only{X Y:Rows}{n m w:Nat}{ld ld':Nat→Nat}(sX:cN X n w ld)(sY:cN Y m w ld')(h1:∀k,k<n→bM Y m w (g X k))(h2:∀k,k<m→bM X n w (g Y k))(rX:sM X n ld)(rY:sM Y m ld'){i:Nat}(hi:i<n)(c:Nat):c<w→g X i c=g Y i c:=by
 induction c using Nat.strongRecOn with
 |ind c ih=>
  intro hc
  obtain⟨im,il,ig⟩:=sX.same sY h1 h2 i hi
  have hv:bM X n w fun c=>g X i c-g Y i c:=(bM.row hi).sub (h2 i im)
  rcases sX.at hv hc fun d hd=>by rw[ih d hd (Nat.lt_trans hd hc),Int.sub_self]with⟨j,hj,rfl,d⟩|q
  · obtain⟨jm,jl,jg⟩:=sX.same sY h1 h2 j hj
    rcases Nat.lt_trichotomy i j with l|l|l
    · have a:=rX i j l hj
      have b:=rY i j l jm
      rw[jl,jg]at b
      exact Int.eq_of_sub_eq_zero (Int.eq_zero_of_dvd_of_natAbs_lt_natAbs d (by omega))
    · subst l
      exact ig.symm
    · rw[(sX.lead i hi).2.2 _ (sX.mono j i l hi),(sY.lead i im).2.2 _ (by rw[il];exact sX.mono j i l hi)]
  · exact Int.eq_of_sub_eq_zero q
end Mx
namespace Mx
theorem fS.y8{A0:Rows}{N w top p m:Nat}{b0 b c:B3}(hp:p<w)(h:fS N top p b c):∀ {gr:Nat},pU A0 N w top p m b0 b gr→∃gr',pU A0 N w top p m b0 c gr':=by
 induction h with
 |refl b=>exact fun G=>⟨_,G⟩
 |head s _ ih=>
  intro gr G
  obtain⟨L,k,j,hL,rfl⟩:=s
  exact ih (G.step hp hL).1
theorem oz.mono{A0:Rows}{N w top p m m':Nat}{b0 b:B3}(s:oz A0 N w top p m b0 b)(h:m≤m'):oz A0 N w top p m' b0 b:=
 ⟨s.tn,s.up,⟨fun i c h1 h2=>Nat.le_trans (s.lo.1 i c h1 h2) h,fun i c h1 h2=>Nat.le_trans (s.lo.2.1 i c h1 h2) h,fun i c h1 h2=>Nat.le_trans (s.lo.2.2 i c h1 h2) h⟩,s.zs,s.tp,s.z1⟩
theorem oz.Ft{A0:Rows}{N w top p m:Nat}{b0 b:B3}(s:oz A0 N w top p m b0 b){i:Nat}(hi:i<top)(q:Nat):g b.A i q=g b0.A i q∧g b.U i q=g b0.U i q∧g b.C i q=g b0.C i q:=by
 obtain⟨a1,a2,a3⟩:=s.up i hi
 unfold g
 rw[a1,a2,a3]
 exact⟨rfl,rfl,rfl⟩
theorem i9.one{A0:Rows}{N w t p e u r:Nat}{b c:B3}{ld:Nat→Nat}(S:i9 A0 N w b t p ld e u)(hp:p<w)(h:fS N t p b c)(l:j0 c.A N t p [r]):
 oz A0 N w t p (2^((N-t+1)*(e+1))) b (setB c p t r)∧t<N∧∀k,k≤t→ot A0 N w t p ((N-t+1)*(e+1)) u (setB c p t r) k (jF p t k (setB c p t r)):=by
 obtain⟨gr,G⟩:=h.y8 hp S.y8
 obtain⟨s,h1,h2⟩:=G.set l
 have s1:=s.mono (G.low S.lo.1)
 have ht:t<N:=Nat.lt_of_le_of_lt h1 h2
 refine⟨s1,ht,fun k=>?_⟩
 induction k with
 |zero=>exact fun _=>ot.start s1.tn fun q=>s1.lo.2.2 t q (Nat.le_refl _) ht
 |succ k ih=>
  intro hk
  refine(ih (Nat.le_of_lt hk)).step hk ht hp s1.tp (fun q hq=>s1.zs t q (Nat.le_refl _) ht hq) (fun q=>⟨s1.lo.1 t q (Nat.le_refl _) ht,s1.lo.2.1 t q (Nat.le_refl _) ht⟩) fun i q hi=>?_
  obtain⟨a1,a2,a3⟩:=s1.Ft hi q
  rw[a1,a2,a3]
  exact S.hi i q hi
theorem kT.Cq{A:Rows}{N w e0:Nat}(hA:dc N w A)(hlo:ja A N 0 (2^e0))(hN:N≤8){p t:Nat}{b:B3}(h:kT A N p t b):p≤w→∃ld,i9 A N w b t p ld (Ez N e0 t) (Vz N e0 t):=by
 induction h with
 |start=>exact fun _=>⟨_,i9.start hA hlo⟩
 |next _ c ih=>
  intro hp
  obtain⟨ld,S⟩:=ih (Nat.le_of_lt hp)
  cases c with
  |none l=>exact⟨ld,S.skip l⟩
  |one g l=>
   obtain⟨s1,ht,I⟩:=S.one hp g l
   exact⟨_,oz.next (e':=Ez N e0 (_+1)) (u':=Vz N e0 (_+1)) S s1 ht (I _ (Nat.le_refl _)) hN (by show _≤Vz N e0 _+Vz N e0 _+Ez N e0 (_+1)+5;omega) (by show _≤Vz N e0 _+Vz N e0 _+Ez N e0 (_+1)+5;omega)⟩
noncomputable def Sm(b:B3)(N m:Nat):Prop:=∀i c,i<N→(g b.A i c).natAbs≤m∧(g b.U i c).natAbs≤m∧(g b.C i c).natAbs≤m
structure AH(N p t z:Nat)(b:B3):Prop where
 ga:∀c,fS N t p b c→Sm c N (2^z)
 lo:∀c r k,fS N t p b c→j0 c.A N t p [r]→k≤t→Sm (jF p t k (setB c p t r)) N (2^z)
theorem i9.v_{A0:Rows}{N w t p e u z:Nat}{b:B3}{ld:Nat→Nat}(S:i9 A0 N w b t p ld e u)(hp:p<w)(hN:N≤8)(hz:u+u+(N-t+1)*(e+1)+5≤z):AH N p t z b:=by
 have p1:2^u≤2^z:=Nat.pow_le_pow_right (by decide) (by omega)
 have p2:2^((N-t+1)*(e+1))≤2^z:=Nat.pow_le_pow_right (by decide) (by omega)
 have p3:2^(u+(N-t+1)*(e+1)+1)≤2^z:=Nat.pow_le_pow_right (by decide) (by omega)
 refine⟨fun c h i q hi=>?_,fun c r k h l hk i q hi=>?_⟩
 · obtain⟨gr,G⟩:=h.y8 hp S.y8
   by_cases ht:i<t
   · obtain⟨a1,a2,a3⟩:=G.up i ht
     have:=S.hi i q ht
     unfold g at this⊢
     rw[a1,a2,a3]
     exact⟨Nat.le_trans this.1 p1,Nat.le_trans this.2.1 p1,Nat.le_trans this.2.2 p1⟩
   · have ht':=Nat.le_of_not_lt ht
     have w1:=Nat.le_trans (G.low S.lo.1) p2
     exact⟨Nat.le_trans (G.lA i q ht' hi) w1,Nat.le_trans (G.lU i q ht' hi) w1,Nat.le_trans (G.lC i q ht' hi) w1⟩
 · obtain⟨s,ht,I'⟩:=S.one hp h l
   have I:=I' k hk
   have aA:(g (jF p t k (setB c p t r)).A i q).natAbs≤2^z∧(g (jF p t k (setB c p t r)).U i q).natAbs≤2^z:=by
    by_cases hik:i<k
    · exact⟨Nat.le_trans (I.sz i q hik).1 p3,Nat.le_trans (I.sz i q hik).2 p3⟩
    · obtain⟨b1,b2⟩:=I.rA i (Nat.le_of_not_lt hik)
      unfold g
      rw[b1,b2]
      by_cases hit:i<t
      · obtain⟨a1,a2,a3⟩:=s.Ft hit q
        have:=S.hi i q hit
        rw[←a1,←a2]at this
        exact⟨Nat.le_trans this.1 p1,Nat.le_trans this.2.1 p1⟩
      · have hit':=Nat.le_of_not_lt hit
        exact⟨Nat.le_trans (s.lo.1 i q hit' hi) p2,Nat.le_trans (s.lo.2.1 i q hit' hi) p2⟩
   refine⟨aA.1,aA.2,?_⟩
   by_cases hit:i=t
   · subst hit
     refine Nat.le_trans (I.sC q) ?_
     have f1:2^((N-i+1)*(e+1))≤2^(u+u+(N-i+1)*(e+1)):=Nat.pow_le_pow_right (by decide) (by omega)
     have f2:k*2^(u+u)≤8*2^(u+u+(N-i+1)*(e+1)):=Nat.mul_le_mul (by omega) (Nat.pow_le_pow_right (by decide) (by omega))
     have f3:2^(u+u+(N-i+1)*(e+1)+5)≤2^z:=Nat.pow_le_pow_right (by decide) hz
     rw[Nat.pow_add _ _ 5]at f3
     omega
   · have:=I.rC i hit
     unfold g
     rw[this]
     by_cases hlt:i<t
     · have a:=(s.Ft hlt q).2.2
       have:=(S.hi i q hlt).2.2
       rw[←a]at this
       exact Nat.le_trans this p1
     · exact Nat.le_trans (s.lo.2.2 i q (Nat.le_of_not_lt hlt) hi) p2
theorem K3{x y:Int}(hy:y≠0):(qn x y).natAbs≤x.natAbs+y.natAbs:=by
 have h:=uS (x:=x) hy
 have h2:(qn x y*y).natAbs=(qn x y).natAbs*y.natAbs:=Int.natAbs_mul _ _
 have h3:(qn x y).natAbs≤(qn x y).natAbs*y.natAbs:=Nat.le_mul_of_pos_right _ (Int.natAbs_pos.mpr hy)
 generalize qn x y*y=t at h h2
 omega
end Mx
namespace Mx
theorem kT.v_{A:Rows}{N w e0 z:Nat}(hA:dc N w A)(hlo:ja A N 0 (2^e0))(hN:N≤8)(hz:∀t,t≤N→Vz N e0 t≤z){p t:Nat}{b:B3}(hp:p<w)(h:kT A N p t b):AH N p t z b:=by
 obtain⟨ld,S⟩:=h.Cq hA hlo hN (Nat.le_of_lt hp)
 by_cases ht:t<N
 · exact S.v_ hp hN (hz (t+1) ht)
 · have hle:=S.le
   have e:N=t:=by omega
   have nolive:∀ {X:Rows} {L:List Nat} {k:Nat},j0 X N t p L→k∈L→False:=fun h hk=>by
    have:=(h.mem _).mp hk
    omega
   refine⟨fun c g=>?_,fun c r k g l hk=>(nolive l (List.mem_singleton.mpr rfl)).elim⟩
   cases g with
   |refl=>
    have p1:2^Vz N e0 t≤2^z:=Nat.pow_le_pow_right (by decide) (hz t hle)
    exact fun i q hi=>⟨Nat.le_trans (S.hi i q (by omega)).1 p1,Nat.le_trans (S.hi i q (by omega)).2.1 p1,Nat.le_trans (S.hi i q (by omega)).2.2 p1⟩
   |head s _=>
    obtain⟨L,k,j,hL,_⟩:=s
    exact(nolive (k:=k) hL (by simp)).elim
end Mx
namespace Mx
theorem FK{n:Nat}{f:Nat→Int}:∀ {N:Nat},n≤N→(∀i,n≤i→i<N→f i=0)→S N f=S n f
 |0,h,_=>by rw[Nat.le_zero.mp h]
 |N+1,h,z=>by
  by_cases e:n=N+1
  · rw[e]
  · have hn:n≤N:=by omega
    show S N f+f N=_
    rw[z N hn (Nat.lt_succ_self N),Int.add_zero]
    exact FK hn fun i h1 h2=>z i h1 (Nat.lt_succ_of_lt h2)
theorem i9.tI{A:Rows}{N w top e u:Nat}{c:B3}{ld:Nat→Nat}(s:i9 A N w c top w ld e u):cN c.A top w ld∧sM c.A top ld:=⟨⟨s.lead,s.mono⟩,s.red⟩
theorem i9.in{A:Rows}{N w top e u:Nat}{c:B3}{ld:Nat→Nat}(s:i9 A N w c top w ld e u)(k:Nat)(hk:k<top):bM A N w (g c.A k):=
 ⟨g c.U k,fun q hq=>s.tn.ua k q (Nat.lt_of_lt_of_le hk s.le) hq⟩
theorem i9.out{A:Rows}{N w top e u:Nat}{c:B3}{ld:Nat→Nat}(s:i9 A N w c top w ld e u)(k:Nat)(hk:k<N):bM c.A top w (g A k):=by
 refine⟨fun i=>g c.C i k,fun q hq=>?_⟩
 have e1:S N (fun i=>g c.C i k*g c.A i q)=g A k q:=by
  have:S N (fun i=>g c.C i k*g c.A i q)=S N fun i=>S N fun j=>g c.C i k*g c.U i j*g A j q:=cD fun i hi=>by
   rw[s.tn.ua i q hi hq,←qR]
   exact cD fun j _=>(Int.mul_assoc _ _ _).symm
  rw[this,BF]
  have e2:S N (fun j=>S N fun i=>g c.C i k*g c.U i j*g A j q)=S N fun j=>dl k j*g A j q:=cD fun j hj=>by
   rw[C_,s.tn.bu k j hk hj]
  rw[e2,uh hk fun j=>g A j q]
 rw[←e1]
 exact FK s.le fun i h1 h2=>by rw[s.zs i q h1 h2 hq,Int.mul_zero]
theorem HY{X:Rows}{n i q:Nat}(h:i<n):g (X.take n) i q=g X i q:=by
 unfold g
 rw[List.getD_eq_getElem?_getD (l:=X.take n),List.getD_eq_getElem?_getD (l:=X),List.getElem?_take_of_lt h]
theorem En{X:Rows}{N w n:Nat}(hX:dc N w X)(h:n≤N):dc n w (X.take n):=
 ⟨by rw[List.length_take,hX.len];omega,fun r hr=>hX.sr r (List.mem_of_mem_take hr)⟩
theorem i9.Ck{A F:Rows}{N w n top e u:Nat}{c:B3}{ld ld':Nat→Nat}(s:i9 A N w c top w ld e u)(hF:dc n w F)(sF:cN F n w ld')(rF:sM F n ld')(h1:∀k,k<N→bM F n w (g A k))(h2:∀k,k<n→bM A N w (g F k)):c.A.take top=F:=by
 have l1:∀k,k<top→bM F n w (g c.A k):=fun k hk=>bM.trans h1 (s.in k hk)
 have l2:∀k,k<n→bM c.A top w (g F k):=fun k hk=>bM.trans s.out (h2 k hk)
 have e:=s.tI.1.many sF l1 l2
 subst e
 refine(En s.tn.isA s.le).ext hF fun i q hi hq=>?_
 rw[HY hi]
 exact s.tI.1.only sF l1 l2 s.tI.2 rF hi q hq
end Mx
namespace Mx
theorem bM.sV{X:Rows}{n w:Nat}{u v:Nat→Int}(x:Int)(hu:bM X n w u)(hv:bM X n w v):bM X n w fun c=>u c+x*v c:=by
 obtain⟨y,hy⟩:=hu
 obtain⟨z,hz⟩:=hv
 refine⟨fun k=>y k+x*z k,fun c hc=>?_⟩
 show u c+x*v c=S n fun k=>(y k+x*z k)*g X k c
 rw[hy c hc,hz c hc,←qR,←pd]
 exact cD fun k _=>by rw[Int.add_mul,Int.mul_assoc]
theorem bM.eq{X:Rows}{n w:Nat}{u v:Nat→Int}(hu:bM X n w u)(h:∀c,c<w→v c=u c):bM X n w v:=by
 obtain⟨y,hy⟩:=hu
 exact⟨y,fun c hc=>(h c hc).trans (hy c hc)⟩
structure e8(X:Rows)(n:Nat)(Y:Rows)(m w:Nat):Prop where
 to:∀k,k<n→bM Y m w (g X k)
 of:∀k,k<m→bM X n w (g Y k)
theorem e8.refl(X:Rows)(n w:Nat):e8 X n X n w:=⟨fun _ h=>bM.row h,fun _ h=>bM.row h⟩
theorem e8.symm{X Y:Rows}{n m w:Nat}(h:e8 X n Y m w):e8 Y m X n w:=⟨h.of,h.to⟩
theorem e8.trans{X Y Z:Rows}{n m l w:Nat}(h:e8 X n Y m w)(h':e8 Y m Z l w):e8 X n Z l w:=
 ⟨fun k hk=>bM.trans h'.to (h.to k hk),fun k hk=>bM.trans h.of (h'.of k hk)⟩
theorem e8.add{X Y:Rows}{n w k o:Nat}{x:Int}(hk:k<n)(ho:o<n)(hko:k≠o)(e:∀q,q<w→g Y k q=g X k q+x*g X o q)(h:∀i q,i<n→i≠k→q<w→g Y i q=g X i q):e8 X n Y n w:=by
 refine⟨fun i hi=>?_,fun i hi=>?_⟩
 · by_cases hik:i=k
   · subst hik
     refine((bM.row hk).sV (-x) (bM.row ho)).eq fun q hq=>?_
     rw[e q hq,h o q ho (Ne.symm hko) hq,Int.neg_mul]
     omega
   · exact(bM.row hi).eq fun q hq=>(h i q hi hik hq).symm
 · by_cases hik:i=k
   · subst hik
     exact((bM.row hk).sV x (bM.row ho)).eq e
   · exact(bM.row hi).eq fun q hq=>h i q hi hik hq
theorem e8.perm{X Y:Rows}{n w:Nat}{f:Nat→Nat}(hf:∀i,i<n→f i<n)(hff:∀i,f (f i)=i)(e:∀i q,i<n→q<w→g Y i q=g X (f i) q):e8 X n Y n w:=
 ⟨fun i hi=>(bM.row (hf i hi)).eq fun q hq=>by rw[e (f i) q (hf i hi) hq,hff],fun i hi=>(bM.row (hf i hi)).eq fun q hq=>e i q hi hq⟩
theorem e8.neg{X Y:Rows}{n w k:Nat}(hk:k<n)(e:∀q,q<w→g Y k q= -g X k q)(h:∀i q,i<n→i≠k→q<w→g Y i q=g X i q):e8 X n Y n w:=by
 have ng:∀ {Z:Rows} {u:Nat→Int},bM Z n w u→bM Z n w fun q=> -u q:=fun{Z u} hu=>(hu.sV (-2) hu).eq fun q _=>by omega
 refine⟨fun i hi=>?_,fun i hi=>?_⟩
 · by_cases hik:i=k
   · subst hik
     exact(ng (bM.row hk)).eq fun q hq=>by rw[e q hq,Int.neg_neg]
   · exact(bM.row hi).eq fun q hq=>(h i q hi hik hq).symm
 · by_cases hik:i=k
   · subst hik
     exact(ng (bM.row hk)).eq e
   · exact(bM.row hi).eq fun q hq=>h i q hi hik hq
theorem bM.zero{X:Rows}{n w:Nat}{v:Nat→Int}(h:∀c,c<w→v c=0):bM X n w v:=
 ⟨fun _=>0,fun c hc=>by rw[h c hc,uw fun k _=>Int.zero_mul _]⟩
end Mx
namespace Mx
structure jL(A:Rows)(N w M:Nat)(X:Rows)(m:Nat):Prop where
 is:dc m w X
 lo:1≤m
 hi:m≤8
 bd:∀r∈X,∀x∈r,x.natAbs≤M
 same:e8 A N X m w
theorem jL.more{A X:Rows}{N w M M' m:Nat}(h:jL A N w M X m)(l:M≤M'):jL A N w M' X m:=⟨h.is,h.lo,h.hi,fun r hr x hx=>Nat.le_trans (h.bd r hr x hx) l,h.same⟩
theorem jL.mem{A X:Rows}{N w M m k:Nat}(h:jL A N w M X m)(hk:k<m):X.getD k []∈X:=by
 rw[bB (by rw[h.is.len];exact hk)];exact List.getElem_mem _
theorem Es{M:Nat}{r s:Row}{c:Int}(hr:∀x∈r,x.natAbs≤M)(hs:∀x∈s,x.natAbs≤M)(hc:c.natAbs≤7):∀x∈bX r c s,x.natAbs≤M*8:=fun x hx=>by
 unfold bX at hx
 obtain⟨k,hk,e⟩:=List.mem_iff_getElem.mp hx
 rw[List.getElem_zipWith]at e
 rw[List.length_zipWith]at hk
 have h1:=hr _ (List.getElem_mem (Nat.lt_of_lt_of_le hk (Nat.min_le_left _ _)))
 have h2:=hs _ (List.getElem_mem (Nat.lt_of_lt_of_le hk (Nat.min_le_right _ _)))
 rw[←e]
 refine Nat.le_trans (Int.natAbs_add_le _ _) ?_
 rw[Int.natAbs_mul]
 have:=Nat.mul_le_mul hc h2
 omega
theorem jL.put{A X:Rows}{N w M M' m k:Nat}{r:Row}(h:jL A N w M X m)(l:M≤M')(hr:r.length=w)(hb:∀x∈r,x.natAbs≤M')(s:e8 X m (X.set k r) m w):jL A N w M' (X.set k r) m:=
 ⟨yd h.is hr,h.lo,h.hi,fun q hq x hx=>(List.mem_or_eq_of_mem_set hq).elim (fun z=>Nat.le_trans (h.bd q z x hx) l) (fun z=>hb x (z▸hx)),h.same.trans s⟩
theorem jL.add{A X:Rows}{N w M m k o:Nat}{c:Int}(h:jL A N w M X m)(hk:k<m)(ho:o<m)(hko:k≠o)(hc:c.natAbs≤7):jL A N w (M*8) (X.set k (bX (X.getD k []) c (X.getD o []))) m:=by
 have lX:k<X.length:=by rw[h.is.len];exact hk
 have e:(X.getD k []).length=(X.getD o []).length:=(h.is.row hk).trans (h.is.row ho).symm
 refine h.put (Nat.le_mul_of_pos_right _ (by decide)) (by rw[gw e];exact h.is.row hk) (Es (h.bd _ (h.mem hk)) (h.bd _ (h.mem ho)) hc) (e8.add (x:=c) hk ho hko (fun q _=>?_) fun i q _ hi _=>?_)
 · rw[oJ lX,if_pos rfl,fC e];rfl
 · rw[oJ lX,if_neg hi]
theorem jL.neg{A X:Rows}{N w M m k:Nat}(h:jL A N w M X m)(hk:k<m):jL A N w M (X.set k ((X.getD k []).map fun x=> -x)) m:=by
 have lX:k<X.length:=by rw[h.is.len];exact hk
 refine h.put (Nat.le_refl _) (by rw[List.length_map];exact h.is.row hk) (fun x hx=>?_) (e8.neg hk (fun q _=>?_) fun i q _ hi _=>?_)
 · obtain⟨y,hy,rfl⟩:=List.mem_map.mp hx
   rw[Int.natAbs_neg]
   exact h.bd _ (h.mem hk) y hy
 · rw[oJ lX,if_pos rfl]
   unfold g
   generalize X.getD k []=r
   rw[List.getD_eq_getElem?_getD,List.getElem?_map,List.getD_eq_getElem?_getD]
   cases r[q]?<;>rfl
 · rw[oJ lX,if_neg hi]
theorem jL.swap{A X:Rows}{N w M m k o:Nat}(h:jL A N w M X m)(hk:k<m)(ho:o<m):jL A N w M ((X.set k (X.getD o [])).set o (X.getD k [])) m:=by
 have lX:k<X.length:=by rw[h.is.len];exact hk
 have lo:o<(X.set k (X.getD o [])).length:=by rw[List.length_set,h.is.len];exact ho
 refine⟨yd (yd h.is (h.is.row ho)) (h.is.row hk),h.lo,h.hi,fun q hq x hx=>?_,h.same.trans (e8.perm (f:=fun i=>if i=o then k else if i=k then o else i) (fun i hi=>?_) (fun i=>?_) fun i q _ _=>?_)⟩
 · rcases List.mem_or_eq_of_mem_set hq with z|z
   · rcases List.mem_or_eq_of_mem_set z with z|z
     · exact h.bd q z x hx
     · exact h.bd _ (h.mem ho) x (z▸hx)
   · exact h.bd _ (h.mem hk) x (z▸hx)
 · show(if i=o then k else if i=k then o else i)<m
   split
   · exact hk
   · split
     · exact ho
     · exact hi
 · show(if(if i=o then k else if i=k then o else i)=o then k else if(if i=o then k else if i=k then o else i)=k then o else(if i=o then k else if i=k then o else i))=i
   by_cases h1:i=o
   · rw[if_pos h1,if_pos rfl]
     split
     · rename_i z;rw[z,h1]
     · exact h1.symm
   · rw[if_neg h1]
     by_cases h2:i=k
     · rw[if_pos h2,if_pos rfl];exact h2.symm
     · rw[if_neg h2,if_neg h1,if_neg h2]
 · show _=g X (if i=o then k else if i=k then o else i) q
   rw[oJ lo,oJ lX]
   split
   · rfl
   · split<;>rfl
theorem oW{X:Rows}{r:Row}{k:Nat}(hk:k≤X.length)(i:Nat):(X.take k++r::X.drop k).getD i []=if i<k then X.getD i []else if i=k then r else X.getD (i-1) []:=by
 have lt:(X.take k).length=k:=by rw[List.length_take];omega
 rw[List.getD_eq_getElem?_getD,List.getD_eq_getElem?_getD,List.getD_eq_getElem?_getD]
 by_cases h:i<k
 · rw[if_pos h,List.getElem?_append_left (by rw[lt];exact h),List.getElem?_take_of_lt h]
 · rw[if_neg h,List.getElem?_append_right (by rw[lt];omega),lt]
   by_cases h2:i=k
   · rw[if_pos h2,h2,Nat.sub_self];rfl
   · rw[if_neg h2]
     have:i-k=(i-1-k)+1:=by omega
     rw[this,List.getElem?_cons_succ,List.getElem?_drop]
     congr 2;omega
end Mx
namespace Mx
theorem DG:∀N,N<9→∀t,t<N+1→Vz N 42 t≤60000000:=by decide+kernel
theorem KJ{A:Rows}{N w M:Nat}(hA:dc N w A)(hb:∀r∈A,∀x∈r,x.natAbs≤M):ja A N 0 M:=fun i q _ hi=>by
 by_cases hq:q<w
 · have li:i<A.length:=by rw[hA.len];exact hi
   have lq:q<(A[i]).length:=by rw[hA.sr _ (List.getElem_mem li)];exact hq
   unfold g
   rw[bB li,bB lq]
   exact hb _ (List.getElem_mem li) _ (List.getElem_mem lq)
 · have:g A i q=0:=by
    unfold g
    rw[nc (by rw[cW hA hi];exact Nat.le_of_not_lt hq)]
   rw[this];exact Nat.zero_le _
end Mx
namespace Mx
structure pW(F:Rows)(w:Nat)(ld:Nat→Nat)(row:Nat→Int)(i:Nat)(o:Int)(L:Nat→Int):Prop where
 pos:0<o
 sum:bM F i w fun c=>o*row c-L c
 off:∀k,k<i→L (ld k)=0
 least:∀(m:Int) (v:Nat→Int),bM F i w v→(∀k,k<i→m*row (ld k)=v (ld k))→o∣m
theorem cN.Mh{F:Rows}{n w:Nat}{ld:Nat→Nat}{v:Nat→Int}(s:cN F n w ld)(hv:bM F n w v)(h:∀k,k<n→0≤v (ld k)∧v (ld k)<g F k (ld k))(c:Nat):c<w→v c=0:=by
 induction c using Nat.strongRecOn with
 |ind c ih=>
  intro hc
  rcases s.at hv hc fun d hd=>ih d hd (Nat.lt_trans hd hc)with⟨k,hk,rfl,d⟩|q
  · have:=h k hk
    exact Int.eq_zero_of_dvd_of_natAbs_lt_natAbs d (by omega)
  · exact q
structure ji(F:Rows)(n w:Nat)(ld:Nat→Nat)(row:Nat→Int)(i:Nat)(L:Nat→Int):Prop where
 sum:bM F n w fun c=>row c-L c
 red:∀k,k<i→0≤L (ld k)∧L (ld k)<g F k (ld k)
theorem ji.start{F:Rows}{n w:Nat}{ld:Nat→Nat}{row:Nat→Int}:ji F n w ld row 0 row:=⟨bM.zero fun c _=>Int.sub_self _,fun _ h=>absurd h (Nat.not_lt_zero _)⟩
theorem ji.step{F:Rows}{n w i:Nat}{ld:Nat→Nat}{row L:Nat→Int}(s:cN F n w ld)(hi:i<n)(f:ji F n w ld row i L):ji F n w ld row (i+1) fun c=>L c-(L (ld i)).fdiv (g F i (ld i))*g F i c:=by
 obtain⟨l1,l2,l3⟩:=s.lead i hi
 refine⟨(f.sum.sV ((L (ld i)).fdiv (g F i (ld i))) (bM.row hi)).eq fun c _=>by omega,fun k hk=>?_⟩
 show 0≤L (ld k)-_*g F i (ld k)∧L (ld k)-_*g F i (ld k)<_
 rcases Nat.lt_or_ge k i with h|h
 · rw[l3 _ (s.mono k i h hi),Int.mul_zero,Int.sub_zero]
   exact f.red k h
 · have:k=i:=Nat.le_antisymm (Nat.le_of_lt_succ hk) h
   subst this
   have e:=Int.fmod_add_mul_fdiv (L (ld k)) (g F k (ld k))
   have a:=Int.fmod_nonneg_of_pos (L (ld k)) l2
   have b:=Int.fmod_lt_of_pos (L (ld k)) l2
   rw[Int.mul_comm]at e
   omega
theorem ji.zero{F:Rows}{n w:Nat}{ld:Nat→Nat}{row L:Nat→Int}(s:cN F n w ld)(f:ji F n w ld row n L):(∀c,c<w→L c=0)↔bM F n w row:=by
 constructor
 · exact fun h=>f.sum.eq fun c hc=>by rw[h c hc,Int.sub_zero]
 · exact fun h=>s.Mh ((h.sub f.sum).eq fun c _=>by omega) f.red
end Mx
namespace Mx
noncomputable def PN:List Int→Int
 | []=>1
 |x::xs=>x*PN xs
theorem tM:∀ {ls:List Int},(∀x∈ls,1≤x)→1≤PN ls
 | [],_=>Int.le_refl _
 |x::xs,h=>by
  have h1:=h x List.mem_cons_self
  have h2:=tM fun y hy=>h y (List.mem_cons_of_mem _ hy)
  have:=Int.mul_le_mul h1 h2 (by decide) (Int.le_trans (by decide) h1)
  exact this
theorem wY:∀ {ls:List Int} {x:Int},(∀x∈ls,1≤x)→x∈ls→x≤PN ls
 |y::ys,x,h,hx=>by
  have h1:=h y List.mem_cons_self
  have h':∀z∈ys,1≤z:=fun z hz=>h z (List.mem_cons_of_mem _ hz)
  have h2:=tM h'
  rcases List.mem_cons.mp hx with rfl|hx
  · have:=Int.mul_le_mul_of_nonneg_left h2 (Int.le_trans (by decide) h1)
    rw[Int.mul_one]at this
    exact this
  · have h3:=wY h' hx
    have:=Int.mul_le_mul_of_nonneg_right h1 (Int.le_trans (by decide) h2)
    rw[Int.one_mul]at this
    exact Int.le_trans h3 this
theorem CL:∀ {ls:List Int} {k:Nat} {f:Int},k<ls.length→PN (ls.set k (ls.getD k 0*f))=PN ls*f
 | [],_,_,h=>absurd h (Nat.not_lt_zero _)
 |x::xs,0,f,_=>by
  show x*f*PN xs=x*PN xs*f
  rw[Int.mul_assoc,Int.mul_assoc,Int.mul_comm f]
 |x::xs,k+1,f,h=>by
  show x*PN (xs.set k (xs.getD k 0*f))=x*PN xs*f
  rw[CL (Nat.lt_of_succ_lt_succ h),Int.mul_assoc]
theorem JQ{ls ms:List Int}(s:ls.Sublist ms)(h:∀x∈ms,1≤x):PN ls≤PN ms:=by
 induction s with
 |slnil=>exact Int.le_refl _
 | @cons l1 l2 a _ ih=>
   have h1:=h a List.mem_cons_self
   have h':∀z∈l2,1≤z:=fun z hz=>h z (List.mem_cons_of_mem _ hz)
   have:=Int.mul_le_mul_of_nonneg_right h1 (Int.le_trans (by decide) (tM h'))
   rw[Int.one_mul]at this
   exact Int.le_trans (ih h') this
 | @cons_cons l1 l2 a _ ih=>
   have h1:=h a List.mem_cons_self
   exact Int.mul_le_mul_of_nonneg_left (ih fun z hz=>h z (List.mem_cons_of_mem _ hz)) (Int.le_trans (by decide) h1)
theorem CU:∀(ls ms:List Int),PN (ls++ms)=PN ls*PN ms
 | [],_=>(Int.one_mul _).symm
 |x::xs,ms=>by
  show x*PN (xs++ms)=x*PN xs*PN ms
  rw[CU xs ms,Int.mul_assoc]
theorem CY:∀w:Nat,PN (List.replicate w 1)=1
 |0=>rfl
 |w+1=>by
  rw[List.replicate_succ]
  show 1*PN (List.replicate w 1)=1
  rw[CY w];rfl
structure UR(ls:List Int)(w k:Nat)(r:Row):Prop where
 len:r.length=w
 lo:∀c,c<k→r.getD c 0=0
 at':r.getD k 0=ls.getD k 0
 up:∀c,k<c→c<w→0≤r.getD c 0∧r.getD c 0<ls.getD c 0
noncomputable def pR(zs:List (Nat×Row))(i:Nat):Nat:=(zs.getD i (0,[])).1
theorem Ie{zs:List (Nat×Row)}{i:Nat}(hi:i<zs.length):(zs.map (·.2)).getD i []=(zs.getD i (0,[])).2:=by
 rw[bB (by rw[List.length_map];exact hi),bB hi,List.getElem_map]
structure Zs(ls:List Int)(w:Nat)(zs:List (Nat×Row)):Prop where
 ur:∀z∈zs,z.1<w∧UR ls w z.1 z.2
 inc:zs.Pairwise fun a b=>a.1<b.1
 pos:∀x∈ls,1≤x
 len:ls.length=w
theorem Zs.mem{ls:List Int}{w i:Nat}{zs:List (Nat×Row)}(h:Zs ls w zs)(hi:i<zs.length):pR zs i<w∧UR ls w (pR zs i) ((zs.map (·.2)).getD i []):=by
 rw[Ie hi]
 unfold pR
 rw[bB hi]
 exact h.ur _ (List.getElem_mem hi)
theorem Zs.mono{ls:List Int}{w:Nat}{zs:List (Nat×Row)}(h:Zs ls w zs)(i j:Nat)(hij:i<j)(hj:j<zs.length):pR zs i<pR zs j:=by
 unfold pR
 rw[bB hj,bB (Nat.lt_trans hij hj)]
 exact List.pairwise_iff_getElem.mp h.inc i j (Nat.lt_trans hij hj) hj hij
theorem Zs.JZ{ls:List Int}{w c:Nat}{zs:List (Nat×Row)}(h:Zs ls w zs)(hc:c<w):1≤ls.getD c 0:=by
 rw[bB (by rw[h.len];exact hc)]
 exact h.pos _ (List.getElem_mem _)
theorem Zs.is{ls:List Int}{w:Nat}{zs:List (Nat×Row)}(h:Zs ls w zs):dc zs.length w (zs.map (·.2)):=⟨List.length_map _,fun r hr=>by
 obtain⟨z,hz,rfl⟩:=List.mem_map.mp hr
 exact(h.ur z hz).2.len⟩
theorem Zs.tI{ls:List Int}{w:Nat}{zs:List (Nat×Row)}(h:Zs ls w zs):cN (zs.map (·.2)) zs.length w (pR zs):=
 ⟨fun i hi=>by
  obtain⟨h1,h2⟩:=h.mem hi
  refine⟨h1,?_,h2.lo⟩
  unfold g
  rw[h2.at']
  exact Int.lt_of_lt_of_le (by decide) (h.JZ h1),h.mono⟩
theorem Zs.red{ls:List Int}{w:Nat}{zs:List (Nat×Row)}(h:Zs ls w zs):sM (zs.map (·.2)) zs.length (pR zs):=fun i j hij hj=>by
 obtain⟨h1,h2⟩:=h.mem hj
 obtain⟨h3,h4⟩:=h.mem (Nat.lt_trans hij hj)
 unfold g
 rw[h2.at']
 exact h4.up _ (h.mono i j hij hj) h1
theorem Zs.small{ls:List Int}{w:Nat}{M:Int}{zs:List (Nat×Row)}(h:Zs ls w zs)(hM:∀x∈ls,x≤M)(hM0:0≤M)(r:Row)(hr:r∈zs.map (·.2))(x:Int)(hx:x∈r):0≤x∧x≤M:=by
 obtain⟨z,hz,rfl⟩:=List.mem_map.mp hr
 obtain⟨h1,u⟩:=h.ur z hz
 obtain⟨c,hc,rfl⟩:=List.mem_iff_getElem.mp hx
 have e:(z.2).getD c 0=z.2[c]:=bB hc
 rw[←e]
 have hcw:c<w:=by rw[←u.len];exact hc
 have big:∀k,k<w→ls.getD k 0≤M:=fun k hk=>by
  rw[bB (by rw[h.len];exact hk)]
  exact hM _ (List.getElem_mem _)
 rcases Nat.lt_trichotomy c z.1 with q|q|q
 · rw[u.lo c q];exact⟨Int.le_refl _,hM0⟩
 · rw[q,u.at']
   exact⟨Int.le_trans (by decide) (h.JZ h1),big _ h1⟩
 · have:=u.up c q hcw
   exact⟨this.1,Int.le_trans (Int.le_of_lt this.2) (big c hcw)⟩
theorem Zs.erase{ls:List Int}{w k:Nat}{zs:List (Nat×Row)}(h:Zs ls w zs):Zs ls w (zs.eraseIdx k):=
 ⟨fun z hz=>h.ur z (List.mem_of_mem_eraseIdx hz),h.inc.sublist (List.eraseIdx_sublist _ _),h.pos,h.len⟩
theorem qo{α β:Type}(f:α→β):∀(l:List α) (k:Nat),(l.map f).eraseIdx k=(l.eraseIdx k).map f
 | [],_=>rfl
 |_::_,0=>rfl
 |x::l,k+1=>by
  show f x::(l.map f).eraseIdx k=f x::(l.eraseIdx k).map f
  rw[qo f l k]
end Mx
namespace Mx
theorem cN.Mm{F:Rows}{n w:Nat}{ld:Nat→Nat}{v:Nat→Int}(s:cN F n w ld)(hv:bM F n w v)(h:∀k,k<n→(v (ld k)).natAbs<(g F k (ld k)).natAbs)(c:Nat):c<w→v c=0:=by
 induction c using Nat.strongRecOn with
 |ind c ih=>
  intro hc
  rcases s.at hv hc fun d hd=>ih d hd (Nat.lt_trans hd hc)with⟨k,hk,rfl,d⟩|q
  · exact Int.eq_zero_of_dvd_of_natAbs_lt_natAbs d (h k hk)
  · exact q
theorem ji.one{F:Rows}{n w:Nat}{ld:Nat→Nat}{row row' L L':Nat→Int}(s:cN F n w ld)(f:ji F n w ld row n L)(f':ji F n w ld row' n L')(h:bM F n w fun c=>row c-row' c)(c:Nat)(hc:c<w):L c=L' c:=by
 have hv:bM F n w fun c=>L c-L' c:=((h.sub f.sum).sV 1 f'.sum).eq fun c _=>by omega
 have:=s.Mm hv (fun k hk=>by
  have a:=f.red k hk
  have b:=f'.red k hk
  show(L (ld k)-L' (ld k)).natAbs<_
  omega) c hc
 have:L c-L' c=0:=this
 omega
theorem ji.two{F:Rows}{n w:Nat}{ld:Nat→Nat}{row row' L L':Nat→Int}(f:ji F n w ld row n L)(f':ji F n w ld row' n L')(h:∀c,c<w→L c=L' c):bM F n w fun c=>row c-row' c:=
 (f.sum.sub f'.sum).eq fun c hc=>by
   have:=h c hc
   omega
end Mx
namespace Prog
open PySem L2 L3
open PySem.Spec hiding items?
open PyProof.Rows hiding St
theorem gv{i j:Int}(h1: -(2^64)<i)(h2:i<2^64):IntMulOk i j:= .of_left (intBits_le_64 h1 h2)
theorem gj{i j:Int}(h1: -(2^64)<j)(h2:j<2^64):IntMulOk i j:= .of_right (intBits_le_64 h1 h2)
noncomputable def isInt:D→Bool
 | .int _=>true
 |_=>false
noncomputable abbrev aB(r:List Int):List D:=r.map D.int
noncomputable abbrev a_(r:List Int):D:= .tup (aB r)
noncomputable abbrev ba(r:List Int):D:= .lst (aB r)
noncomputable abbrev dD(A:List (List Int)):D:= .tup (A.map a_)
noncomputable abbrev Lf(A:List (List Int)):D:= .lst (A.map ba)
noncomputable def cg(st:ai):List D→List (List Int)→Prop
 | [],[]=>True
 |d::ds,r::rs=>items? st d=some (aB r)∧cg st ds rs
 |_,_=>False
structure hV(st:ai)(d:D)(A:List (List Int)):Prop where
 ex:∃ds,items? st d=some ds∧cg st ds A
theorem cg.len{st:ai}:∀ {ds:List D} {A:List (List Int)},cg st ds A→ds.length=A.length
 | [],[],_=>rfl
 |_::_,_::_,h=>by simp[cg.len h.2]
theorem cg.tup{st:ai}:∀ {A:List (List Int)},cg st (A.map a_) A
 | []=>trivial
 |_::_=>⟨rfl,cg.tup⟩
theorem cg.lst{st:ai}:∀ {A:List (List Int)},cg st (A.map ba) A
 | []=>trivial
 |_::_=>⟨rfl,cg.lst⟩
theorem cg.get{st:ai}:∀ {ds:List D} {A:List (List Int)} {i:Nat} {d:D},cg st ds A→ds[i]?=some d→∃r,A[i]?=some r∧items? st d=some (aB r)
 |_::_,r::_,0,_,h,e=>by simp at e;subst e;exact⟨r,rfl,h.1⟩
 |_::_,_::_,i+1,d,h,e=>by
  obtain⟨r,e1,e2⟩:=cg.get (i:=i) (d:=d) h.2 (by simpa using e)
  exact⟨r,by simpa using e1,e2⟩
theorem iw{st:ai}{A:List (List Int)}:hV st (dD A) A:=⟨_,rfl,cg.tup⟩
structure Ext(st st':ai):Prop where
 len:st.length≤st'.length
 same:∀m,m<st.length→st'[m]?=st[m]?
theorem Ext.push{st:ai}{c:List Cell}:Ext st (st++c):=⟨by simp,fun m h=>List.getElem?_append_left h⟩
theorem Ext.set{st:ai}{n:Nat}{c:Cell}{st0:ai}(a:Ext st0 st)(h:st0.length≤n):Ext st0 (st.set n c):=⟨by rw[List.length_set];exact a.len,fun m hm=>by rw[List.getElem?_set_ne (by omega)];exact a.same m hm⟩
theorem Ext.items{st st':ai}{d:D}{xs:List D}(x:Ext st st')(e:items? st d=some xs):items? st' d=some xs:=by
 cases d with
 |ref n=>
  unfold items? at e⊢
  simp only at e⊢
  cases q:st[n]? with
  |none=>rw[q]at e;cases e
  |some c=>
   have hn:=(List.getElem?_eq_some_iff.mp q).1
   rw[x.same n hn]
   exact e
 |_=>exact e
theorem gn{r:List Int}{k:Nat}(h:k<r.length):eh (aB r) (k:Int)=some (.int (r.getD k 0)):=by
 refine iX ?_
 rw[List.getElem?_map,List.getElem?_eq_getElem h,Mx.bB h];rfl
theorem getD_mem{r:List Int}{k:Nat}(h:k<r.length):r.getD k 0∈r:=by rw[Mx.bB h];exact List.getElem_mem _
theorem cg.at{st:ai}{ds:List D}{A:List (List Int)}{k:Nat}(h:cg st ds A)(hk:k<A.length):∃d,eh ds (k:Int)=some d∧items? st d=some (aB (A.getD k [])):=by
 have hl:=h.len
 have e:ds[k]?=some ds[k]:=List.getElem?_eq_getElem (by omega)
 obtain⟨r,er,hr⟩:=h.get e
 refine⟨ds[k],iX e,?_⟩
 rw[Mx.bB hk]
 rw[List.getElem?_eq_getElem hk]at er
 cases er
 exact hr
theorem ints_app{r:List Int}{x:Int}:aB r++[D.int x]=aB (r++[x]):=by simp[aB]
theorem xv{A:List (List Int)}{r:List Int}:A.map a_++[a_ r]=(A++[r]).map a_:=by simp
theorem kZ{r s:List Int}{d:D}(h:d∈f_ (aB r) (aB s)):∃a b,a∈r∧b∈s∧d= .tup [.int a,.int b]:=by
 obtain⟨n,hn,e⟩:=List.mem_iff_getElem.mp h
 have e':(f_ (aB r) (aB s))[n]?=some d:=by rw[List.getElem?_eq_getElem hn,e]
 obtain⟨x,y,ex,ey,rfl⟩:=sA e'
 rw[List.getElem?_map]at ex ey
 cases q1:r[n]? with
 |none=>rw[q1]at ex;cases ex
 |some a=>
  cases q2:s[n]? with
  |none=>rw[q2]at ey;cases ey
  |some b=>
   rw[q1]at ex
   rw[q2]at ey
   cases ex
   cases ey
   exact⟨a,b,List.mem_of_getElem? q1,List.mem_of_getElem? q2,rfl⟩
theorem kY(n:Nat):(List.replicate n [D.int 0]).flatten=aB (List.replicate n 0):=by
 induction n with
 |zero=>rfl
 |succ n ih=>rw[List.replicate_succ,List.flatten_cons,ih];rfl
theorem wI{d:D}{ds:List D}:eh (d::ds) 0=some d:=iX (j:=0) rfl
theorem C7{x y:D}{xs ys:List D}:f_ (x::xs) (y::ys)= .tup [x,y]::f_ xs ys:=rfl
theorem qX{n:Nat}{r:List Int}:(aB r).all (pl n)=true:=by
 refine List.all_eq_true.mpr fun d hd=>?_
 obtain⟨i,_,rfl⟩:=List.mem_map.mp hd
 cases n<;>rfl
theorem Dq{n:Nat}{A:List (List Int)}:pl (n+2) (Lf A)=true:=by
 unfold pl
 refine List.all_eq_true.mpr fun d hd=>?_
 obtain⟨r,_,rfl⟩:=List.mem_map.mp hd
 unfold pl
 exact qX
def av:Addr:=132
noncomputable abbrev gE(b:Bool):Cell:=Cell.tab 112 ⟨58,32,58,66⟩ "Bench.live_rows.<locals>.<lambda>" b
noncomputable abbrev Iq:List (Addr×Pos×Str):=[(112,⟨58,32,58,66⟩,"Bench.live_rows.<locals>.<lambda>")]
noncomputable def kn:cJ:=fun ds st K=>∃(d:D) (A:List (List Int)),ds=[d]∧hV st d A∧A.length≤1000∧K (dD A) st
noncomputable def nU:List Str:=["rows"]
noncomputable def BN:DS:=(bT (cm dR (ae (dP (fu (ab 0)) [none] (bW 0) cT (cm dR (ae (ab 0) ak))) ak)))
theorem gW{tg:fz}{te:DE}{ok:ai→Prop}{σc:bN}{st:ai}{K:List D→ai→Prop}{ds:List D}{A:List (List Int)}(f:List Int→D)(aM:ok st)(hr:cg st ds A)(hx:∀d r,r∈A→items? st d=some (aB r)→∀K',K' (f r) st→∃σ2,tg d σc=some σ2∧te σ2 st K')(k:K (A.map f) st):dW tg cT te ok σc ds [] st K:=by
 refine iL (fun rest acc st'=>∃(A1 A2:List (List Int)),st=st'∧A1++A2=A∧cg st rest A2∧acc=A1.map f) ?_ ?_ _ _ _ ⟨[],A,rfl,rfl,hr,rfl⟩
 · rintro acc st' ⟨A1,A2,rfl,he,h,rfl⟩
   match A2,h with
   | [],_=>
     rw[List.append_nil]at he
     subst he
     exact⟨aM,k⟩
 · rintro d rest acc st' ⟨A1,A2,rfl,he,h,rfl⟩ next
   match A2,h with
   |r::A2,h=>
    obtain⟨σ2,e2,q⟩:=hx d r (by rw[←he];simp) h.1 (fun y st2=>dW tg cT te ok σc rest (A1.map f++[y]) st2 K) (next _ _ ⟨A1++[r],A2,rfl,by rw[←he];simp,h.2,by simp⟩)
    exact⟨aM,σ2,e2,q⟩
theorem zW:∀ds st K,kn ds st K→ds.length=1∧BN {nx:=fun _ st'=>K .aH st',rt:=K} (bf nU ds) st:=by
 rintro ds st K ⟨d,A,rfl,⟨da,hd,ra⟩,hl,k⟩
 refine⟨rfl,?_⟩
 refine mF hd fun ok aM=>⟨cz (by rw[ra.len];exact hl),?_⟩
 refine gW a_ aM ra (fun e r hr he K' q=>⟨_,rfl,dv he q⟩) ?_
 exact dv rfl k
noncomputable def gu:cJ:=fun ds st K=>∃x y t r s,ds=[x,.int t,y]∧items? st x=some (aB r)∧items? st y=some (aB s)∧r.length≤1000∧(∀b∈s,IntMulOk t b)∧K (ba (Mx.bX r t s)) st
noncomputable def rj:List Str:=["row","times","other"]
noncomputable def HQ:DS:=(bT (dP (oC (ae (ab 0) (ae (ab 2) ak))) [none,none,some 1] (iM 0 1) cT (ay iF (ab 0) (ay cL (ab 2) (ab 1)))))
theorem nO{t:Int}:∀(r s:List Int),(f_ (aB r) (aB s)).map (fun d=>match d with| .tup [.int a,.int b]=> .int (a+t*b)|_=> .aH)=aB (Mx.bX r t s)
 | [],_=>rfl
 |_::_,[]=>rfl
 |a::r,b::s=>by
  have:=nO (t:=t) r s
  unfold f_ Mx.bX at this⊢
  simp only[aB,List.map_cons,List.zip_cons_cons,List.zipWith_cons_cons]at this⊢
  rw[this]
theorem Em:∀ds st K,gu ds st K→ds.length=3∧HQ {nx:=fun _ st'=>K .aH st',rt:=K} (bf rj ds) st:=by
 rintro ds st K ⟨x,y,t,r,s,rfl,hx,hy,hl,hm,k⟩
 refine⟨rfl,?_⟩
 refine mw hx hy fun ok aM=>⟨cz (by rw[jZ];simp;omega),?_⟩
 refine comp_map (g:=fun d=>match d with| .tup [.int a,.int b]=> .int (a+t*b)|_=> .aH) (aM st hx hy) _ (fun d hd K' q=>?_) ?_
 · obtain⟨a,b,ha,hb,rfl⟩:=kZ hd
   exact⟨_,rfl,cU (hm b hb) (gD q)⟩
 · rw[nO];exact k
noncomputable def nC:cJ:=fun ds st K=>∃(x y:D) (n:Nat) (ws:List Int) (A:List (List Int)),ds=[x,y,.int n]∧items? st x=some (aB ws)∧hV st y A∧(∀r∈A,r.length=n)∧n≤1000∧(∀w∈ws,∀r∈A,∀b∈r,IntMulOk w b)∧K (a_ (Mx.pC ws A (List.replicate n 0))) st
noncomputable def pq:List Str:=["weights","rows","wide","total","weight","row"]
noncomputable def Eu:DS:=(aK (bp 3 (ay cL (qC (ae (dC (.int 0)) ak)) (ab 2)))
 (aK (iG (oC (ae (ab 0) (ae (ab 1) ak))) (iM 4 5) (bp 3 (aG gu (ae (ab 3) (ae (ab 4) (ae (ab 5) ak))))))
 (bT (cm dR (ae (ab 3) ak)))))
theorem BS:∀ds st K,nC ds st K→ds.length=3∧Eu {nx:=fun _ st'=>K .aH st',rt:=K} (bf pq ds) st:=by
 rintro ds st K ⟨x,y,n,ws,A,rfl,hx,⟨dr,hy,hr⟩,hw,hn,hm,k⟩
 refine⟨rfl,?_⟩
 refine Jo (Nat.le_of_ble_eq_true rfl) (zD ⟨by omega,by omega,cz (by simp;omega)⟩ ?_)
 rw[Int.toNat_natCast,kY]
 refine mw hx hy fun ok aM=>?_
 refine gO (fun rest σ st'=>∃(v4 v5:Option D) (ws':List Int) (ds':List D) (A':List (List Int)) (acc:List Int),st=st'∧rest=f_ (aB ws') ds'∧cg st ds' A'∧σ=[some x,some y,some (.int n),some (ba acc),v4,v5]∧acc.length=n∧(∀r∈A',r∈A)∧(∀w∈ws',w∈ws)∧Mx.pC ws' A' acc=Mx.pC ws A (List.replicate n 0)) ?_ ?_ _ _ _
  ⟨none,none,ws,dr,A,List.replicate n 0,rfl,rfl,hr,rfl,by simp,fun _ h=>h,fun _ h=>h,rfl⟩
 · rintro σ st1 ⟨v4,v5,ws',ds',A',acc,rfl,he,hr',rfl,hl,_,_,hs⟩
   refine⟨aM _ hx hy,dv rfl ?_⟩
   have:Mx.pC ws' A' acc=acc:=by
    match ws',ds',A',hr',he with
    | [],_,_,_,_=>unfold Mx.pC;rfl
    |_::_,[],[],_,_=>unfold Mx.pC;rfl
    |_::_,_::_,_::_,_,he=>cases he
   rw[this]at hs
   rw[hs];exact k
 · rintro d rest σ st1 ⟨v4,v5,ws',ds',A',acc,rfl,he,hr',rfl,hl,ha,hw',hs⟩ next
   match ws',ds',A',hr',he with
   |w::ws',e::ds',r::A',hr',he=>
    simp only[aB,List.map_cons,C7,List.cons.injEq]at he
    obtain⟨rfl,rfl⟩:=he
    refine⟨aM _ hx hy,_,rfl,?_⟩
    have hrl:=hw r (ha r List.mem_cons_self)
    refine⟨_,_,_,acc,r,rfl,rfl,hr'.1,by omega,fun b hb=>hm w (hw' w List.mem_cons_self) r (ha r List.mem_cons_self) b hb,?_⟩
    refine next _ _ ⟨_,_,ws',ds',A',Mx.bX acc w r,rfl,rfl,hr'.2,rfl,by rw[Mx.gw (by omega)];exact hl,fun q hq=>ha q (List.mem_cons_of_mem _ hq),fun q hq=>hw' q (List.mem_cons_of_mem _ hq),?_⟩
    rw[←hs];rfl
   | [],_,_,_,he=>cases he
   |_::_,[],[],_,he=>cases he
noncomputable def nI:cJ:=fun ds st K=>∃(d:D) (A:List (List Int)) (j:Nat),ds=[d,.int j]∧hV st d A∧(∀r∈A,j<r.length)∧A.length≤1000∧K (a_ (Mx.uW A j)) st
noncomputable def pL:List Str:=["rows","place"]
noncomputable def DF:DS:=(bT (cm dR (ae (dP (fu (ab 0)) [none,some 1] (bW 0) cT (ay bG (ab 0) (ab 1))) ak)))
theorem B_{tg:fz}{te:DE}{ok:ai→Prop}{σc:bN}{st:ai}{K:List D→ai→Prop}{ds:List D}{A:List (List Int)}(f:List Int→D)(aM:ok st)(hr:cg st ds A)(hx:∀d r,r∈A→items? st d=some (aB r)→∀K',K' (f r) st→∃σ2,tg d σc=some σ2∧te σ2 st K')(k:K (A.map f) st):dW tg cT te ok σc ds [] st K:=by
 refine iL (fun rest acc st'=>∃(A1 A2:List (List Int)),st=st'∧A1++A2=A∧cg st rest A2∧acc=A1.map f) ?_ ?_ _ _ _ ⟨[],A,rfl,rfl,hr,rfl⟩
 · rintro acc st' ⟨A1,A2,rfl,he,h,rfl⟩
   match A2,h with
   | [],_=>
     rw[List.append_nil]at he
     subst he
     exact⟨aM,k⟩
 · rintro d rest acc st' ⟨A1,A2,rfl,he,h,rfl⟩ next
   match A2,h with
   |r::A2,h=>
    obtain⟨σ2,e2,q⟩:=hx d r (by rw[←he];simp) h.1 (fun y st2=>dW tg cT te ok σc rest (A1.map f++[y]) st2 K) (next _ _ ⟨A1++[r],A2,rfl,by rw[←he];simp,h.2,by simp⟩)
    exact⟨aM,σ2,e2,q⟩
theorem CZ(A:List (List Int))(j:Nat):A.map (fun r=>D.int (r.getD j 0))=aB (Mx.uW A j):=by unfold Mx.uW aB;rw[List.map_map];rfl
theorem BC:∀ds st K,nI ds st K→ds.length=2∧DF {nx:=fun _ st'=>K .aH st',rt:=K} (bf pL ds) st:=by
 rintro ds st K ⟨d,A,j,rfl,⟨da,hd,ra⟩,hj,hl,k⟩
 refine⟨rfl,?_⟩
 refine mF hd fun ok aM=>⟨cz (by rw[ra.len];exact hl),?_⟩
 refine B_ (fun r=> .int (r.getD j 0)) aM ra (fun e r hr he K' q=>⟨_,rfl,aJ he (gn (hj r hr)) q⟩) ?_
 rw[CZ]
 exact dv rfl k
noncomputable def iR:cJ:=fun ds st K=>∃(d:D) (A:List (List Int)) (n:Nat),ds=[d,.int n]∧hV st d A∧(∀r∈A,r.length=n)∧A.length≤1000∧n≤1000∧K (dD (Mx.FR A n)) st
noncomputable def jW:List Str:=["rows","wide"]
noncomputable def vM:DS:=(bT (cm dR (ae (dP (eV (ae (ab 1) ak)) [none,some 0] (bW 0) cT (aG nI (ae (ab 1) (ae (ab 0) ak)))) ak)))
theorem EI(A:List (List Int))(n:Nat):(List.range n).map (fun j=>a_ (Mx.uW A j))=(Mx.FR A n).map a_:=by unfold Mx.FR;rw[List.map_map];rfl
theorem uT:∀ds st K,iR ds st K→ds.length=2∧vM {nx:=fun _ st'=>K .aH st',rt:=K} (bf jW ds) st:=by
 rintro ds st K ⟨d,A,n,rfl,hd,hw,hl,hn,k⟩
 refine⟨rfl,?_⟩
 refine gq ⟨by omega,by omega⟩ ⟨cz (by rw[fj];omega),?_⟩
 rw[Int.toNat_natCast]
 refine o4 (fun j=>a_ (Mx.uW A j)) n (fun i hi K' q=>⟨_,rfl,d,A,i,rfl,hd,fun r hr=>by rw[hw r hr];exact hi,hl,q⟩) ?_
 rw[EI]
 exact dv rfl k
noncomputable def kF:cJ:=fun ds st K=>∃(n i:Nat),ds=[.int n,.int i]∧n≤1000∧K (a_ (Mx.ki n i)) st
noncomputable def m4:List Str:=["n","place"]
noncomputable def zQ:DS:=(bT (cm dR (ae (dP (eV (ae (ab 0) ak)) [none,some 1] (bW 0) cT (Fc (cy (ay kO (ab 0) (ab 1))) (dC (.int 1)) (dC (.int 0)))) ak)))
theorem yF:∀ds st K,kF ds st K→ds.length=2∧zQ {nx:=fun _ st'=>K .aH st',rt:=K} (bf m4 ds) st:=by
 rintro ds st K ⟨n,i,rfl,hn,k⟩
 refine⟨rfl,?_⟩
 refine gq ⟨by omega,by omega⟩ ⟨cz (by rw[fj];omega),?_⟩
 rw[Int.toNat_natCast]
 refine o4 (fun j=> .int (Mx.dl j i)) n (fun j hj K' q=>⟨_,rfl,?_⟩) ?_
 · refine eq2 (fun h=>gG ?_) fun h=>?_
   · have:j=i:=by omega
     subst this
     rw[Mx.gh]at q;exact q
   · rw[Mx.gM (by omega)]at q;exact q
 · have:(List.range n).map (fun j=>D.int (Mx.dl j i))=aB (Mx.ki n i):=by unfold Mx.ki aB;rw[List.map_map];rfl
   rw[this]
   exact dv rfl k
noncomputable def iV:cJ:=fun ds st K=>∃(n:Nat),ds=[.int n]∧n≤1000∧K (dD (Mx.units n)) st
noncomputable def lW:List Str:=["n"]
noncomputable def yx:DS:=(bT (cm dR (ae (dP (eV (ae (ab 0) ak)) [none,some 0] (bW 0) cT (aG kF (ae (ab 1) (ae (ab 0) ak)))) ak)))
theorem x4:∀ds st K,iV ds st K→ds.length=1∧yx {nx:=fun _ st'=>K .aH st',rt:=K} (bf lW ds) st:=by
 rintro ds st K ⟨n,rfl,hn,k⟩
 refine⟨rfl,?_⟩
 refine gq ⟨by omega,by omega⟩ ⟨cz (by rw[fj];omega),?_⟩
 rw[Int.toNat_natCast]
 refine o4 (fun i=>a_ (Mx.ki n i)) n (fun i hi K' q=>⟨_,rfl,n,i,rfl,hn,q⟩) ?_
 have:(List.range n).map (fun i=>a_ (Mx.ki n i))=(Mx.units n).map a_:=by unfold Mx.units;rw[List.map_map];rfl
 rw[this]
 exact dv rfl k
noncomputable def gK:List Int→Nat→Option Nat
 | [],_=>none
 |x::xs,i=>if x=0 then gK xs (i+1)else some i
noncomputable def kI(r:List Int):Option Nat:=gK r 0
noncomputable def jA(r:List Int):D:=match kI r with
 |some k=> .int (k:Int)
 |none=> .aH
noncomputable def eZ:cJ:=fun ds st K=>∃(d:D) (r:List Int),ds=[d]∧items? st d=some (aB r)∧K (jA r) st
noncomputable def n_:List Str:=["row","place","number"]
noncomputable def Be:DS:=(aK (iG (zN (ae (ab 0) ak)) (iM 1 2) (gc (cy (ay qb (ab 2) (dC (.int 0)))) (bT (ab 1)) e7))
 (bT (dC .aH)))
theorem Ag:∀ds st K,eZ ds st K→ds.length=1∧Be {nx:=fun _ st'=>K .aH st',rt:=K} (bf n_ ds) st:=by
 rintro ds st K ⟨d,r,rfl,hd,k⟩
 refine⟨rfl,?_⟩
 refine Hr hd fun ok aM=>?_
 refine gO (fun rest σ st'=>st'=st∧∃(v1 v2:Option D) (s:List Int) (i:Nat),σ=[some d,v1,v2]∧rest=jT i (aB s)∧gK r 0=gK s i) ?_ ?_ _ _ _ ⟨rfl,none,none,r,0,rfl,rfl,rfl⟩
 · rintro σ st' ⟨rfl,v1,v2,s,i,rfl,hr,hl⟩
   match s,hr with
   | [],_=>
     refine⟨aM _ hd,?_⟩
     have:jA r= .aH:=by unfold jA kI;rw[hl];rfl
     rw[this]at k;exact k
 · rintro x rest σ st' ⟨rfl,v1,v2,s,i,rfl,hr,hl⟩ next
   match s,hr,hl with
   |y::s,hr,hl=>
    simp only[aB,List.map_cons,jT,List.cons.injEq]at hr
    obtain⟨rfl,rfl⟩:=hr
    refine⟨aM _ hd,_,rfl,?_⟩
    refine ne2 (fun h=>gG ?_) fun h=>?_
    · have:jA r= .int (i:Int):=by unfold jA kI;rw[hl];unfold gK;rw[if_neg h]
      rw[this]at k;exact k
    · refine next _ _ ⟨rfl,_,_,s,i+1,rfl,rfl,?_⟩
      rw[hl];unfold gK;rw[if_pos h];cases s<;>rfl
   | [],hr,_=>cases hr
theorem yp:∀(r:List Int) (i l:Nat),(∀c,c<l→r.getD c 0=0)→r.getD l 0≠0→gK r i=some (i+l)
 | [],_,_,_,h=>(h rfl).elim
 |x::r,i,0,_,h=>by
  unfold gK
  rw[if_neg (show¬x=0 from h)];rfl
 |x::r,i,l+1,hz,h=>by
  unfold gK
  rw[if_pos (show x=0 from hz 0 (Nat.zero_lt_succ _)),yp r (i+1) l (fun c hc=>hz (c+1) (Nat.succ_lt_succ hc)) h,Nat.add_right_comm]
  rfl
theorem pP:∀(r:List Int) (i:Nat),gK r i=none→∀c,r.getD c 0=0
 | [],_,_,_=>rfl
 |x::r,i,h,c=>by
  unfold gK at h
  split at h
  · cases c with
    |zero=>assumption
    |succ c=>exact pP r (i+1) h c
  · cases h
theorem pN:∀(r:List Int) (i l:Nat),gK r i=some l→∃k,l=i+k∧k<r.length∧r.getD k 0≠0
 | [],_,_,h=>by cases h
 |x::r,i,l,h=>by
  unfold gK at h
  split at h
  · obtain⟨k,e,hk,hr⟩:=pN r (i+1) l h
    exact⟨k+1,by omega,Nat.succ_lt_succ hk,hr⟩
  · cases h
    exact⟨0,rfl,Nat.succ_pos _,by assumption⟩
theorem vE{r:List Int}{l:Nat}(h:∀c,c<l→r.getD c 0=0)(h':r.getD l 0≠0):kI r=some l:=by
 have:=yp r 0 l h h'
 rw[Nat.zero_add]at this
 exact this
noncomputable def fA:cJ:=fun ds st K=>∃(t d:Int),ds=[.int t,.int d]∧d≠0∧K (.int (Mx.qn t d)) st
noncomputable def gS:List Str:=["top","bottom"]
noncomputable def qI:DS:=(bT (ay mv (ay iF (ay cL (dC (.int 2)) (ab 0)) (ab 1)) (ay cL (dC (.int 2)) (ab 1))))
theorem DJ{a:Int}{m:Nat}(h:a.natAbs<2^m):Builtin.Int.intBits a≤m:=by
 unfold Builtin.Int.intBits
 by_cases h0:a.natAbs=0
 · have:a=0:=by omega
   subst this
   simp
 · have:=(Nat.log2_lt h0).mpr h
   split<;>omega
theorem la{a b:Int}{m n:Nat}(ha:a.natAbs≤2^m)(hb:b.natAbs≤2^n)(h:m+n≤130000000):IntMulOk a b:=by
 have q:∀ {x:Int} {k:Nat},x.natAbs≤2^k→Builtin.Int.intBits x≤k+1:=fun{x k} h=>DJ (Nat.lt_of_le_of_lt h (Nat.pow_lt_pow_right (by decide) (Nat.lt_succ_self k)))
 have h1:=q ha
 have h2:=q hb
 have e:(2:Nat)^27=134217728:=by decide
 have z:Builtin.Int.intTooBig (Builtin.Int.intBits a+Builtin.Int.intBits b)=false:=by
  unfold Builtin.Int.intTooBig bitsLine
  exact decide_eq_false (by omega)
 unfold IntMulOk
 rw[z]
 simp
theorem p8:∀ds st K,fA ds st K→ds.length=2∧qI {nx:=fun _ st'=>K .aH st',rt:=K} (bf gS ds) st:=by
 rintro ds st K ⟨t,d,rfl,hd,k⟩
 exact⟨rfl,cU (gv (by decide) (by decide)) (gD (cU (gv (by decide) (by decide)) (lg (by omega) k)))⟩
noncomputable def g5:cJ:=fun ds st K=>∃(n k o:Nat) (A:List (List Int)),ds=[.ref n,.int k,.int o]∧st[n]?=some (.lst (A.map ba))∧k<A.length∧o<A.length∧K (.ref st.length) (st++[.lst ((Mx.bP A k o).map ba)])
noncomputable def ll:List Str:=["rows","k","other","order"]
noncomputable def yD:DS:=(aK (bp 3 (cm p9 (ae (ab 0) ak)))
 (aK (eO (ab 3) (ab 1) (ay bG (ab 0) (ab 2)))
 (aK (eO (ab 3) (ab 2) (ay bG (ab 0) (ab 1)))
 (bT (ab 3)))))
theorem dX{A:List (List Int)}{j:Nat}(h:j<A.length):eh (A.map ba) (j:Int)=some (ba (A.getD j [])):=by
 refine iX ?_
 rw[List.getElem?_map,List.getElem?_eq_getElem h,Mx.bB h];rfl
theorem mq{m k:Nat}(h:k<m):kM m (k:Int)=some k:=by
 have:=nM (i:=(k:Int)) (m:=m) (by omega) (by omega)
 rw[Int.toNat_natCast]at this
 exact this
theorem iZ{A:List (List Int)}{k:Nat}{r:List Int}:(A.map ba).set k (ba r)=(A.set k r).map ba:=by rw[List.map_set]
theorem wG:∀ds st K,g5 ds st K→ds.length=3∧yD {nx:=fun _ st'=>K .aH st',rt:=K} (bf ll ds) st:=by
 rintro ds st K ⟨n,k,o,A,rfl,e,hk,ho,kk⟩
 refine⟨rfl,?_⟩
 have hn:n<st.length:=(List.getElem?_eq_some_iff.mp e).1
 refine Ds (aI e) ?_
 have e1:(st++[Cell.lst (A.map ba)])[n]?=some (.lst (A.map ba)):=by rw[List.getElem?_append_left hn];exact e
 have e2:(st++[Cell.lst (A.map ba)])[st.length]?=some (.lst (A.map ba)):=by simp
 refine aJ (aI e1) (dX ho) (fw e2 (by rw[List.length_map];exact mq hk) ?_)
 rw[iZ]
 have es:(st++[Cell.lst (A.map ba)]).set st.length (.lst ((A.set k (A.getD o [])).map ba))=st++[Cell.lst ((A.set k (A.getD o [])).map ba)]:=by
  rw[List.set_append_right _ _ (Nat.le_refl _),Nat.sub_self];rfl
 rw[es]
 have e3:(st++[Cell.lst ((A.set k (A.getD o [])).map ba)])[n]?=some (.lst (A.map ba)):=by rw[List.getElem?_append_left hn];exact e
 have e4:(st++[Cell.lst ((A.set k (A.getD o [])).map ba)])[st.length]?=some (.lst ((A.set k (A.getD o [])).map ba)):=by simp
 refine aJ (aI e3) (dX hk) (fw e4 (by rw[List.length_map,List.length_set];exact mq ho) ?_)
 rw[iZ]
 have es2:(st++[Cell.lst ((A.set k (A.getD o [])).map ba)]).set st.length (.lst (((A.set k (A.getD o [])).set o (A.getD k [])).map ba))=st++[Cell.lst ((Mx.bP A k o).map ba)]:=by
  rw[List.set_append_right _ _ (Nat.le_refl _),Nat.sub_self];rfl
 rw[es2]
 exact kk
noncomputable def jb:cJ:=fun ds st K=>∃(d:D) (r:List Int),ds=[d]∧items? st d=some (aB r)∧r.length≤1000∧K (ba (r.map fun x=> -x)) st
noncomputable def oj:List Str:=["row"]
noncomputable def Cd:DS:=(bT (dP (fu (ab 0)) [none] (bW 0) cT (nz je (ab 0))))
theorem AM:∀ds st K,jb ds st K→ds.length=1∧Cd {nx:=fun _ st'=>K .aH st',rt:=K} (bf oj ds) st:=by
 rintro ds st K ⟨d,r,rfl,hd,hl,k⟩
 refine⟨rfl,?_⟩
 refine mF hd fun ok aM=>⟨cz (by unfold aB;rw[List.length_map];exact hl),?_⟩
 refine comp_map (g:=fun x=>match x with| .int a=> .int (-a)|_=> .aH) aM _ (fun x hx K' q=>?_) ?_
 · unfold aB at hx
   obtain⟨a,_,rfl⟩:=List.mem_map.mp hx
   exact⟨_,rfl,iN q⟩
 · have e:(aB r).map (fun x=>match x with| .int a=> .int (-a)|_=> .aH)=aB (r.map fun x=> -x):=by unfold aB;rw[List.map_map,List.map_map];rfl
   rw[e];exact k
structure Bn(st:ai)(b xb xu xc:Nat)(A U C:List (List Int)):Prop where
 eb:st[b]?=some (Cell.ins av [("body",.ref xb),("turn",.ref xu),("back_columns",.ref xc)])
 e1:st[xb]?=some (Cell.lst (A.map ba))
 e2:st[xu]?=some (Cell.lst (U.map ba))
 e3:st[xc]?=some (Cell.lst (C.map ba))
 n1:xb≠xu
 n2:xb≠xc
 n3:xu≠xc
theorem kr{st:ai}{b x:Nat}{C:Addr}{fs:List (Str×D)}{xs:List D}(h1:st[b]?=some (Cell.ins C fs))(h2:st[x]?=some (Cell.lst xs)):b≠x:=fun z=>by rw[z,h2]at h1;cases h1
noncomputable def gz:cJ:=fun ds st K=>∃(b N:Nat) (d:D) (A:List (List Int)),ds=[.ref b,d]∧st[b]?=some (.ins av [])∧hV st d A∧A.length=N∧N≤8∧∀st',Bn st' b st.length (st.length+1) (st.length+2) A (Mx.units N) (Mx.units N)→st'.length=st.length+3→(∀m,m<st.length→m≠b→st'[m]?=st[m]?)→K .aH st'
noncomputable def iH:List Str:=["self","rows"]
noncomputable def sJ:DS:=(aK (nX av "body" (ab 0) (mj (fu (ab 1)) [none] (bW 0) cT (cm g_ (ae (ab 0) ak))))
 (aK (nX av "turn" (ab 0) (mj (fu (aG iV (ae (cm fK (ae (ab 1) ak)) ak))) [none] (bW 0) cT (cm g_ (ae (ab 0) ak))))
 (nX av "back_columns" (ab 0) (mj (fu (aG iV (ae (cm fK (ae (ab 1) ak)) ak))) [none] (bW 0) cT (cm g_ (ae (ab 0) ak))))))
theorem ph(f:Str)(v:D):∀fs:List (Str×D),(putD f v fs).length≤fs.length+1
 | []=>by simp[putD]
 |(g,x)::r=>by
  unfold putD
  split
  · simp
  · have:=ph f v r
    simp only[List.length_cons]
    omega
theorem yh{st:ai}{A:List (List Int)}:cg st (A.map a_) A:=cg.tup
theorem vD(n:Nat):(Mx.units n).length=n:=by unfold Mx.units;simp
theorem rN:∀ds st K,gz ds st K→ds.length=2∧sJ {nx:=fun _ st'=>K .aH st',rt:=K} (bf iH ds) st:=by
 rintro ds st K ⟨b,N,d,A,rfl,eb,hA,hl,hN,k⟩
 refine⟨rfl,?_⟩
 have hb:b<st.length:=(List.getElem?_eq_some_iff.mp eb).1
 obtain⟨da,hd,ra⟩:=hA.ex
 have hdl:=ra.len
 have lst:∀(e:D) (r:List Int),True:=fun _ _=>trivial
 refine mF hd fun ok aM=>⟨cz (by omega),?_⟩
 refine gW ba aM ra (fun e r hr he K' q=>⟨_,rfl,gQ he q⟩) ?_
 have eb1:(st++[Cell.lst (A.map ba)])[b]?=some (.ins av []):=by rw[List.getElem?_append_left hb];exact eb
 refine ni eb1 (by decide) ?_
 generalize hs1:(st++[Cell.lst (A.map ba)]).set b (.ins av (putD "body" (.ref st.length) []))=st1
 have l1:st1.length=st.length+1:=by rw[←hs1];simp
 have f1:∀m,m<st.length→m≠b→st1[m]?=st[m]?:=fun m hm hmb=>by rw[←hs1,List.getElem?_set_ne (Ne.symm hmb),List.getElem?_append_left hm]
 have b1:st1[b]?=some (.ins av (putD "body" (.ref st.length) [])):=by rw[←hs1,List.getElem?_set_self (by simp;omega)]
 have x1:st1[st.length]?=some (.lst (A.map ba)):=by rw[←hs1,List.getElem?_set_ne (by omega)];simp
 clear hs1
 have itd:∃da',items? st1 d=some da'∧da'.length=N:=by
  cases d with
  |ref n=>
   by_cases hnb:n=b
   · subst hnb
     unfold items? at hd
     simp only[eb]at hd
     cases hd
   · have hn:n<st.length:=by
      unfold items? at hd
      simp only at hd
      cases q:st[n]? with
      |none=>rw[q]at hd;cases hd
      |some c=>exact(List.getElem?_eq_some_iff.mp q).1
     refine⟨da,?_,by omega⟩
     unfold items? at hd⊢
     simp only at hd⊢
     rw[f1 n hn hnb]
     exact hd
  |_=>exact⟨da,hd,by omega⟩
 obtain⟨da1,hd1,hdl1⟩:=itd
 refine d_ hd1 ?_
 rw[hdl1]
 refine⟨N,rfl,by omega,?_⟩
 refine kj ⟨cz (by rw[List.length_map,vD];omega),?_⟩
 refine gW ba trivial yh (fun e r hr he K' q=>⟨_,rfl,gQ he q⟩) ?_
 have b2:(st1++[Cell.lst ((Mx.units N).map ba)])[b]?=some (.ins av (putD "body" (.ref st.length) [])):=by rw[List.getElem?_append_left (by omega)];exact b1
 refine ni b2 (by have:=ph "body" (.ref st.length) [];simp only[List.length_nil]at this;omega) ?_
 generalize hs2:(st1++[Cell.lst ((Mx.units N).map ba)]).set b (.ins av (putD "turn" (.ref st1.length) (putD "body" (.ref st.length) [])))=st2
 have l2:st2.length=st.length+2:=by rw[←hs2];simp;omega
 have f2:∀m,m<st1.length→m≠b→st2[m]?=st1[m]?:=fun m hm hmb=>by rw[←hs2,List.getElem?_set_ne (Ne.symm hmb),List.getElem?_append_left hm]
 have b2':st2[b]?=some (.ins av (putD "turn" (.ref st1.length) (putD "body" (.ref st.length) []))):=by rw[←hs2,List.getElem?_set_self (by simp;omega)]
 have x2:st2[st1.length]?=some (.lst ((Mx.units N).map ba)):=by rw[←hs2,List.getElem?_set_ne (by omega)];simp
 clear hs2
 have itd2:items? st2 d=some da1:=by
  cases d with
  |ref n=>
   by_cases hnb:n=b
   · subst hnb
     unfold items? at hd1
     simp only[b1]at hd1
     cases hd1
   · have hn:n<st1.length:=by
      unfold items? at hd1
      simp only at hd1
      cases q:st1[n]? with
      |none=>rw[q]at hd1;cases hd1
      |some c=>exact(List.getElem?_eq_some_iff.mp q).1
     unfold items? at hd1⊢
     simp only at hd1⊢
     rw[f2 n hn hnb]
     exact hd1
  |_=>exact hd1
 refine d_ itd2 ?_
 rw[hdl1]
 refine⟨N,rfl,by omega,?_⟩
 refine kj ⟨cz (by rw[List.length_map,vD];omega),?_⟩
 refine gW ba trivial yh (fun e r hr he K' q=>⟨_,rfl,gQ he q⟩) ?_
 have b3:(st2++[Cell.lst ((Mx.units N).map ba)])[b]?=some (.ins av (putD "turn" (.ref st1.length) (putD "body" (.ref st.length) []))):=by rw[List.getElem?_append_left (by omega)];exact b2'
 refine ni b3 (by have h1:=ph "body" (.ref st.length) [];have h2:=ph "turn" (.ref st1.length) (putD "body" (.ref st.length) []);simp only[List.length_nil]at h1;omega) ?_
 refine k _ ⟨?_,?_,?_,?_,by omega,by omega,by omega⟩ (by simp;omega) fun m hm hmb=>?_
 · rw[List.getElem?_set_self (by simp;omega),l1,l2];rfl
 · rw[List.getElem?_set_ne (by omega),List.getElem?_append_left (by omega),f2 _ (by omega) (by omega)];exact x1
 · rw[List.getElem?_set_ne (by omega),List.getElem?_append_left (by omega)]
   rw[l1]at x2
   exact x2
 · rw[List.getElem?_set_ne (by omega)]
   rw[show st.length+2=st2.length by omega]
   simp
 · rw[List.getElem?_set_ne (Ne.symm hmb),List.getElem?_append_left (by omega),f2 m (by omega) hmb,f1 m hm hmb]
noncomputable def gB:cJ:=fun ds st K=>∃(b xb xu xc N w k j:Nat) (A U C:List (List Int)) (q:Int),ds=[.ref b,.int k,.int q,.int j]∧Bn st b xb xu xc A U C∧Mx.dc N w A∧Mx.dc N N U∧Mx.dc N N C∧k<N∧j<N∧N≤8∧w≤9∧(∀x∈A.getD j [],IntMulOk (-q) x)∧(∀x∈U.getD j [],IntMulOk (-q) x)∧(∀x∈C.getD k [],IntMulOk q x)∧
 ∀st',Bn st' b xb xu xc (Mx.cf A k q j) (Mx.cf U k q j) (Mx.cf C j (-q) k)→st'.length=st.length→(∀m,m≠xb→m≠xu→m≠xc→st'[m]?=st[m]?)→K .aH st'
noncomputable def ku:List Str:=["self","k","times","other"]
noncomputable def xg:DS:=(aK (eO (eC av "body" (ab 0)) (ab 1) (aG gu (ae (ay bG (eC av "body" (ab 0)) (ab 1)) (ae (nz je (ab 2)) (ae (ay bG (eC av "body" (ab 0)) (ab 3)) ak)))))
 (aK (eO (eC av "turn" (ab 0)) (ab 1) (aG gu (ae (ay bG (eC av "turn" (ab 0)) (ab 1)) (ae (nz je (ab 2)) (ae (ay bG (eC av "turn" (ab 0)) (ab 3)) ak)))))
 (eO (eC av "back_columns" (ab 0)) (ab 3) (aG gu (ae (ay bG (eC av "back_columns" (ab 0)) (ab 3)) (ae (ab 2) (ae (ay bG (eC av "back_columns" (ab 0)) (ab 1)) ak)))))))
theorem vT:∀ds st K,gB ds st K→ds.length=4∧xg {nx:=fun _ st'=>K .aH st',rt:=K} (bf ku ds) st:=by
 rintro ds st K ⟨b,xb,xu,xc,N,w,k,j,A,U,C,q,rfl,B,hA,hU,hC,hk,hj,hN,hw,mA,mU,mC,kk⟩
 refine⟨rfl,?_⟩
 have lA:=hA.len
 have lU:=hU.len
 have lC:=hC.len
 have rA:=Mx.cW hA hk
 have rU:=Mx.cW hU hk
 have rC:=Mx.cW hC hj
 have bx1:=kr B.eb B.e1
 have bx2:=kr B.eb B.e2
 have bx3:=kr B.eb B.e3
 have n1:=B.n1
 have n2:=B.n2
 have n3:=B.n3
 refine cM B.eb rfl (aJ (aI B.e1) (dX (by omega)) (iN (cM B.eb rfl (aJ (aI B.e1) (dX (by omega)) ?_))))
 refine⟨_,_,-q,A.getD k [],A.getD j [],rfl,rfl,rfl,by omega,mA,?_⟩
 refine cM B.eb rfl (fw B.e1 (by rw[List.length_map,lA];exact mq hk) ?_)
 rw[iZ]
 have g1:∀m,m≠xb→(st.set xb (.lst ((A.set k (Mx.bX (A.getD k []) (-q) (A.getD j []))).map ba)))[m]?=st[m]?:=fun m hm=>List.getElem?_set_ne (Ne.symm hm)
 have h1:(st.set xb (.lst ((A.set k (Mx.bX (A.getD k []) (-q) (A.getD j []))).map ba)))[xb]?=some (.lst ((Mx.cf A k q j).map ba)):=List.getElem?_set_self (List.getElem?_eq_some_iff.mp B.e1).1
 have z1:(st.set xb (.lst ((A.set k (Mx.bX (A.getD k []) (-q) (A.getD j []))).map ba))).length=st.length:=List.length_set
 generalize st.set xb (.lst ((A.set k (Mx.bX (A.getD k []) (-q) (A.getD j []))).map ba))=st1 at g1 h1 z1⊢
 have eb1:=(g1 b bx1).trans B.eb
 have e21:=(g1 xu (Ne.symm n1)).trans B.e2
 have e31:=(g1 xc (Ne.symm n2)).trans B.e3
 refine cM eb1 rfl (aJ (aI e21) (dX (by omega)) (iN (cM eb1 rfl (aJ (aI e21) (dX (by omega)) ?_))))
 refine⟨_,_,-q,U.getD k [],U.getD j [],rfl,rfl,rfl,by omega,mU,?_⟩
 refine cM eb1 rfl (fw e21 (by rw[List.length_map,lU];exact mq hk) ?_)
 rw[iZ]
 have g2:∀m,m≠xu→(st1.set xu (.lst ((U.set k (Mx.bX (U.getD k []) (-q) (U.getD j []))).map ba)))[m]?=st1[m]?:=fun m hm=>List.getElem?_set_ne (Ne.symm hm)
 have h2:(st1.set xu (.lst ((U.set k (Mx.bX (U.getD k []) (-q) (U.getD j []))).map ba)))[xu]?=some (.lst ((Mx.cf U k q j).map ba)):=List.getElem?_set_self (List.getElem?_eq_some_iff.mp e21).1
 have z2:(st1.set xu (.lst ((U.set k (Mx.bX (U.getD k []) (-q) (U.getD j []))).map ba))).length=st1.length:=List.length_set
 generalize st1.set xu (.lst ((U.set k (Mx.bX (U.getD k []) (-q) (U.getD j []))).map ba))=st2 at g2 h2 z2⊢
 have eb2:=(g2 b bx2).trans eb1
 have e32:=(g2 xc (Ne.symm n3)).trans e31
 refine cM eb2 rfl (aJ (aI e32) (dX (by omega)) (cM eb2 rfl (aJ (aI e32) (dX (by omega)) ?_)))
 refine⟨_,_,q,C.getD j [],C.getD k [],rfl,rfl,rfl,by omega,mC,?_⟩
 refine cM eb2 rfl (fw e32 (by rw[List.length_map,lC];exact mq hj) ?_)
 rw[iZ]
 have hc:C.set j (Mx.bX (C.getD j []) q (C.getD k []))=Mx.cf C j (-q) k:=by unfold Mx.cf;rw[Int.neg_neg]
 rw[hc]
 refine kk _ ⟨?_,?_,?_,?_,n1,n2,n3⟩ (by rw[List.length_set];omega) fun m m1 m2 m3=>?_
 · rw[List.getElem?_set_ne (Ne.symm bx3)];exact eb2
 · rw[List.getElem?_set_ne (Ne.symm n2),g2 _ n1];exact h1
 · rw[List.getElem?_set_ne (Ne.symm n3)];exact h2
 · exact List.getElem?_set_self (List.getElem?_eq_some_iff.mp e32).1
 · rw[List.getElem?_set_ne (Ne.symm m3),g2 m m2,g1 m m1]
noncomputable def gy:cJ:=fun ds st K=>∃(b xb xu xc N w k o:Nat) (A U C:List (List Int)),ds=[.ref b,.int k,.int o]∧Bn st b xb xu xc A U C∧Mx.dc N w A∧Mx.dc N N U∧Mx.dc N N C∧k<N∧o<N∧
 ∀st',Bn st' b st.length (st.length+1) (st.length+2) (Mx.bP A k o) (Mx.bP U k o) (Mx.bP C k o)→st'.length=st.length+3→(∀m,m<st.length→m≠b→st'[m]?=st[m]?)→K .aH st'
noncomputable def iC:List Str:=["self","k","other"]
noncomputable def sR:DS:=(aK (nX av "body" (ab 0) (aG g5 (ae (eC av "body" (ab 0)) (ae (ab 1) (ae (ab 2) ak)))))
 (aK (nX av "turn" (ab 0) (aG g5 (ae (eC av "turn" (ab 0)) (ae (ab 1) (ae (ab 2) ak)))))
 (nX av "back_columns" (ab 0) (aG g5 (ae (eC av "back_columns" (ab 0)) (ae (ab 1) (ae (ab 2) ak)))))))
theorem rR:∀ds st K,gy ds st K→ds.length=3∧sR {nx:=fun _ st'=>K .aH st',rt:=K} (bf iC ds) st:=by
 rintro ds st K ⟨b,xb,xu,xc,N,w,k,o,A,U,C,rfl,B,hA,hU,hC,hk,ho,kk⟩
 refine⟨rfl,?_⟩
 have lA:=hA.len
 have lU:=hU.len
 have lC:=hC.len
 have bx1:=kr B.eb B.e1
 have bx2:=kr B.eb B.e2
 have bx3:=kr B.eb B.e3
 have hb:b<st.length:=(List.getElem?_eq_some_iff.mp B.eb).1
 have hu:xu<st.length:=(List.getElem?_eq_some_iff.mp B.e2).1
 have hc:xc<st.length:=(List.getElem?_eq_some_iff.mp B.e3).1
 refine cM B.eb rfl ?_
 refine⟨xb,k,o,A,rfl,B.e1,by omega,by omega,?_⟩
 have eb1:(st++[Cell.lst ((Mx.bP A k o).map ba)])[b]?=some (.ins av [("body",.ref xb),("turn",.ref xu),("back_columns",.ref xc)]):=by rw[List.getElem?_append_left hb];exact B.eb
 refine ni eb1 (by simp) ?_
 have pb:putD "body" (.ref st.length) [("body",.ref xb),("turn",.ref xu),("back_columns",.ref xc)]=([("body",.ref st.length),("turn",.ref xu),("back_columns",.ref xc)]:List (Str×D)):=rfl
 rw[pb]
 generalize hs1:(st++[Cell.lst ((Mx.bP A k o).map ba)]).set b (.ins av [("body",.ref st.length),("turn",.ref xu),("back_columns",.ref xc)])=st1
 have l1:st1.length=st.length+1:=by rw[←hs1];simp
 have f1:∀m,m<st.length→m≠b→st1[m]?=st[m]?:=fun m hm hmb=>by rw[←hs1,List.getElem?_set_ne (Ne.symm hmb),List.getElem?_append_left hm]
 have b1:st1[b]?=some (.ins av [("body",.ref st.length),("turn",.ref xu),("back_columns",.ref xc)]):=by rw[←hs1,List.getElem?_set_self (by simp;omega)]
 have x1:st1[st.length]?=some (.lst ((Mx.bP A k o).map ba)):=by rw[←hs1,List.getElem?_set_ne (by omega)];simp
 clear hs1 eb1
 refine cM b1 rfl ?_
 refine⟨xu,k,o,U,rfl,(f1 xu hu (Ne.symm bx2)).trans B.e2,by omega,by omega,?_⟩
 have eb1:(st1++[Cell.lst ((Mx.bP U k o).map ba)])[b]?=some (.ins av [("body",.ref st.length),("turn",.ref xu),("back_columns",.ref xc)]):=by rw[List.getElem?_append_left (by omega)];exact b1
 refine ni eb1 (by simp) ?_
 have pb:putD "turn" (.ref st1.length) [("body",.ref st.length),("turn",.ref xu),("back_columns",.ref xc)]=([("body",.ref st.length),("turn",.ref st1.length),("back_columns",.ref xc)]:List (Str×D)):=rfl
 rw[pb]
 generalize hs2:(st1++[Cell.lst ((Mx.bP U k o).map ba)]).set b (.ins av [("body",.ref st.length),("turn",.ref st1.length),("back_columns",.ref xc)])=st2
 have l2:st2.length=st.length+2:=by rw[←hs2];simp;omega
 have f2:∀m,m<st1.length→m≠b→st2[m]?=st1[m]?:=fun m hm hmb=>by rw[←hs2,List.getElem?_set_ne (Ne.symm hmb),List.getElem?_append_left hm]
 have b2:st2[b]?=some (.ins av [("body",.ref st.length),("turn",.ref st1.length),("back_columns",.ref xc)]):=by rw[←hs2,List.getElem?_set_self (by simp;omega)]
 have x2:st2[st1.length]?=some (.lst ((Mx.bP U k o).map ba)):=by rw[←hs2,List.getElem?_set_ne (by omega)];simp
 clear hs2 eb1
 refine cM b2 rfl ?_
 refine⟨xc,k,o,C,rfl,((f2 xc (by omega) (Ne.symm bx3)).trans (f1 xc hc (Ne.symm bx3))).trans B.e3,by omega,by omega,?_⟩
 have eb1:(st2++[Cell.lst ((Mx.bP C k o).map ba)])[b]?=some (.ins av [("body",.ref st.length),("turn",.ref st1.length),("back_columns",.ref xc)]):=by rw[List.getElem?_append_left (by omega)];exact b2
 refine ni eb1 (by simp) ?_
 have pb:putD "back_columns" (.ref st2.length) [("body",.ref st.length),("turn",.ref st1.length),("back_columns",.ref xc)]=([("body",.ref st.length),("turn",.ref st1.length),("back_columns",.ref st2.length)]:List (Str×D)):=rfl
 rw[pb]
 refine kk _ ⟨?_,?_,?_,?_,by omega,by omega,by omega⟩ (by simp;omega) fun m hm hmb=>?_
 · rw[List.getElem?_set_self (by simp;omega),l1,l2]
 · rw[List.getElem?_set_ne (by omega),List.getElem?_append_left (by omega),f2 _ (by omega) (by omega)];exact x1
 · rw[List.getElem?_set_ne (by omega),List.getElem?_append_left (by omega)]
   rw[l1]at x2
   exact x2
 · rw[List.getElem?_set_ne (by omega)]
   rw[show st.length+2=st2.length by omega]
   simp
 · rw[List.getElem?_set_ne (Ne.symm hmb),List.getElem?_append_left (by omega),f2 m (by omega) hmb,f1 m hm hmb]
noncomputable def fb:cJ:=fun ds st K=>∃(b xb xu xc N w k:Nat) (A U C:List (List Int)),ds=[.ref b,.int k]∧Bn st b xb xu xc A U C∧Mx.dc N w A∧Mx.dc N N U∧Mx.dc N N C∧k<N∧N≤8∧w≤9∧
 ∀st',Bn st' b xb xu xc (Mx.ik A k) (Mx.ik U k) (Mx.ik C k)→st'.length=st.length→(∀m,m≠xb→m≠xu→m≠xc→st'[m]?=st[m]?)→K .aH st'
noncomputable def gI:List Str:=["self","k"]
noncomputable def p7:DS:=(aK (eO (eC av "body" (ab 0)) (ab 1) (aG jb (ae (ay bG (eC av "body" (ab 0)) (ab 1)) ak)))
 (aK (eO (eC av "turn" (ab 0)) (ab 1) (aG jb (ae (ay bG (eC av "turn" (ab 0)) (ab 1)) ak)))
 (eO (eC av "back_columns" (ab 0)) (ab 1) (aG jb (ae (ay bG (eC av "back_columns" (ab 0)) (ab 1)) ak)))))
theorem pM:∀ds st K,fb ds st K→ds.length=2∧p7 {nx:=fun _ st'=>K .aH st',rt:=K} (bf gI ds) st:=by
 rintro ds st K ⟨b,xb,xu,xc,N,w,k,A,U,C,rfl,B,hA,hU,hC,hk,hN,hw,kk⟩
 refine⟨rfl,?_⟩
 have lA:=hA.len
 have lU:=hU.len
 have lC:=hC.len
 have rA:=Mx.cW hA hk
 have rU:=Mx.cW hU hk
 have rC:=Mx.cW hC hk
 have bx1:=kr B.eb B.e1
 have bx2:=kr B.eb B.e2
 have bx3:=kr B.eb B.e3
 have n1:=B.n1
 have n2:=B.n2
 have n3:=B.n3
 refine cM B.eb rfl (aJ (aI B.e1) (dX (by omega)) ?_)
 refine⟨_,A.getD k [],rfl,rfl,by omega,?_⟩
 refine cM B.eb rfl (fw B.e1 (by rw[List.length_map,lA];exact mq hk) ?_)
 rw[iZ]
 have g1:∀m,m≠xb→(st.set xb (.lst ((A.set k ((A.getD k []).map fun x=> -x)).map ba)))[m]?=st[m]?:=fun m hm=>List.getElem?_set_ne (Ne.symm hm)
 have h1:(st.set xb (.lst ((A.set k ((A.getD k []).map fun x=> -x)).map ba)))[xb]?=some (.lst ((Mx.ik A k).map ba)):=List.getElem?_set_self (List.getElem?_eq_some_iff.mp B.e1).1
 have z1:(st.set xb (.lst ((A.set k ((A.getD k []).map fun x=> -x)).map ba))).length=st.length:=List.length_set
 generalize st.set xb (.lst ((A.set k ((A.getD k []).map fun x=> -x)).map ba))=st1 at g1 h1 z1⊢
 have eb1:=(g1 b bx1).trans B.eb
 have e21:=(g1 xu (Ne.symm n1)).trans B.e2
 have e31:=(g1 xc (Ne.symm n2)).trans B.e3
 refine cM eb1 rfl (aJ (aI e21) (dX (by omega)) ?_)
 refine⟨_,U.getD k [],rfl,rfl,by omega,?_⟩
 refine cM eb1 rfl (fw e21 (by rw[List.length_map,lU];exact mq hk) ?_)
 rw[iZ]
 have g2:∀m,m≠xu→(st1.set xu (.lst ((U.set k ((U.getD k []).map fun x=> -x)).map ba)))[m]?=st1[m]?:=fun m hm=>List.getElem?_set_ne (Ne.symm hm)
 have h2:(st1.set xu (.lst ((U.set k ((U.getD k []).map fun x=> -x)).map ba)))[xu]?=some (.lst ((Mx.ik U k).map ba)):=List.getElem?_set_self (List.getElem?_eq_some_iff.mp e21).1
 have z2:(st1.set xu (.lst ((U.set k ((U.getD k []).map fun x=> -x)).map ba))).length=st1.length:=List.length_set
 generalize st1.set xu (.lst ((U.set k ((U.getD k []).map fun x=> -x)).map ba))=st2 at g2 h2 z2⊢
 have eb2:=(g2 b bx2).trans eb1
 have e32:=(g2 xc (Ne.symm n3)).trans e31
 refine cM eb2 rfl (aJ (aI e32) (dX (by omega)) ?_)
 refine⟨_,C.getD k [],rfl,rfl,by omega,?_⟩
 refine cM eb2 rfl (fw e32 (by rw[List.length_map,lC];exact mq hk) ?_)
 rw[iZ]
 refine kk _ ⟨?_,?_,?_,?_,n1,n2,n3⟩ (by rw[List.length_set];omega) fun m m1 m2 m3=>?_
 · rw[List.getElem?_set_ne (Ne.symm bx3)];exact eb2
 · rw[List.getElem?_set_ne (Ne.symm n2),g2 _ n1];exact h1
 · rw[List.getElem?_set_ne (Ne.symm n3)];exact h2
 · exact List.getElem?_set_self (List.getElem?_eq_some_iff.mp e32).1
 · rw[List.getElem?_set_ne (Ne.symm m3),g2 m m2,g1 m m1]
noncomputable def eX:cJ:=fun ds st K=>∃(b xb xu xc N w top p:Nat) (A U C:List (List Int)) (f:Bool),ds=[.ref b,.int top,.int p]∧Bn st b xb xu xc A U C∧Mx.dc N w A∧top≤N∧N≤8∧p<w∧w≤9∧st[0]?=some (gE f)∧
 ∀L,Mx.j0 A N top p L→K (.lst (L.map fun(k:Nat)=> .int (k:Int))) (st.set 0 (gE true))
noncomputable def hJ:List Str:=["self","top","place","live"]
noncomputable def rP:DS:=(aK (bp 3 (dP (oY (ae (ab 1) (ae (cm fK (ae (eC av "body" (ab 0)) ak)) ak))) [none,some 0,some 2] (bW 0) (cy (ay qb (ay bG (ay bG (eC av "body" (ab 1)) (ab 0)) (ab 2)) (dC (.int 0)))) (ab 0)))
 (bT (xZ 0 112 ⟨58,32,58,66⟩ "Bench.live_rows.<locals>.<lambda>" [none,some 0,some 2] (cm pk (ae (ay bG (ay bG (eC av "body" (ab 1)) (ab 0)) (ab 2)) ak)) (ab 3))))
theorem ud{a b:Prop}(h:b):if false=true then a else b:=h
theorem GU{st:ai}{b:Nat}{C:Addr}{fs:List (Str×D)}{f:Bool}(h1:st[b]?=some (Cell.ins C fs))(h2:st[0]?=some (gE f)):b≠0:=fun z=>by rw[z,h2]at h1;cases h1
theorem oV{st:ai}{b:Nat}{xs:List D}{f:Bool}(h1:st[b]?=some (Cell.lst xs))(h2:st[0]?=some (gE f)):b≠0:=fun z=>by rw[z,h2]at h1;cases h1
theorem Bn.keep{st st':ai}{b xb xu xc:Nat}{A U C:List (List Int)}(B:Bn st b xb xu xc A U C)(h:∀m,m=b∨m=xb∨m=xu∨m=xc→st'[m]?=st[m]?):Bn st' b xb xu xc A U C:=
 ⟨(h b (.inl rfl)).trans B.eb,(h xb (.inr (.inl rfl))).trans B.e1,(h xu (.inr (.inr (.inl rfl)))).trans B.e2,(h xc (.inr (.inr (.inr rfl)))).trans B.e3,B.n1,B.n2,B.n3⟩
theorem Bn.tab{st:ai}{b xb xu xc:Nat}{A U C:List (List Int)}{f:Bool}(B:Bn st b xb xu xc A U C)(h:st[0]?=some (gE f))(c:Cell):Bn (st.set 0 c) b xb xu xc A U C:=
 B.keep fun m hm=>List.getElem?_set_ne fun z=>by
  subst z
  rcases hm with rfl|rfl|rfl|rfl
  · exact GU B.eb h rfl
  · exact oV B.e1 h rfl
  · exact oV B.e2 h rfl
  · exact oV B.e3 h rfl
theorem nu{r:List Int}{k:Nat}(h:k<r.length):eh (aB r) (k:Int)=some (.int (r.getD k 0)):=by
 refine iX ?_
 unfold aB
 rw[List.getElem?_map,List.getElem?_eq_getElem h,Mx.bB h];rfl
noncomputable def gb(A:List (List Int))(N top p:Nat):List Nat:=(List.range (N-top)).filterMap fun i=>if Mx.g A (top+i) p≠0 then some (top+i)else none
theorem vg{A:List (List Int)}{N top p k:Nat}:k∈gb A N top p↔top≤k∧k<N∧Mx.g A k p≠0:=by
 unfold gb
 rw[List.mem_filterMap]
 constructor
 · rintro⟨i,hi,e⟩
   rw[List.mem_range]at hi
   split at e
   · rename_i h;cases e;exact⟨by omega,by omega,h⟩
   · cases e
 · rintro⟨h1,h2,h3⟩
   refine⟨k-top,List.mem_range.mpr (by omega),?_⟩
   rw[show top+(k-top)=k by omega,if_pos h3]
theorem pw_filterMap{f:Nat→Option Nat}(h:∀i j a b,i<j→f i=some a→f j=some b→a<b):∀ {l:List Nat},l.Pairwise (· < ·)→(l.filterMap f).Pairwise (· < ·)
 | [],_=>by simp
 |x::l,hl=>by
  obtain⟨h1,h2⟩:=List.pairwise_cons.mp hl
  rw[List.filterMap_cons]
  split
  · exact pw_filterMap h h2
  · rename_i a e
    refine List.pairwise_cons.mpr ⟨fun b hb=>?_,pw_filterMap h h2⟩
    obtain⟨j,hj,ej⟩:=List.mem_filterMap.mp hb
    exact h x j a b (h1 j hj) e ej
theorem pw_liveR{A:List (List Int)}{N top p:Nat}:(gb A N top p).Pairwise (· < ·):=by
 unfold gb
 refine pw_filterMap (fun i j a b hij ha hb=>?_) List.pairwise_lt_range
 split at ha
 · split at hb
   · cases ha;cases hb;omega
   · cases hb
 · cases ha
theorem vS{f:Nat→Option Nat}(l:List Nat):(l.filterMap f).length≤l.length:=List.length_filterMap_le ..
theorem Gh{A:List (List Int)}{N top p:Nat}{os:List (Int×Int)}(hp:os.Perm (((gb A N top p).map fun(k:Nat)=>(((Mx.g A k p).natAbs:Nat):Int)).zip ((gb A N top p).map fun(k:Nat)=>(k:Int))))(hs:os.Pairwise slt):
 Mx.j0 A N top p (os.map fun q=>q.2.toNat)∧os.map (fun q=>D.int q.2)=(os.map fun q=>q.2.toNat).map fun(k:Nat)=>D.int (k:Int):=by
 have hz:((gb A N top p).map fun(k:Nat)=>(((Mx.g A k p).natAbs:Nat):Int)).zip ((gb A N top p).map fun(k:Nat)=>(k:Int))=(gb A N top p).map fun k=>((((Mx.g A k p).natAbs:Nat):Int),(k:Int)):=by
  exact List.zip_map' ..
 rw[hz]at hp
 have hm:∀q∈os,∃k,k∈gb A N top p∧q=((((Mx.g A k p).natAbs:Nat):Int),(k:Int)):=fun q hq=>by
  obtain⟨k,h1,h2⟩:=List.mem_map.mp (hp.mem_iff.mp hq)
  exact⟨k,h1,h2.symm⟩
 refine⟨⟨fun k=>?_,?_,?_⟩,?_⟩
 · rw[←vg]
   constructor
   · intro h
     obtain⟨q,hq,e⟩:=List.mem_map.mp h
     obtain⟨j,h1,rfl⟩:=hm q hq
     simp only[Int.toNat_natCast]at e
     rw[←e];exact h1
   · intro h
     exact List.mem_map.mpr ⟨((((Mx.g A k p).natAbs:Nat):Int),(k:Int)),hp.mem_iff.mpr (List.mem_map.mpr ⟨k,h,rfl⟩),by simp⟩
 · rw[List.pairwise_map]
   refine hs.imp_of_mem fun{x y} hx hy h=>?_
   obtain⟨j,_,rfl⟩:=hm x hx
   obtain⟨k,_,rfl⟩:=hm y hy
   unfold slt at h
   simp only[Int.toNat_natCast]
   omega
 · have e:((gb A N top p).map fun k=>((((Mx.g A k p).natAbs:Nat):Int),(k:Int))).map (fun q=>q.2.toNat)=gb A N top p:=by
    rw[List.map_map]
    exact(List.map_congr_left fun k _=>Int.toNat_natCast k).trans (List.map_id _)
   have hq:=hp.map fun q=>q.2.toNat
   rw[e]at hq
   exact hq.nodup_iff.mpr (pw_liveR.imp fun h=>Nat.ne_of_lt h)
 · rw[List.map_map]
   refine List.map_congr_left fun q hq=>?_
   obtain⟨j,_,rfl⟩:=hm q hq
   simp
theorem qd:∀ds st K,eX ds st K→ds.length=3∧rP {nx:=fun _ st'=>K .aH st',rt:=K} (bf hJ ds) st:=by
 rintro ds st K ⟨b,xb,xu,xc,N,w,top,p,A,U,C,f,rfl,B,hA,ht,hN,hp,hw,h0,k⟩
 refine⟨rfl,?_⟩
 have lA:=hA.len
 have rowA:∀i,i<N→(A.getD i []).length=w:=fun i hi=>Mx.cW hA hi
 refine cM B.eb rfl (d_ (aI B.e1) ?_)
 rw[List.length_map,lA]
 refine zf ⟨by omega,by omega,by omega,by omega⟩ ⟨cz (by unfold dS;simp;omega),?_⟩
 have er:((N:Int)-(top:Int)).toNat=N-top:=by omega
 rw[er]
 refine iL (fun rest acc st'=>∃i:Nat,i≤N-top∧st'=st∧rest=(List.range (N-top-i)).map (fun j=>D.int ((top+i+j:Nat):Int))∧acc=((List.range i).filterMap fun i=>if Mx.g A (top+i) p≠0 then some (top+i)else none).map fun(k:Nat)=>D.int (k:Int)) ?_ ?_ _ _ _ ⟨0,Nat.zero_le _,rfl,by unfold dS;simp,by simp⟩
 · rintro acc st' ⟨i,hi,rfl,hr,rfl⟩
   have hi':i=N-top:=by
    rcases Nat.lt_or_ge i (N-top)with z|z
    · rw[show N-top-i=(N-top-i-1)+1 by omega,List.range_succ_eq_map]at hr;cases hr
    · omega
   subst hi'
   refine⟨trivial,?_⟩
   have e1:((gb A N top p).map fun(k:Nat)=>D.int (k:Int))=((gb A N top p).map fun(k:Nat)=>(k:Int)).map D.int:=by rw[List.map_map];rfl
   refine⟨(gb A N top p).map fun(k:Nat)=>(k:Int),(gb A N top p).map fun(k:Nat)=>(((Mx.g A k p).natAbs:Nat):Int),f,congrArg D.lst e1,?_,?_,by rw[List.length_map,List.length_map],h0,fun i n q hn hq=>?_,fun os hp' hs=>?_⟩
   · rw[List.length_map]
     have:=vS (f:=fun i=>if Mx.g A (top+i) p≠0 then some (top+i)else none) (List.range (N-top))
     rw[List.length_range]at this
     show(gb A N top p).length<64
     unfold gb
     omega
   · rw[List.pairwise_map]
     exact pw_liveR.imp fun h=>by omega
   · rw[List.getElem?_map]at hn hq
     cases z:(gb A N top p)[i]? with
     |none=>rw[z]at hn;cases hn
     |some j=>
      rw[z]at hn hq
      cases hn;cases hq
      obtain⟨j1,j2,j3⟩:=vg.mp (List.mem_of_getElem? z)
      have B1:=B.tab h0 (gE true)
      refine cM B1.eb rfl (aJ (aI B1.e1) (dX (by omega)) (aJ rfl (nu (by rw[rowA j j2];exact hp)) (qA ⟨rfl,rfl⟩)))
   · obtain⟨h1,h2⟩:=Gh hp' hs
     rw[h2]
     exact k _ h1
 · rintro d rest acc st' ⟨i,hi,rfl,hr,rfl⟩ next
   have hlt:i<N-top:=by
    rcases Nat.lt_or_ge i (N-top)with z|z
    · exact z
    · rw[show N-top-i=0 by omega]at hr;cases hr
   rw[show N-top-i=(N-top-i-1)+1 by omega,List.range_succ_eq_map,List.map_cons,List.map_map]at hr
   obtain⟨rfl,rfl⟩:=List.cons.inj hr
   refine⟨trivial,_,rfl,?_⟩
   refine cM B.eb rfl (aJ (aI B.e1) (dX (j:=top+i+0) (by omega)) (aJ rfl (nu (by rw[rowA _ (by omega)];exact hp)) ?_))
   have e2:List.range (i+1)=List.range i++[i]:=List.range_succ
   have e3:((List.range (N-top-i-1)).map ((fun j=>D.int ((top+i+j:Nat):Int))∘Nat.succ))=(List.range (N-top-(i+1))).map fun j=>D.int ((top+(i+1)+j:Nat):Int):=by
    rw[show N-top-i-1=N-top-(i+1) by omega]
    refine List.map_congr_left fun j _=>?_
    show D.int ((top+i+(j+1):Nat):Int)=_
    rw[show top+i+(j+1)=top+(i+1)+j by omega]
   refine ne2 (fun h=>?_) fun h=>?_
   · refine(next _ _ ⟨i+1,by omega,rfl,e3,?_⟩)
     rw[e2,List.filterMap_append,List.map_append]
     have:Mx.g A (top+i) p≠0:=h
     simp[this]
   · refine(next _ _ ⟨i+1,by omega,rfl,e3,?_⟩)
     rw[e2,List.filterMap_append,List.map_append]
     have:Mx.g A (top+i) p=0:=h
     simp[this]
structure Bo(n0:Nat)(st st':ai)(b xb xu xc:Nat):Prop where
 lo:1≤n0∧n0≤b∧n0≤xb∧n0≤xu∧n0≤xc
 fr:∀m,m<n0→m≠0→st'[m]?=st[m]?
 tb:∃f,st'[0]?=some (gE f)
noncomputable def iu:cJ:=fun ds st K=>∃(n0 b xb xu xc N w top p e u z:Nat) (A0 A U C:List (List Int)) (ld:Nat→Nat),ds=[.ref b,.int top,.int p]∧Bn st b xb xu xc A U C∧Bo n0 st st b xb xu xc∧Mx.i9 A0 N w ⟨A,U,C⟩ top p ld e u∧N≤8∧w≤9∧p<w∧z≤60000000∧(∀c,Mx.fS N top p ⟨A,U,C⟩ c→Mx.Sm c N (2^z))∧
 (∀st',Bn st' b xb xu xc A U C→Bo n0 st st' b xb xu xc→Mx.j0 A N top p []→K (.bl false) st')∧
 ∀st' xb' xu' xc' (c:Mx.B3) (r:Nat),Bn st' b xb' xu' xc' (Mx.setB c p top r).A (Mx.setB c p top r).U (Mx.setB c p top r).C→Bo n0 st st' b xb' xu' xc'→Mx.fS N top p ⟨A,U,C⟩ c→Mx.j0 c.A N top p [r]→K (.bl true) st'
noncomputable def jw:List Str:=["self","top","place","live","great","small"]
noncomputable def u5:DS:=(aK (bp 3 (jR av "live_rows" eX (ab 0) (ae (ab 1) (ae (ab 2) ak))))
 (aK (uc (cy (ay qD (cm fK (ae (ab 3) ak)) (dC (.int 1)))) (aK (bp 4 (ay bG (ab 3) (nz je (dC (.int 1)))))
 (aK (bp 5 (ay bG (ab 3) (nz je (dC (.int 2)))))
 (aK (jX (jR av "take" gB (ab 0) (ae (ab 4) (ae (aG fA (ae (ay bG (ay bG (eC av "body" (ab 0)) (ab 4)) (ab 2)) (ae (ay bG (ay bG (eC av "body" (ab 0)) (ab 5)) (ab 2)) ak))) (ae (ab 5) ak)))))
 (bp 3 (jR av "live_rows" eX (ab 0) (ae (ab 1) (ae (ab 2) ak))))))))
 (aK (gc (cy (ay kO (cm fK (ae (ab 3) ak)) (dC (.int 0)))) (bT (dC (.bl false))) e7)
 (aK (jX (jR av "exchange" gy (ab 0) (ae (ab 1) (ae (ay bG (ab 3) (dC (.int 0))) ak))))
 (aK (gc (cy (ay o3 (ay bG (ay bG (eC av "body" (ab 0)) (ab 1)) (ab 2)) (dC (.int 0)))) (jX (jR av "change_sign" fb (ab 0) (ae (ab 1) ak))) e7)
 (bT (dC (.bl true))))))))
theorem Bo.IP{n0:Nat}{st st':ai}{b xb xu xc:Nat}(h:Bo n0 st st' b xb xu xc):Bo n0 st (st'.set 0 (gE true)) b xb xu xc:=
 ⟨h.lo,fun m hm h0=>by rw[List.getElem?_set_ne (Ne.symm h0)];exact h.fr m hm h0,true,by
  obtain⟨f,e⟩:=h.tb
  exact List.getElem?_set_self (List.getElem?_eq_some_iff.mp e).1⟩
theorem Bo.low{n0:Nat}{st st1 st2:ai}{b xb xu xc:Nat}(h:Bo n0 st st1 b xb xu xc)(f:∀m,m≠xb→m≠xu→m≠xc→st2[m]?=st1[m]?):Bo n0 st st2 b xb xu xc:=by
 obtain⟨l1,l2,l3,l4,l5⟩:=h.lo
 refine⟨h.lo,fun m hm h0=>?_,?_⟩
 · rw[f m (by omega) (by omega) (by omega)];exact h.fr m hm h0
 · obtain⟨z,e⟩:=h.tb
   exact⟨z,by rw[f 0 (by omega) (by omega) (by omega)];exact e⟩
theorem xl{n j:Nat}(h:1≤j)(h2:j≤n):kM n (-(j:Int))=some (n-j):=by
 unfold kM
 rw[if_neg (by omega),if_pos (by omega)]
 congr 1
 omega
theorem Mf{L:List Nat}{j k:Nat}:eh ((L++[j,k]).map fun(k:Nat)=>D.int (k:Int)) (-1)=some (.int (k:Int)):=by
 unfold eh
 have:=xl (n:=((L++[j,k]).map fun(k:Nat)=>D.int (k:Int)).length) (j:=1) (by decide) (by simp)
 rw[show(-((1:Nat):Int))= -1 from rfl]at this
 rw[this]
 simp
theorem L0{L:List Nat}{j k:Nat}:eh ((L++[j,k]).map fun(k:Nat)=>D.int (k:Int)) (-2)=some (.int (j:Int)):=by
 unfold eh
 have:=xl (n:=((L++[j,k]).map fun(k:Nat)=>D.int (k:Int)).length) (j:=2) (by decide) (by simp)
 rw[show(-((2:Nat):Int))= -2 from rfl]at this
 rw[this]
 simp
theorem Df:∀ {L:List Nat},1<L.length→∃M j k,L=M++[j,k]:=fun{L} h=>by
 refine⟨L.take (L.length-2),L[L.length-2]'(by omega),L[L.length-1]'(by omega),?_⟩
 have e1:L=L.take (L.length-2)++L.drop (L.length-2):=(List.take_append_drop _ _).symm
 have e2:L.drop (L.length-2)=[L[L.length-2]'(by omega),L[L.length-1]'(by omega)]:=by
  rw[List.drop_eq_getElem_cons (by omega),List.drop_eq_getElem_cons (by omega),List.drop_eq_nil_of_le (by omega)]
  congr 2
  congr 1
  omega
 rw[←e2];exact e1
theorem tT:∀ds st K,iu ds st K→ds.length=3∧u5 {nx:=fun _ st'=>K .aH st',rt:=K} (bf jw ds) st:=by
 rintro ds st K ⟨n0,b,xb,xu,xc,N,w,top,p,e,u,z,A0,A,U,C,ld,rfl,B,O,S,hN,hw,hp,hzz,hz,kf,kt⟩
 refine⟨rfl,?_⟩
 have hle:=S.le
 obtain⟨f,h0⟩:=O.tb
 refine j9 B.eb rfl ?_
 refine⟨b,xb,xu,xc,N,w,top,p,A,U,C,f,rfl,B,S.tn.isA,hle,hN,hp,hw,h0,fun L hL=>?_⟩
 have B1:=B.tab h0 (gE true)
 have O1:=O.IP
 try dsimp only[ak]
 refine oG (fun σ st'=>∃(L:List Nat) (v4 v5:Option D) (c:Mx.B3) (gr:Nat),σ=[some (.ref b),some (.int top),some (.int p),some (.lst (L.map fun(k:Nat)=> .int (k:Int))),v4,v5]∧L.length≤1∧Bn st' b xb xu xc c.A c.U c.C∧Bo n0 st st' b xb xu xc∧Mx.fS N top p ⟨A,U,C⟩ c∧Mx.pU A0 N w top p (2^e) ⟨A,U,C⟩ c gr∧Mx.j0 c.A N top p L) (fun nx hnx=>?_) ?_
 · refine⟨fun m σ st'=>∃(L:List Nat) (v4 v5:Option D) (c:Mx.B3) (gr:Nat),σ=[some (.ref b),some (.int top),some (.int p),some (.lst (L.map fun(k:Nat)=> .int (k:Int))),v4,v5]∧Bn st' b xb xu xc c.A c.U c.C∧Bo n0 st st' b xb xu xc∧Mx.fS N top p ⟨A,U,C⟩ c∧Mx.pU A0 N w top p (2^e) ⟨A,U,C⟩ c gr∧Mx.j0 c.A N top p L∧m=Mx.mu c.A N p,⟨_,L,none,none,⟨A,U,C⟩,1,rfl,B1,O1,.refl _,S.y8,hL,rfl⟩,?_⟩
   rintro m σ st1 ⟨L,v4,v5,c,gr,rfl,B,O,hR,hG,hL,rfl⟩
   refine d_ rfl ?_
   rw[List.length_map]
   refine Im (fun h=>gG ?_) fun h=>ud (hnx _ _ ⟨L,v4,v5,c,gr,rfl,by omega,B,O,hR,hG,hL⟩)
   obtain⟨M,j,k,rfl⟩:=Df (L:=L) (by omega)
   refine iN (aJ rfl Mf (iN (aJ rfl L0 ?_)))
   obtain⟨G2,hlt,hoth,k1,k2,j1,j2,hjk,hj0⟩:=hG.step hp hL
   have T:=hG.tn
   have lA:=T.isA.len
   have hsm:=hz c hR
   refine j9 B.eb rfl (cM B.eb rfl (aJ (aI B.e1) (dX (by omega)) (aJ rfl (nu (by rw[Mx.cW T.isA k2];exact hp)) (cM B.eb rfl (aJ (aI B.e1) (dX (by omega)) (aJ rfl (nu (by rw[Mx.cW T.isA j2];exact hp)) ?_))))))
   refine⟨_,_,rfl,hj0,?_⟩
   have hq:(Mx.qn (Mx.g c.A k p) (Mx.g c.A j p)).natAbs≤2^(z+1):=Nat.le_trans (Mx.K3 hj0) (Mx.yM (hsm k p k2).1 (hsm j p j2).1)
   have hm:∀ {x:Int},x.natAbs≤2^z→IntMulOk (Mx.qn (Mx.g c.A k p) (Mx.g c.A j p)) x∧IntMulOk (-(Mx.qn (Mx.g c.A k p) (Mx.g c.A j p))) x:=fun{x} h=>
    ⟨la hq h (by omega),la (by rw[Int.natAbs_neg];exact hq) h (by omega)⟩
   have mg:∀ {X:List (List Int)} {i:Nat} {x:Int},x∈X.getD i []→∃q,x=Mx.g X i q:=fun{X i x} hx=>by
    obtain⟨c,hc,rfl⟩:=List.mem_iff_getElem.mp hx
    exact⟨c,by unfold Mx.g;rw[Mx.bB hc]⟩
   refine⟨b,xb,xu,xc,N,w,k,j,c.A,c.U,c.C,_,rfl,B,T.isA,T.gf,T.iq,k2,j2,hN,hw,fun x hx=>(by obtain⟨q,rfl⟩:=mg hx;exact(hm (hsm j q j2).1).2),fun x hx=>(by obtain⟨q,rfl⟩:=mg hx;exact(hm (hsm j q j2).2.1).2),fun x hx=>(by obtain⟨q,rfl⟩:=mg hx;exact(hm (hsm k q k2).2.2).1),fun st2 B2 l2 f2=>?_⟩
   have O2:=O.low f2
   obtain⟨f',h0'⟩:=O2.tb
   refine j9 B2.eb rfl ?_
   refine⟨b,xb,xu,xc,N,w,top,p,_,_,_,f',rfl,B2,G2.tn.isA,hle,hN,hp,hw,h0',fun L2 hL2=>?_⟩
   refine⟨_,?_,L2,_,_,Mx.ko c p k j,_,rfl,B2.tab h0' (gE true),O2.IP,hR.tail ⟨M,k,j,hL,rfl⟩,G2,hL2,rfl⟩
   unfold Mx.mu
   refine Mx.Ff (k:=k) hlt k2 fun i hi=>?_
   by_cases h:i=k
   · rw[h];exact Nat.le_of_lt hlt
   · rw[hoth i h];exact Nat.le_refl _
 · rintro σ st1 ⟨L,v4,v5,c,gr,rfl,hl,B,O,hR,hG,hL⟩
   refine d_ rfl ?_
   rw[List.length_map]
   match L,hl,hL with
   | [],_,hL=>
     refine eq2 (fun h=>gG ?_) fun h=>absurd rfl h
     have e0:c=⟨A,U,C⟩:=by
      rcases hG.Md with z|⟨j,h1,h2,h3⟩
      · exact z
      · exact absurd ((hL.mem j).mpr ⟨h1,h2,h3⟩) (by simp)
     subst e0
     exact kf st1 B O hL
   | [r],_,hL=>
     refine eq2 (fun h=>absurd h (by simp)) fun h=>ud ?_
     obtain⟨s1,hr1,hr2⟩:=hG.set hL
     have ht:top<N:=by omega
     have T:=hG.tn
     refine j9 B.eb rfl (aJ rfl (show eh ([r].map fun(k:Nat)=>D.int (k:Int)) 0=some (.int (r:Int))from rfl) ?_)
     refine⟨b,xb,xu,xc,N,w,top,r,c.A,c.U,c.C,rfl,B,T.isA,T.gf,T.iq,ht,hr2,fun st2 B2 l2 f2=>?_⟩
     obtain⟨l1,l2',l3,l4,l5⟩:=O.lo
     have hst:n0≤st1.length:=by
      have:=(List.getElem?_eq_some_iff.mp B.eb).1
      omega
     have O2:Bo n0 st st2 b st1.length (st1.length+1) (st1.length+2):=by
      refine⟨⟨l1,l2',by omega,by omega,by omega⟩,fun m hm h0=>?_,?_⟩
      · rw[f2 m (by omega) (by omega)];exact O.fr m hm h0
      · obtain⟨z,e⟩:=O.tb
        exact⟨z,by rw[f2 0 (by omega) (by omega)];exact e⟩
     have T1:=T.Fv ht hr2
     refine cM B2.eb rfl (aJ (aI B2.e1) (dX (by have:=T1.isA.len;omega)) (aJ rfl (nu (by rw[Mx.cW T1.isA ht];exact hp)) ?_))
     refine zE (fun h=>gG ?_) fun h=>ud ?_
     · have es:Mx.setB c p top r=⟨Mx.ik (Mx.bP c.A top r) top,Mx.ik (Mx.bP c.U top r) top,Mx.ik (Mx.bP c.C top r) top⟩:=if_pos h
       refine j9 B2.eb rfl ?_
       refine⟨b,_,_,_,N,w,top,_,_,_,rfl,B2,T1.isA,T1.gf,T1.iq,ht,hN,hw,fun st3 B3 l3 f3=>?_⟩
       exact kt st3 _ _ _ c r (by rw[es];exact B3) (O2.low f3) hR hL
     · have es:Mx.setB c p top r=⟨Mx.bP c.A top r,Mx.bP c.U top r,Mx.bP c.C top r⟩:=if_neg (fun z=>by unfold Mx.g at z;omega)
       exact kt st2 _ _ _ c r (by rw[es];exact B2) O2 hR hL
noncomputable def e_:cJ:=fun ds st K=>∃(b xb xu xc N w top p e u z:Nat) (A0 A U C:List (List Int)),ds=[.ref b,.int top,.int p]∧Bn st b xb xu xc A U C∧Mx.Tn A0 A U C N w∧N≤8∧w≤9∧p<w∧top<N∧0<Mx.g A top p∧(∀q,q<p→Mx.g A top q=0)∧
 (∀q,(Mx.g A top q).natAbs≤2^e∧(Mx.g U top q).natAbs≤2^e∧(Mx.g C top q).natAbs≤2^e)∧(∀i q,i<top→(Mx.g A i q).natAbs≤2^u∧(Mx.g U i q).natAbs≤2^u∧(Mx.g C i q).natAbs≤2^u)∧z≤60000000∧(∀k,k≤top→Mx.Sm (Mx.jF p top k ⟨A,U,C⟩) N (2^z))∧
 ∀st',Bn st' b xb xu xc (Mx.jF p top top ⟨A,U,C⟩).A (Mx.jF p top top ⟨A,U,C⟩).U (Mx.jF p top top ⟨A,U,C⟩).C→(∀m,m≠xb→m≠xu→m≠xc→st'[m]?=st[m]?)→K .aH st'
noncomputable def gJ:List Str:=["self","top","place","k"]
noncomputable def pZ:DS:=(iG (eV (ae (ab 1) ak)) (bW 3) (jX (jR av "take" gB (ab 0) (ae (ab 3) (ae (ay mv (ay bG (ay bG (eC av "body" (ab 0)) (ab 3)) (ab 2)) (ay bG (ay bG (eC av "body" (ab 0)) (ab 1)) (ab 2))) (ae (ab 1) ak))))))
theorem Am{X:List (List Int)}{i:Nat}{x:Int}(hx:x∈X.getD i []):∃q,x=Mx.g X i q:=by
 obtain⟨c,hc,rfl⟩:=List.mem_iff_getElem.mp hx
 exact⟨c,by unfold Mx.g;rw[Mx.bB hc]⟩
theorem pB:∀ds st K,e_ ds st K→ds.length=3∧pZ {nx:=fun _ st'=>K .aH st',rt:=K} (bf gJ ds) st:=by
 rintro ds st K ⟨b,xb,xu,xc,N,w,top,p,e,u,z,A0,A,U,C,rfl,B,T,hN,hw,hp,ht,htp,hz,hlo,hhi,hzz,hsm,kk⟩
 refine⟨rfl,?_⟩
 refine gq ⟨by omega,by omega⟩ ?_
 rw[Int.toNat_natCast]
 refine jf top (fun k σ st'=>∃v3:Option D,σ=[some (.ref b),some (.int top),some (.int p),v3]∧Bn st' b xb xu xc (Mx.jF p top k ⟨A,U,C⟩).A (Mx.jF p top k ⟨A,U,C⟩).U (Mx.jF p top k ⟨A,U,C⟩).C∧(∀m,m≠xb→m≠xu→m≠xc→st'[m]?=st[m]?)∧Mx.ot A0 N w top p e u ⟨A,U,C⟩ k (Mx.jF p top k ⟨A,U,C⟩)) ?_ ?_ ⟨none,rfl,B,fun _ _ _ _=>rfl,Mx.ot.start T fun q=>(hlo q).2.2⟩
 · rintro σ st' ⟨v3,rfl,B',f,I⟩
   exact kk st' B' f
 · rintro k σ st' rest hk ⟨v3,rfl,B',f,I⟩ next
   refine⟨_,rfl,?_⟩
   have hs:=I.step hk ht hp htp hz (fun q=>⟨(hlo q).1,(hlo q).2.1⟩) hhi
   have hs2:=hsm k (Nat.le_of_lt hk)
   generalize hc:Mx.jF p top k ⟨A,U,C⟩=c at*
   have lA:=I.tn.isA.len
   have kN:k<N:=by omega
   have gA:∀i q,k≤i→Mx.g c.A i q=Mx.g A i q:=fun i q hi=>by unfold Mx.g;rw[(I.rA i hi).1]
   have hq:((Mx.g c.A k p).fdiv (Mx.g c.A top p)).natAbs≤2^z:=Nat.le_trans (Mx.sG _ (by rw[gA top p (by omega)];exact htp)) (hs2 k p kN).1
   have htp':Mx.g c.A top p≠0:=by rw[gA top p (by omega)];omega
   refine j9 B'.eb rfl (cM B'.eb rfl (aJ (aI B'.e1) (dX (by omega)) (aJ rfl (nu (by rw[Mx.cW I.tn.isA kN];exact hp)) (cM B'.eb rfl (aJ (aI B'.e1) (dX (by omega)) (aJ rfl (nu (by rw[Mx.cW I.tn.isA ht];exact hp)) (lg htp' ?_)))))))
   refine⟨b,xb,xu,xc,N,w,k,top,c.A,c.U,c.C,_,rfl,B',I.tn.isA,I.tn.gf,I.tn.iq,kN,ht,hN,hw,fun x hx=>?_,fun x hx=>?_,fun x hx=>?_,fun st2 B2 l2 f2=>?_⟩
   · obtain⟨q,rfl⟩:=Am hx
     exact la (by rw[Int.natAbs_neg];exact hq) (hs2 top q ht).1 (by omega)
   · obtain⟨q,rfl⟩:=Am hx
     exact la (by rw[Int.natAbs_neg];exact hq) (hs2 top q ht).2.1 (by omega)
   · obtain⟨q,rfl⟩:=Am hx
     exact la hq (hs2 k q kN).2.2 (by omega)
   · have el:Mx.jF p top (k+1) ⟨A,U,C⟩=⟨Mx.cf c.A k ((Mx.g c.A k p).fdiv (Mx.g c.A top p)) top,Mx.cf c.U k ((Mx.g c.A k p).fdiv (Mx.g c.A top p)) top,Mx.cf c.C top (-((Mx.g c.A k p).fdiv (Mx.g c.A top p))) k⟩:=by rw[←hc];rfl
     refine next _ _ ⟨_,rfl,?_,fun m h1 h2 h3=>(f2 m h1 h2 h3).trans (f m h1 h2 h3),?_⟩
     · rw[el];exact B2
     · rw[el];exact hs
structure Bk(st st':ai):Prop where
 le:st.length≤st'.length
 fr:∀m,m<st.length→m≠0→st'[m]?=st[m]?
 tb:∃f,st'[0]?=some (gE f)
noncomputable def iD:cJ:=fun ds st K=>∃(d:D) (N w e0 z:Nat) (A:List (List Int)) (f:Bool),ds=[d]∧hV st d A∧Mx.dc N w A∧1≤N∧N≤8∧w≤9∧Mx.ja A N 0 (2^e0)∧z≤60000000∧(∀p t c,p<w→Mx.kT A N p t c→Mx.AH N p t z c)∧st[0]?=some (gE f)∧
 ∀st' (top:Nat) (c:Mx.B3),Mx.kT A N w top c→Bk st st'→K (.tup [dD (c.A.take top),dD c.U,dD (Mx.FR c.C N)]) st'
noncomputable def mX:List Str:=["rows","bench","top","place","back"]
noncomputable def Aq:DS:=(aK (bp 1 (Ad av gz (ae (ab 0) ak)))
 (aK (bp 2 (dC (.int 0)))
 (aK (iG (eV (ae (cm fK (ae (ay bG (ab 0) (dC (.int 0))) ak)) ak)) (bW 3) (gc (cy (jR av "gather" iu (ab 1) (ae (ab 2) (ae (ab 3) ak)))) (aK (jX (jR av "lower_above" e_ (ab 1) (ae (ab 2) (ae (ab 3) ak))))
 (AZ 2 (xC (fun i j=>i+j)) (dC (.int 1)))) e7))
 (aK (bp 4 (aG iR (ae (eC av "back_columns" (ab 1)) (ae (cm fK (ae (ab 0) ak)) ak))))
 (bT (ju (ae (aG kn (ae (t6 (eC av "body" (ab 1)) q_ (vY (ab 2))) ak)) (ae (aG kn (ae (eC av "turn" (ab 1)) ak)) (ae (ab 4) ak)))))))))
theorem km{st st':ai}{f:Bool}(h0:st[0]?=some (gE f))(fr:∀m,m<st.length→m≠0→st'[m]?=st[m]?){d:D}{xs:List D}(h:items? st d=some xs):items? st' d=some xs:=by
 cases d with
 |ref n=>
  have e:=ql h
  have n0:n≠0:=oV e h0
  rw[aI ((fr n (List.getElem?_eq_some_iff.mp e).1 n0).trans e)]
 |_=>exact h
theorem vC{st st':ai}{f:Bool}(h0:st[0]?=some (gE f))(fr:∀m,m<st.length→m≠0→st'[m]?=st[m]?):∀ {ds:List D} {A:List (List Int)},cg st ds A→cg st' ds A
 | [],[],_=>trivial
 |_::_,_::_,h=>⟨km h0 fr h.1,vC h0 fr h.2⟩
theorem tx{st st':ai}{f:Bool}(h0:st[0]?=some (gE f))(fr:∀m,m<st.length→m≠0→st'[m]?=st[m]?){d:D}{A:List (List Int)}(h:hV st d A):hV st' d A:=by
 obtain⟨ds,h1,h2⟩:=h.ex
 exact⟨ds,km h0 fr h1,vC h0 fr h2⟩
theorem CN{xs:List D}{j:Nat}:L3.cutD xs none (some (j:Int))=xs.take j:=by
 unfold L3.cutD
 rw[HT.Gu,HT.Ew,List.drop_zero,Nat.sub_zero]
 by_cases h:j≤xs.length
 · rw[Nat.min_eq_left h]
 · rw[Nat.min_eq_right (by omega),List.take_length,List.take_of_length_le (by omega)]
theorem yC:∀ds st K,iD ds st K→ds.length=1∧Aq {nx:=fun _ st'=>K .aH st',rt:=K} (bf mX ds) st:=by
 rintro ds st K ⟨d,N,w,e0,z,A,f,rfl,hd,hA,hN1,hN,hw,hlo,hzz,hsz,h0,kk⟩
 refine⟨rfl,?_⟩
 have lA:=hA.len
 have h0l:0<st.length:=(List.getElem?_eq_some_iff.mp h0).1
 have hd1:hV (st++[Cell.ins av []]) d A:=tx h0 (fun m hm _=>List.getElem?_append_left hm) hd
 refine⟨st.length,N,d,A,rfl,by simp,hd1,lA,hN,fun st1 B1 l1 f1=>⟨rfl,?_⟩⟩
 have hl1:(st++[Cell.ins av []]).length=st.length+1:=by simp
 have fr1:∀m,m<st.length→st1[m]?=st[m]?:=fun m hm=>by rw[f1 m (by omega) (by omega),List.getElem?_append_left hm]
 have O1:Bo st.length st st1 st.length (st.length+1) (st.length+1+1) (st.length+1+2):=⟨⟨h0l,by omega,by omega,by omega,by omega⟩,fun m hm _=>fr1 m hm,f,(fr1 0 h0l).trans h0⟩
 rw[hl1]at B1
 have hdk:∀ {st':ai},(∀m,m<st.length→m≠0→st'[m]?=st[m]?)→hV st' d A:=fun h=>tx h0 h hd
 obtain⟨da,hda,hra⟩:=(hdk O1.fr).ex
 have hdl:=hra.len
 have hrow0:∃d0,da[0]?=some d0∧items? st1 d0=some (aB (A.getD 0 [])):=by
  have hi:0<da.length:=by omega
  obtain⟨r,e1,e2⟩:=cg.get hra (List.getElem?_eq_getElem hi)
  refine⟨da[0],List.getElem?_eq_getElem hi,?_⟩
  have:A.getD 0 []=r:=by rw[List.getD_eq_getElem?_getD,e1];rfl
  rw[this];exact e2
 obtain⟨d0,hd0,hi0⟩:=hrow0
 have er:(aB (A.getD 0 [])).length=w:=by unfold aB;rw[List.length_map];exact Mx.cW hA (by omega)
 try dsimp only[ak]
 refine oG (A:=bp 2 _) (fun σ st'=>σ=[some d,some (.ref st.length),some (.int 0),none,none]∧st'=st1) (fun nx h=>h _ _ ⟨rfl,rfl⟩) ?_
 rintro _ _ ⟨rfl,rfl⟩
 refine oG (A:=iG _ _ _) (fun σ st'=>∃(top xb xu xc:Nat) (v3:Option D) (c:Mx.B3),σ=[some d,some (.ref st.length),some (.int top),v3,none]∧Bn st' st.length xb xu xc c.A c.U c.C∧Bo st.length st st' st.length xb xu xc∧Mx.kT A N w top c) (fun nx hnx=>?_) ?_
 · refine aJ hda (show eh da 0=some d0 from iX (j:=0) hd0) (d_ hi0 ?_)
   rw[er]
   refine gq ⟨by omega,by omega⟩ ?_
   rw[Int.toNat_natCast]
   refine jf w (fun p σ st'=>∃(top xb xu xc:Nat) (v3:Option D) (c:Mx.B3),σ=[some d,some (.ref st.length),some (.int top),v3,none]∧Bn st' st.length xb xu xc c.A c.U c.C∧Bo st.length st st' st.length xb xu xc∧Mx.kT A N p top c) ?_ ?_ ⟨0,_,_,_,none,⟨A,Mx.units N,Mx.units N⟩,rfl,B1,O1,.start⟩
   · rintro σ st' ⟨top,xb,xu,xc,v3,c,rfl,B,O,hC⟩
     exact hnx _ _ ⟨top,xb,xu,xc,v3,c,rfl,B,O,hC⟩
   · rintro p σ st' rest hp ⟨top,xb,xu,xc,v3,c,rfl,B,O,hC⟩ next
     refine⟨_,rfl,?_⟩
     obtain⟨ld,S⟩:=hC.Cq hA hlo hN (Nat.le_of_lt hp)
     have hle:=S.le
     have hroom:=hsz p top c hp hC
     refine j9 B.eb rfl ?_
     refine⟨st.length,st.length,xb,xu,xc,N,w,top,p,_,_,z,A,c.A,c.U,c.C,ld,rfl,B,⟨O.lo,fun _ _ _=>rfl,O.tb⟩,S,hN,hw,hp,hzz,hroom.ga,fun st2 B2 O2 hL=>?_,fun st2 xb2 xu2 xc2 c2 r B2 O2 hR hL=>?_⟩
     · exact ud (next _ _ ⟨top,xb,xu,xc,_,c,rfl,B2,⟨O2.lo,fun m h1 h2=>(O2.fr m h1 h2).trans (O.fr m h1 h2),O2.tb⟩,.next hC (.none hL)⟩)
     · refine gG ?_
       obtain⟨s1,ht,_⟩:=S.one hp hR hL
       have O2':Bo st.length st st2 st.length xb2 xu2 xc2:=⟨O2.lo,fun m h1 h2=>(O2.fr m h1 h2).trans (O.fr m h1 h2),O2.tb⟩
       refine j9 B2.eb rfl ?_
       refine⟨st.length,xb2,xu2,xc2,N,w,top,p,(N-top+1)*(Mx.Ez N e0 top+1),Mx.Vz N e0 top,z,A,_,_,_,rfl,B2,s1.tn,hN,hw,hp,ht,s1.tp,fun q hq=>s1.zs top q (Nat.le_refl _) ht hq,fun q=>⟨s1.lo.1 top q (Nat.le_refl _) ht,s1.lo.2.1 top q (Nat.le_refl _) ht,s1.lo.2.2 top q (Nat.le_refl _) ht⟩,fun i q hi=>?_,hzz,fun k hk=>hroom.lo c2 r k hR hL hk,fun st3 B3 f3=>?_⟩
       · obtain⟨a1,a2,a3⟩:=s1.Ft hi q
         rw[a1,a2,a3]
         exact S.hi i q hi
       · exact next _ _ ⟨top+1,xb2,xu2,xc2,_,_,rfl,B3,O2'.low f3,.next hC (.one hR hL)⟩
 · rintro σ st2 ⟨top,xb,xu,xc,v3,c,rfl,B,O,hC⟩
   obtain⟨ld,S⟩:=hC.Cq hA hlo hN (Nat.le_refl _)
   have hle:=S.le
   have T:=S.tn
   have lN:=T.isA.len
   refine cM B.eb rfl ?_
   obtain⟨da2,hda2,hra2⟩:=(hdk O.fr).ex
   refine d_ hda2 ?_
   rw[hra2.len,lA]
   refine⟨_,c.C,N,rfl,⟨_,aI B.e3,cg.lst⟩,T.iq.sr,by rw[T.iq.len];omega,by omega,?_⟩
   refine cM B.eb rfl (Bf B.e1 ?_)
   rw[CN,←List.map_take]
   refine⟨_,c.A.take top,rfl,⟨_,rfl,cg.lst⟩,by rw[List.length_take];omega,?_⟩
   refine cM B.eb rfl ?_
   refine⟨_,c.U,rfl,⟨_,aI B.e2,cg.lst⟩,by rw[T.gf.len];omega,?_⟩
   refine⟨by show 3≤sizeLine;decide,?_⟩
   refine kk st2 top c hC ⟨?_,O.fr,O.tb⟩
   have:=(List.getElem?_eq_some_iff.mp B.eb).1
   omega
theorem KG{m:Int}(h0:0<m)(h:m<2^62):m.natAbs.log2<9000:=by
 have:m.natAbs.log2<62:=(Nat.log2_lt (by omega)).mpr (by omega)
 omega
noncomputable def Bg:Nat:=2^400000
noncomputable def CQ(F:List (List Int))(ld:Nat→Nat):Nat→Int
 |0=>1
 |n+1=>CQ F ld n*Mx.g F n (ld n)
theorem drop_cons{F:List (List Int)}{i:Nat}{d:D}{rest:List D}(hr:d::rest=(F.map a_).drop i):i<F.length∧d=a_ (F.getD i [])∧rest=(F.map a_).drop (i+1):=by
 have hi:i<F.length:=by
  rcases Nat.lt_or_ge i F.length with h|h
  · exact h
  · rw[List.drop_eq_nil_of_le (by rw[List.length_map];exact h)]at hr;cases hr
 rw[List.drop_eq_getElem_cons (by rw[List.length_map];exact hi),List.getElem_map]at hr
 obtain⟨h1,h2⟩:=List.cons.inj hr
 exact⟨hi,by rw[Mx.bB hi];exact h1,h2⟩
theorem drop_nil{F:List (List Int)}{i:Nat}(hr: []=(F.map a_).drop i):F.length≤i:=by
 have:=congrArg List.length hr
 rw[List.length_drop,List.length_map,List.length_nil]at this
 omega
theorem qK{i:Nat}{σ:bN}{st:ai}{K:DK}{d:D}(h:σ[i]?=some (some d))(k:K d st):ab i σ st K:=by
 unfold ab
 simp only[h]
 exact k
structure Wd(F:List (List Int))(m w:Nat)(ld:Nat→Nat):Prop where
 is:Mx.dc m w F
 st:Mx.cN F m w ld
 m8:m≤8
 w8:w≤8
 sm:∀r∈F,∀x∈r,0≤x∧x≤1000
theorem Wd.lead{F:List (List Int)}{m w i:Nat}{ld:Nat→Nat}(h:Wd F m w ld)(hi:i<m):ld i<w∧0<Mx.g F i (ld i)∧Mx.g F i (ld i)≤1000∧(F.getD i []).length=w∧F.getD i []∈F∧jA (F.getD i [])= .int ((ld i:Nat):Int):=by
 obtain⟨l1,l2,l3⟩:=h.st.lead i hi
 have wF:=h.is.row hi
 have lF:=h.is.len
 have hm:F.getD i []∈F:=by rw[Mx.bB (by omega)];exact List.getElem_mem _
 refine⟨l1,l2,(h.sm _ hm (Mx.g F i (ld i)) (getD_mem (by omega))).2,wF,hm,?_⟩
 unfold jA
 rw[vE l3 (Int.ne_of_gt l2)]
structure NR(F:List (List Int))(m w:Nat)(ld:Nat→Nat)(r ws R:List Int)(e:Nat):Prop where
 lw:ws.length=m
 lR:R.length=w
 bw:∀x∈ws,x.natAbs≤2^(e+88)
 bR:∀x∈R,x.natAbs≤2^(e+88)
 Ij:Mx.ji F m w ld (fun c=>r.getD c 0) m (fun c=>R.getD c 0)
noncomputable def jq:cJ:=fun ds st K=>∃(dr:D) (F:List (List Int)) (r:List Int) (m w e:Nat) (ld:Nat→Nat),ds=[dD F,dr]∧Wd F m w ld∧items? st dr=some (aB r)∧r.length=w∧(∀x∈r,x.natAbs≤2^e)∧∀st' ws R,Ext st st'→NR F m w ld r ws R e→K (.tup [a_ ws,a_ R]) st'
noncomputable def oa:List Str:=["form","row","weights","left","each","lead","weight"]
noncomputable def BZ:DS:=(aK (bp 2 (u9 ak))
 (aK (bp 3 (cm g_ (ae (ab 1) ak)))
 (aK (iG (fu (ab 0)) (bW 4) (aK (bp 5 (aG eZ (ae (ab 4) ak)))
 (aK (bp 6 (ay mf (ay bG (ab 3) (ab 5)) (ay bG (ab 4) (ab 5))))
 (aK (jX (kQ (ab 2) (ab 6)))
 (bp 3 (aG gu (ae (ab 3) (ae (nz je (ab 6)) (ae (ab 4) ak)))))))))
 (bT (ju (ae (cm dR (ae (ab 2) ak)) (ae (cm dR (ae (ab 3) ak)) ak)))))))
theorem AU:∀ds st K,jq ds st K→ds.length=2∧BZ {nx:=fun _ st'=>K .aH st',rt:=K} (bf oa ds) st:=by
 rintro ds st K ⟨dr,F,r,m,w,e,ld,rfl,hW,hr,lr,br,k⟩
 refine⟨rfl,?_⟩
 have lF:=hW.is.len
 have m8:=hW.m8
 have w8:=hW.w8
 refine⟨Nat.le_of_ble_eq_true rfl,?_⟩
 have X0:Ext st (st++[.lst []]):=Ext.push
 have e0:(st++[Cell.lst []])[st.length]?=some (.lst (aB [])):=by simp
 refine gQ (X0.items hr) (kj ?_)
 refine gO (fun rest σ st'=>∃(i:Nat) (ws L:List Int) (v4 v5 v6:Option D),i≤m∧rest=(F.map a_).drop i∧σ=[some (dD F),some dr,some (.ref st.length),some (ba L),v4,v5,v6]∧L.length=w∧ws.length=i∧(∀x∈ws,x.natAbs≤2^(e+88))∧(∀x∈L,x.natAbs≤2^(e+11*i))∧Mx.ji F m w ld (fun c=>r.getD c 0) i (fun c=>L.getD c 0)∧Ext st st'∧st'[st.length]?=some (.lst (aB ws))) ?_ ?_ _ _ _ ⟨0,[],r,none,none,none,Nat.zero_le _,rfl,rfl,lr,rfl,by simp,br,Mx.ji.start,X0,e0⟩
 · rintro σ st' ⟨i,ws,L,v4,v5,v6,hi,hrest,rfl,lL,lw,bw,bL,f,X,ew⟩
   have e1:i=m:=Nat.le_antisymm hi (by rw[←lF];exact drop_nil hrest)
   subst e1
   refine⟨trivial,dv (aI ew) (dv rfl ⟨Nat.le_of_ble_eq_true rfl,?_⟩)⟩
   exact k st' ws L X ⟨lw,lL,bw,fun x hx=>Nat.le_trans (bL x hx) (Nat.pow_le_pow_right (by decide) (by omega)),f⟩
 · rintro x rest σ st' ⟨i,ws,L,v4,v5,v6,hi,hrest,rfl,lL,lw,bw,bL,f,X,ew⟩ next
   obtain⟨hiF,rfl,rfl⟩:=drop_cons hrest
   have him:i<m:=by rw[←lF];exact hiF
   obtain⟨l1,l2,l3,wF,hmem,eld⟩:=hW.lead him
   refine⟨trivial,_,rfl,_,F.getD i [],rfl,rfl,?_⟩
   rw[eld]
   have at1:eh (aB (F.getD i [])) ((ld i:Nat):Int)=some (.int (Mx.g F i (ld i))):=gn (by omega)
   have at2:eh (aB L) ((ld i:Nat):Int)=some (.int (L.getD (ld i) 0)):=gn (by omega)
   refine aJ rfl at2 (aJ rfl at1 (m6 (by omega) (KG l2 (by omega)) ?_))
   have st1:=f.step hW.st him
   have bx:(L.getD (ld i) 0).natAbs≤2^(e+11*i):=bL _ (getD_mem (by omega))
   have bq:((L.getD (ld i) 0).fdiv (Mx.g F i (ld i))).natAbs≤2^(e+11*i):=Nat.le_trans (Mx.sG _ l2) bx
   generalize(L.getD (ld i) 0).fdiv (Mx.g F i (ld i))=q at st1 bq⊢
   refine wC (by rfl) ew (qK rfl (uR ew (by rw[sizeLine_eq,List.length_map];omega) ?_))
   have hlt:=(List.getElem?_eq_some_iff.mp ew).1
   refine iN ?_
   refine⟨_,_,_,L,F.getD i [],rfl,rfl,rfl,by omega,fun b hb=>by have:=hW.sm _ hmem b hb;exact gj (by omega) (by omega),?_⟩
   have lA:(Mx.bX L (-q) (F.getD i [])).length=w:=by rw[Mx.gw (by omega)];exact lL
   refine next _ _ ⟨i+1,ws++[q],Mx.bX L (-q) (F.getD i []),_,_,_,him,rfl,rfl,lA,by simp[lw],fun z hz=>?_,fun z hz=>?_,?_,X.set (Nat.le_refl _),by rw[List.getElem?_set_self hlt,ints_app]⟩
   · rcases List.mem_append.mp hz with h|h
     · exact bw z h
     · have:z=q:=by simpa using h
       rw[this]
       exact Nat.le_trans bq (Nat.pow_le_pow_right (by decide) (by omega))
   · obtain⟨c,hc,rfl⟩:=List.mem_iff_getElem.mp hz
     have e2:(Mx.bX L (-q) (F.getD i []))[c]=(Mx.bX L (-q) (F.getD i [])).getD c 0:=(Mx.bB hc).symm
     rw[e2,Mx.fC (by omega)]
     have hc':c<w:=by omega
     have b1:(L.getD c 0).natAbs≤2^(e+11*i):=bL _ (getD_mem (by omega))
     have b2:=hW.sm _ hmem ((F.getD i []).getD c 0) (getD_mem (by omega))
     have b3:(-q*(F.getD i []).getD c 0).natAbs≤2^(e+11*i)*1000:=by
      rw[Int.natAbs_mul,Int.natAbs_neg]
      exact Nat.mul_le_mul bq (by omega)
     have b4:=Int.natAbs_add_le (L.getD c 0) (-q*(F.getD i []).getD c 0)
     have b5:2^(e+11*(i+1))=2^(e+11*i)*2048:=by rw[show e+11*(i+1)=(e+11*i)+11 by omega,Nat.pow_add]
     omega
   · have ee:(fun c=>(Mx.bX L (-q) (F.getD i [])).getD c 0)=fun c=>L.getD c 0-q*Mx.g F i c:=by
      funext c
      rw[Mx.fC (by omega),Int.neg_mul]
      rfl
     rw[ee]
     exact st1
noncomputable def oQ:cJ:=fun ds st K=>∃(dr:D) (F:List (List Int)) (r:List Int) (m w e:Nat) (ld:Nat→Nat),ds=[dD F,dr]∧Wd F m w ld∧items? st dr=some (aB r)∧r.length=w∧(∀x∈r,x.natAbs≤2^e)∧∀st' R,Ext st st'→R.length=w→(∀x∈R,x.natAbs≤2^(e+88))→Mx.ji F m w ld (fun c=>r.getD c 0) m (fun c=>R.getD c 0)→K (a_ R) st'
noncomputable def qO:List Str:=["form","row"]
noncomputable def GX:DS:=(bT (ay bG (aG jq (ae (ab 0) (ae (ab 1) ak))) (dC (.int 1))))
theorem Dn:∀ds st K,oQ ds st K→ds.length=2∧GX {nx:=fun _ st'=>K .aH st',rt:=K} (bf qO ds) st:=by
 rintro ds st K ⟨dr,F,r,m,w,e,ld,rfl,hW,hr,lr,br,k⟩
 exact⟨rfl,dr,F,r,m,w,e,ld,rfl,hW,hr,lr,br,fun st' ws R X f=>aJ rfl rfl (k st' R X f.lR f.bR f.Ij)⟩
noncomputable def nB:cJ:=fun ds st K=>∃a b,ds=[.int a,.int b]∧K (.int ((Nat.gcd a.natAbs b.natAbs:Nat):Int)) st
noncomputable def o8:List Str:=["one","other","great","small","rest"]
noncomputable def DN:DS:=(aK (bp 2 (cm pk (ae (ab 0) ak)))
 (aK (bp 3 (cm pk (ae (ab 1) ak)))
 (aK (uc (cy (ay qb (ab 3) (dC (.int 0)))) (aK (bp 4 (ay mJ (ab 2) (ab 3)))
 (aK (bp 2 (ab 3))
 (bp 3 (ab 4)))))
 (bT (ab 2)))))
theorem qE{m:Int}(h0:0<m)(h:m<2^62):m.natAbs.log2<9000:=by
 have:m.natAbs.log2<62:=(Nat.log2_lt (by omega)).mpr (by omega)
 omega
theorem Dw(a b:Nat):(a:Int).fmod (b:Int)=((a%b:Nat):Int):=by
 rw[Int.fmod_eq_emod_of_nonneg _ (Int.natCast_nonneg b)]
 exact(Int.natCast_emod a b).symm
theorem Bm:∀ds st K,nB ds st K→ds.length=2∧DN {nx:=fun _ st'=>K .aH st',rt:=K} (bf o8 ds) st:=by
 rintro ds st K ⟨a,b,rfl,k⟩
 refine⟨rfl,?_⟩
 refine qA (qA ?_)
 refine⟨fun m σ st'=>∃(g s:Nat) (r:Option D),σ=[some (.int a),some (.int b),some (.int g),some (.int s),r]∧st'=st∧Nat.gcd g s=Nat.gcd a.natAbs b.natAbs∧s=m,⟨b.natAbs,a.natAbs,b.natAbs,none,?_,rfl,rfl,rfl⟩,?_⟩
 · rfl
 · rintro m σ st' ⟨g,s,r,rfl,rfl,hg,rfl⟩
   refine ne2 (fun h=>gG ?_) fun h=>?_
   · refine mB h ⟨g%s,Nat.mod_lt _ (by omega),s,g%s,some (.int ((g%s:Nat):Int)),?_,rfl,?_,rfl⟩
     · rw[Dw];rfl
     · rw[Nat.gcd_comm,←Nat.gcd_rec,Nat.gcd_comm];exact hg
   · have:s=0:=by omega
     subst this
     rw[Nat.gcd_zero_right]at hg
     subst hg
     exact k
noncomputable def Fz(b:Nat)(d:D):Prop:=∃p q:Int,d= .tup [.int p,.int q]∧0<q∧p.natAbs≤b∧q.natAbs≤b
theorem Fz.mono{a b:Nat}{d:D}(h:Fz a d)(l:a≤b):Fz b d:=by
 obtain⟨p,q,e,h1,h2,h3⟩:=h
 exact⟨p,q,e,h1,Nat.le_trans h2 l,Nat.le_trans h3 l⟩
theorem Fz.one{b:Nat}{d:D}(h:Fz b d):1≤b:=by
 obtain⟨p,q,_,h1,_,h3⟩:=h
 omega
noncomputable def ie:cJ:=fun ds st K=>∃(t b:Int) (M:Nat),ds=[.int t,.int b]∧b≠0∧t.natAbs≤M∧b.natAbs≤M∧∀d,Fz M d→K d st
noncomputable def tL:List Str:=["top","bottom","shrink"]
noncomputable def IE:DS:=(aK (bp 2 (aG nB (ae (ab 0) (ae (ab 1) ak))))
 (aK (gc (cy (ay o3 (ab 1) (dC (.int 0)))) (bp 2 (nz je (ab 2))) e7)
 (bT (ju (ae (ay mv (ab 0) (ab 2)) (ae (ay mv (ab 1) (ab 2)) ak))))))
theorem Lm(t b:Int):((Nat.gcd t.natAbs b.natAbs:Nat):Int)∣t:=Int.ofNat_dvd_left.mpr (Nat.gcd_dvd_left _ _)
theorem KY(t b:Int):((Nat.gcd t.natAbs b.natAbs:Nat):Int)∣b:=Int.ofNat_dvd_left.mpr (Nat.gcd_dvd_right _ _)
theorem zx{g c:Int}{M:Nat}(hg:0<g)(h:(g*c).natAbs≤M):c.natAbs≤M:=by
 rw[Int.natAbs_mul]at h
 exact Nat.le_trans (Nat.le_mul_of_pos_left _ (by omega)) h
theorem Hw:∀ds st K,ie ds st K→ds.length=2∧IE {nx:=fun _ st'=>K .aH st',rt:=K} (bf tL ds) st:=by
 rintro ds st K ⟨t,b,M,rfl,hb,ht,hM,k⟩
 refine⟨rfl,?_⟩
 refine⟨t,b,rfl,?_⟩
 have hg0:Nat.gcd t.natAbs b.natAbs≠0:=fun z=>by
  have:=Nat.eq_zero_of_gcd_eq_zero_right z
  omega
 obtain⟨t',et⟩:=Lm t b
 obtain⟨b',eb⟩:=KY t b
 generalize Nat.gcd t.natAbs b.natAbs=g at hg0 et eb⊢
 have gp:0<(g:Int):=by omega
 have at':t'.natAbs≤M:=zx gp (by rw[←et];exact ht)
 have ab':b'.natAbs≤M:=zx gp (by rw[←eb];exact hM)
 subst et
 refine zE (fun h=>gG ?_) fun h=>?_
 · refine iN (lg (by omega) (lg (by omega) ⟨Nat.le_of_ble_eq_true rfl,?_⟩))
   have e1:((g:Int)*t').fdiv (-(g:Int))= -t':=by
    rw[show(g:Int)*t'=(-(g:Int))*(-t') by rw[Int.neg_mul_neg],Int.mul_fdiv_cancel_left _ (by omega)]
   have e2:b.fdiv (-(g:Int))= -b':=by
    rw[eb,show(g:Int)*b'=(-(g:Int))*(-b') by rw[Int.neg_mul_neg],Int.mul_fdiv_cancel_left _ (by omega)]
   rw[e1,e2]
   refine k _ ⟨_,_,rfl,?_,by rw[Int.natAbs_neg];exact at',by rw[Int.natAbs_neg];exact ab'⟩
   rcases Int.lt_or_le b' 0 with z|z
   · omega
   · have:=Int.mul_nonneg (Int.le_of_lt gp) z;omega
 · refine lg (by omega) (lg (by omega) ⟨Nat.le_of_ble_eq_true rfl,?_⟩)
   rw[Int.mul_fdiv_cancel_left _ (by omega),eb,Int.mul_fdiv_cancel_left _ (by omega)]
   refine k _ ⟨_,_,rfl,?_,at',ab'⟩
   rcases Int.lt_or_le 0 b' with z|z
   · exact z
   · have:=Int.mul_nonpos_of_nonneg_of_nonpos (Int.le_of_lt gp) z;omega
theorem uP{a b:Int}{m n:Nat}(ha:a.natAbs≤m)(hb:b.natAbs≤n)(hm:m≤Bg)(hn:n≤Bg):IntMulOk a b:=by
 unfold Bg at hm hn
 exact la (Nat.le_trans ha hm) (Nat.le_trans hb hn) (by decide)
noncomputable def qu:cJ:=fun ds st K=>∃(x y:D) (a b:Nat),ds=[x,y]∧Fz a x∧Fz b y∧a≤Bg∧b≤Bg∧∀d,Fz (2*(a*b)) d→K d st
noncomputable def tN:List Str:=["one","other"]
noncomputable def Ja:DS:=(bT (aG ie (ae (ay iF (ay cL (ay bG (ab 0) (dC (.int 0))) (ay bG (ab 1) (dC (.int 1)))) (ay cL (ay bG (ab 1) (dC (.int 0))) (ay bG (ab 0) (dC (.int 1))))) (ae (ay cL (ay bG (ab 0) (dC (.int 1))) (ay bG (ab 1) (dC (.int 1)))) ak))))
theorem pv{st:ai}{x:D}{p q:Int}(e:x= .tup [.int p,.int q]):items? st x=some [.int p,.int q]:=by rw[e];rfl
theorem Hx:∀ds st K,qu ds st K→ds.length=2∧Ja {nx:=fun _ st'=>K .aH st',rt:=K} (bf tN ds) st:=by
 rintro ds st K ⟨x,y,a,b,rfl,⟨p,q,ex,q0,hp,hq⟩,⟨p',q',ey,q0',hp',hq'⟩,ha,hb,k⟩
 refine⟨rfl,?_⟩
 have ix:items? st x=some [.int p,.int q]:=pv ex
 have iy:items? st y=some [.int p',.int q']:=pv ey
 clear ex ey
 refine aJ ix rfl (aJ iy rfl (cU (uP hp hq' ha hb) (aJ iy rfl (aJ ix rfl (cU (uP hp' hq hb ha) (gD (aJ ix rfl (aJ iy rfl (cU (uP hq hq' ha hb) ?_)))))))))
 refine⟨_,_,2*(a*b),rfl,Int.ne_of_gt (Int.mul_pos q0 q0'),?_,?_,k⟩
 · have h1:(p*q').natAbs≤a*b:=by rw[Int.natAbs_mul];exact Nat.mul_le_mul hp hq'
   have h2:(p'*q).natAbs≤a*b:=by rw[Int.natAbs_mul,Nat.mul_comm a b];exact Nat.mul_le_mul hp' hq
   have:=Int.natAbs_add_le (p*q') (p'*q)
   omega
 · have h1:(q*q').natAbs≤a*b:=by rw[Int.natAbs_mul];exact Nat.mul_le_mul hq hq'
   omega
noncomputable def oK:cJ:=fun ds st K=>∃(y:D) (b:Nat),ds=[.tup [.int 0,.int 1],y]∧Fz b y∧∀d,Fz b d→K d st
noncomputable def rf:List Str:=["one","other"]
noncomputable def GK:DS:=(bT (aG ie (ae (ay mM (ay cL (ay bG (ab 0) (dC (.int 0))) (ay bG (ab 1) (dC (.int 1)))) (ay cL (ay bG (ab 1) (dC (.int 0))) (ay bG (ab 0) (dC (.int 1))))) (ae (ay cL (ay bG (ab 0) (dC (.int 1))) (ay bG (ab 1) (dC (.int 1)))) ak))))
theorem EE:∀ds st K,oK ds st K→ds.length=2∧GK {nx:=fun _ st'=>K .aH st',rt:=K} (bf rf ds) st:=by
 rintro ds st K ⟨_,b,rfl,⟨p',q',rfl,q0',hp',hq'⟩,k⟩
 refine⟨rfl,?_⟩
 refine aJ rfl rfl (aJ rfl rfl (cU (gv (by decide) (by decide)) (aJ rfl rfl (aJ rfl rfl (cU (gj (by decide) (by decide)) (mH (aJ rfl rfl (aJ rfl rfl (cU (gv (by decide) (by decide)) ?_)))))))))
 refine⟨_,_,b,rfl,by rw[Int.one_mul];omega,?_,by rw[Int.one_mul];exact hq',k⟩
 rw[Int.zero_mul,Int.mul_one]
 omega
noncomputable def oO:cJ:=fun ds st K=>∃(x:D) (a:Nat) (n:Int),ds=[x,.tup [.int n,.int 1]]∧Fz a x∧n.natAbs≤1000∧∀d,Fz (1000*a) d→K d st
noncomputable def rE:List Str:=["one","other"]
noncomputable def Hz:DS:=(bT (aG ie (ae (ay cL (ay bG (ab 0) (dC (.int 0))) (ay bG (ab 1) (dC (.int 0)))) (ae (ay cL (ay bG (ab 0) (dC (.int 1))) (ay bG (ab 1) (dC (.int 1)))) ak))))
theorem DC:∀ds st K,oO ds st K→ds.length=2∧Hz {nx:=fun _ st'=>K .aH st',rt:=K} (bf rE ds) st:=by
 rintro ds st K ⟨_,a,n,rfl,⟨p,q,rfl,q0,hp,hq⟩,hn,k⟩
 refine⟨rfl,?_⟩
 refine aJ rfl rfl (aJ rfl rfl (cU (gj (by omega) (by omega)) (aJ rfl rfl (aJ rfl rfl (cU (gj (by decide) (by decide)) ?_)))))
 refine⟨_,_,1000*a,rfl,by rw[Int.mul_one];omega,?_,by rw[Int.mul_one];omega,k⟩
 rw[Int.natAbs_mul,Nat.mul_comm]
 exact Nat.mul_le_mul hn hp
noncomputable def qm:cJ:=fun ds st K=>∃(x:D) (a:Nat) (n:Int),ds=[x,.tup [.int n,.int 1]]∧Fz a x∧0<n∧n≤1000∧∀d,Fz (1000*a) d→K d st
noncomputable def uy:List Str:=["one","other"]
noncomputable def JF:DS:=(bT (aG ie (ae (ay cL (ay bG (ab 0) (dC (.int 0))) (ay bG (ab 1) (dC (.int 1)))) (ae (ay cL (ay bG (ab 0) (dC (.int 1))) (ay bG (ab 1) (dC (.int 0)))) ak))))
theorem Hk:∀ds st K,qm ds st K→ds.length=2∧JF {nx:=fun _ st'=>K .aH st',rt:=K} (bf uy ds) st:=by
 rintro ds st K ⟨_,a,n,rfl,⟨p,q,rfl,q0,hp,hq⟩,n0,hn,k⟩
 refine⟨rfl,?_⟩
 refine aJ rfl rfl (aJ rfl rfl (cU (gj (by decide) (by decide)) (aJ rfl rfl (aJ rfl rfl (cU (gj (by omega) (by omega)) ?_)))))
 refine⟨_,_,1000*a,rfl,Int.ne_of_gt (Int.mul_pos q0 n0),by rw[Int.mul_one];omega,?_,k⟩
 rw[Int.natAbs_mul,Nat.mul_comm]
 exact Nat.mul_le_mul (by omega) hq
noncomputable def iS:cJ:=fun ds st K=>∃n,ds=[n]∧K (.tup [n,.int 1]) st
noncomputable def qM:List Str:=["n"]
noncomputable def FY:DS:=(bT (ju (ae (ab 0) (ae (dC (.int 1)) ak))))
theorem Ed:∀ds st K,iS ds st K→ds.length=1∧FY {nx:=fun _ st'=>K .aH st',rt:=K} (bf qM ds) st:=by
 rintro ds st K ⟨n,rfl,k⟩
 exact⟨rfl,Nat.le_of_ble_eq_true rfl,k⟩
structure BM(A:List (List Int))(N w:Nat)(F:List (List Int))(m:Nat)(ld:Nat→Nat):Prop where
 isA:Mx.dc N w A
 uo:Mx.dc m w F
 st:Mx.cN F m w ld
 rd:Mx.sM F m ld
 sm:Mx.e8 A N F m w
 lo:Mx.ja A N 0 (2^42)
 n1:1≤N
 n8:N≤8
 w8:w≤8
noncomputable def mz:cJ:=fun ds st K=>∃(d:D) (A F:List (List Int)) (N w m:Nat) (ld:Nat→Nat) (f:Bool),ds=[d]∧hV st d A∧BM A N w F m ld∧st[0]?=some (gE f)∧∀st',Bk st st'→K (dD F) st'
noncomputable def oq:List Str:=["rows"]
noncomputable def Cb:DS:=(bT (ay bG (aG iD (ae (ab 0) ak)) (dC (.int 0))))
theorem A7:∀ds st K,mz ds st K→ds.length=1∧Cb {nx:=fun _ st'=>K .aH st',rt:=K} (bf oq ds) st:=by
 rintro ds st K ⟨d,A,F,N,w,m,ld,f,rfl,hd,h,h0,k⟩
 have h8:=h.n8
 refine⟨rfl,d,N,w,42,60000000,A,f,rfl,hd,h.isA,h.n1,h8,Nat.le_succ_of_le h.w8,h.lo,Nat.le_refl _,fun p t c hp H=>Mx.kT.v_ h.isA h.lo h8 (fun t ht=>Mx.DG N (Nat.lt_succ_of_le h8) t (Nat.lt_succ_of_le ht)) hp H,h0,fun st' top c hC B=>aJ rfl wI ?_⟩
 obtain⟨ld',s⟩:=hC.Cq h.isA h.lo h8 (Nat.le_refl _)
 rw[s.Ck h.uo h.st h.rd h.sm.to h.sm.of]
 exact k st' B
noncomputable def dA:cJ:=fun ds st K=>∃(d dx dy:D) (A F:List (List Int)) (x y:List Int) (N w m e:Nat) (ld:Nat→Nat) (f:Bool),ds=[d,dx,dy]∧hV st d A∧BM A N w F m ld∧Wd F m w ld∧items? st dx=some (aB x)∧items? st dy=some (aB y)∧x.length=w∧y.length=w∧(∀z∈x,z.natAbs≤2^e)∧(∀z∈y,z.natAbs≤2^e)∧st[0]?=some (gE f)∧∀st' R,Bk st st'→R.length=w→(∀z∈R,z.natAbs≤2^(e+89))→Mx.ji F m w ld (fun c=>x.getD c 0+y.getD c 0) m (fun c=>R.getD c 0)→K (a_ R) st'
noncomputable def mQ:List Str:=["rows","one","other"]
noncomputable def AX:DS:=(bT (aG oQ (ae (aG mz (ae (ab 0) ak)) (ae (aG gu (ae (ab 1) (ae (dC (.int 1)) (ae (ab 2) ak)))) ak))))
theorem Bk.ext{st st1 st2:ai}(B:Bk st st1)(X:Ext st1 st2):Bk st st2:=by
 have l1:=B.le
 obtain⟨f,e⟩:=B.tb
 have l0:=(List.getElem?_eq_some_iff.mp e).1
 exact⟨by have:=X.len;omega,fun m hm h0=>by rw[X.same m (by omega),B.fr m hm h0],f,by rw[X.same 0 l0];exact e⟩
theorem ya{x y:List Int}{e w:Nat}(lx:x.length=w)(ly:y.length=w)(hx:∀z∈x,z.natAbs≤2^e)(hy:∀z∈y,z.natAbs≤2^e):∀z∈Mx.bX x 1 y,z.natAbs≤2^(e+1):=fun z hz=>by
 obtain⟨c,hc,rfl⟩:=List.mem_iff_getElem.mp hz
 have e2:(Mx.bX x 1 y)[c]=(Mx.bX x 1 y).getD c 0:=(Mx.bB hc).symm
 rw[Mx.gw (by omega)]at hc
 rw[e2,Mx.fC (by omega),Int.one_mul,Nat.pow_succ]
 have b1:=hx _ (getD_mem (r:=x) (k:=c) (by omega))
 have b2:=hy _ (getD_mem (r:=y) (k:=c) (by omega))
 have:=Int.natAbs_add_le (x.getD c 0) (y.getD c 0)
 omega
theorem yK:∀ds st K,dA ds st K→ds.length=3∧AX {nx:=fun _ st'=>K .aH st',rt:=K} (bf mQ ds) st:=by
 rintro ds st K ⟨d,dx,dy,A,F,x,y,N,w,m,e,ld,f,rfl,hd,hF,hW,hx,hy,lx,ly,bx,by',h0,k⟩
 refine⟨rfl,d,A,F,N,w,m,ld,f,rfl,hd,hF,h0,fun st1 B1=>?_⟩
 have w8:=hW.w8
 refine⟨_,_,_,x,y,rfl,km h0 B1.fr hx,km h0 B1.fr hy,by omega,fun b _=>gv (by decide) (by decide),?_⟩
 refine⟨_,F,Mx.bX x 1 y,m,w,e+1,ld,rfl,hW,rfl,by rw[Mx.gw (by omega)];exact lx,ya lx ly bx by',fun st2 R X lR bR fl=>?_⟩
 have ee:(fun c=>(Mx.bX x 1 y).getD c 0)=fun c=>x.getD c 0+y.getD c 0:=by
  funext c
  rw[Mx.fC (by omega),Int.one_mul]
 rw[ee]at fl
 exact k st2 R (B1.ext X) lR (by rw[show e+89=e+1+88 by omega];exact bR) fl
noncomputable def Pz:List D→Nat→Prop
 | [],B=>1≤B
 |d::ds,B=>∃b C,Fz b d∧Pz ds C∧b*C≤B
theorem Pz.one:∀ {ds:List D} {B:Nat},Pz ds B→1≤B
 | [],_,h=>h
 |_::_,_,⟨_,_,hb,hC,l⟩=>Nat.le_trans (Nat.mul_le_mul hb.one hC.one) l
theorem Pz.set{b:Nat}{d:D}(hd:Fz b d):∀ {ds:List D} {B k:Nat},Pz ds B→Pz (ds.set k d) (B*b)
 | [],B,k,h=>Nat.le_trans h (Nat.le_mul_of_pos_right _ hd.one)
 |x::ds,B,0,⟨a,C,ha,hC,q⟩=>⟨b,C,hd,hC,by
   rw[Nat.mul_comm b C]
   exact Nat.mul_le_mul_right _ (Nat.le_trans (Nat.le_mul_of_pos_left _ ha.one) q)⟩
 |x::ds,B,k+1,⟨a,C,ha,hC,q⟩=>⟨a,C*b,ha,hC.set hd,by rw[←Nat.mul_assoc];exact Nat.mul_le_mul_right _ q⟩
theorem Pz.rep:∀n:Nat,Pz (List.replicate n (.tup [.int 0,.int 1])) 1
 |0=>Nat.le_refl 1
 |n+1=>⟨1,1,⟨0,1,rfl,by decide,by decide,by decide⟩,Pz.rep n,by decide⟩
noncomputable def jP:cJ:=fun ds st K=>∃(dp dr:D) (ps:List D) (r:List Int) (B:Nat),ds=[dp,dr]∧items? st dp=some ps∧items? st dr=some (aB r)∧Pz ps B∧(∀x∈r,x.natAbs≤1000)∧B*2000^ps.length≤Bg∧∀d,Fz (B*2000^ps.length) d→K d st
noncomputable def md:List Str:=["parts","row","total","one","number"]
noncomputable def yB:DS:=(aK (bp 2 (aG iS (ae (dC (.int 0)) ak)))
 (aK (iG (oC (ae (ab 0) (ae (ab 1) ak))) (iM 3 4) (bp 2 (aG qu (ae (ab 2) (ae (aG oO (ae (ab 3) (ae (aG iS (ae (ab 4) ak)) ak))) ak)))))
 (bT (ab 2))))
theorem yq:∀ds st K,jP ds st K→ds.length=2∧yB {nx:=fun _ st'=>K .aH st',rt:=K} (bf md ds) st:=by
 rintro ds st K ⟨dp,dr,ps,r,B,rfl,hp,hr,hP,hsm,hB,k⟩
 refine⟨rfl,?_⟩
 refine⟨_,rfl,?_⟩
 refine mw hp hr fun ok aM=>?_
 refine gO (fun rest σ st'=>st'=st∧∃(ps':List D) (r':List Int) (tot:D) (T C:Nat) (v3 v4:Option D),rest=f_ ps' (aB r')∧σ=[some dp,some dr,some tot,v3,v4]∧Fz T tot∧Pz ps' C∧(∀x∈r',x∈r)∧T*(C*2000^ps'.length)≤B*2000^ps.length) ?_ ?_ _ _ _ ⟨rfl,ps,r,_,1,B,none,none,rfl,rfl,⟨0,1,rfl,by decide,by decide,by decide⟩,hP,fun _ h=>h,by omega⟩
 · rintro σ st' ⟨rfl,ps',r',tot,T,C,v3,v4,_,rfl,hT,hC,_,hle⟩
   refine⟨aM _ hp hr,k _ (hT.mono ?_)⟩
   exact Nat.le_trans (Nat.le_mul_of_pos_right _ (Nat.mul_pos hC.one (Nat.pow_pos (by decide)))) hle
 · rintro x rest σ st' ⟨rfl,ps',r',tot,T,C,v3,v4,he,rfl,hT,hC,hm,hle⟩ next
   match ps',r',he,hC,hm,hle with
   | [],_,he,_,_,_=>cases he
   |_::_,[],he,_,_,_=>cases he
   |d::ps',n::r',he,⟨b,C',hb,hC',hbC⟩,hm,hle=>
    have hz:f_ (d::ps') (aB (n::r'))= .tup [d,.int n]::f_ ps' (aB r'):=rfl
    rw[hz,List.cons.injEq]at he
    obtain⟨rfl,rfl⟩:=he
    have hn:=hsm n (hm n List.mem_cons_self)
    rw[List.length_cons,Nat.pow_succ]at hle
    have h1:2*(T*(1000*b))*(C'*2000^ps'.length)≤B*2000^ps.length:=by
     refine Nat.le_trans ?_ hle
     have:2*(T*(1000*b))*(C'*2000^ps'.length)=T*((b*C')*(2000^ps'.length*2000)):=by
      generalize 2000^ps'.length=u
      grind
     rw[this]
     exact Nat.mul_le_mul_left _ (Nat.mul_le_mul_right _ hbC)
    have p1:=Nat.mul_pos hC'.one (Nat.pow_pos (n:=ps'.length) (show 0<2000 by decide))
    have h2:2*(T*(1000*b))≤Bg:=Nat.le_trans (Nat.le_trans (Nat.le_mul_of_pos_right _ p1) h1) hB
    have hT1:=hT.one
    have hb1:=hb.one
    have h3:T≤Bg:=Nat.le_trans (by
     have:T*1≤T*(1000*b):=Nat.mul_le_mul_left _ (by omega)
     omega) h2
    have h4:1000*b≤Bg:=Nat.le_trans (by
     have:1*(1000*b)≤T*(1000*b):=Nat.mul_le_mul_right _ hT1
     omega) h2
    refine⟨aM _ hp hr,_,rfl,?_⟩
    refine⟨_,rfl,d,b,n,rfl,hb,hn,fun d2 hd2=>?_⟩
    refine⟨tot,d2,T,1000*b,rfl,hT,hd2,h3,h4,fun d3 hd3=>?_⟩
    exact next _ _ ⟨rfl,ps',r',d3,_,C',_,_,rfl,rfl,hd3,hC',fun x hx=>hm x (List.mem_cons_of_mem _ hx),h1⟩
noncomputable def jQ:cJ:=fun ds st K=>∃(F:List (List Int)) (R:List Int) (m w e l:Nat) (ld:Nat→Nat),ds=[dD F,a_ R,.int l]∧Wd F m w ld∧R.length=w∧l<w∧R.getD l 0≠0∧(∀x∈R,x.natAbs≤2^e)∧∀b:Int,b≠0→b.natAbs≤2^(e+10)→K (.int b) st
noncomputable def lu:List Str:=["form","rest","place","row"]
noncomputable def yV:DS:=(aK (iG (fu (ab 0)) (bW 3) (gc (cy (ay kO (aG eZ (ae (ab 3) ak)) (ab 2))) (bT (ay bG (ab 3) (ab 2))) e7))
 (bT (ay cL (dC (.int 2)) (cm pk (ae (ay bG (ab 1) (ab 2)) ak)))))
theorem xa:∀ds st K,jQ ds st K→ds.length=3∧yV {nx:=fun _ st'=>K .aH st',rt:=K} (bf lu ds) st:=by
 rintro ds st K ⟨F,R,m,w,e,l,ld,rfl,hW,lR,hl,hne,bR,k⟩
 refine⟨rfl,?_⟩
 have lF:=hW.is.len
 have p10:2^(e+10)=2^e*1024:=by rw[Nat.pow_add]
 have pe:1≤2^e:=Nat.pow_pos (by decide)
 refine kj ?_
 refine gO (fun rest σ st'=>st'=st∧∃(i:Nat) (v3:Option D),i≤m∧rest=(F.map a_).drop i∧σ=[some (dD F),some (a_ R),some (.int l),v3]) ?_ ?_ _ _ _ ⟨rfl,0,none,Nat.zero_le _,rfl,rfl⟩
 · rintro σ st' ⟨rfl,i,v3,hi,hrest,rfl⟩
   refine⟨trivial,aJ rfl (gn (by omega)) (qA (cU (gv (by decide) (by decide)) (k _ (by omega) ?_)))⟩
   have:=bR _ (getD_mem (r:=R) (k:=l) (by omega))
   rw[Int.natAbs_mul,Int.natAbs_natCast]
   show 2*_≤_
   omega
 · rintro x rest σ st' ⟨rfl,i,v3,hi,hrest,rfl⟩ next
   obtain⟨hiF,rfl,rfl⟩:=drop_cons hrest
   have him:i<m:=by rw[←lF];exact hiF
   obtain⟨l1,l2,l3,wF,hmem,eld⟩:=hW.lead him
   refine⟨trivial,_,rfl,_,F.getD i [],rfl,rfl,?_⟩
   rw[eld]
   refine eq2 (fun h=>gG ?_) fun h=>next _ _ ⟨rfl,i+1,_,him,rfl,rfl⟩
   have hh:ld i=l:=by omega
   refine aJ rfl (gn (by omega)) (k _ ?_ ?_)
   · rw[←hh];exact Int.ne_of_gt l2
   · rw[←hh]
     show(Mx.g F i (ld i)).natAbs≤_
     omega
noncomputable def gX:cJ:=fun ds st K=>∃(F:List (List Int)) (R:List Int) (m w e c:Nat) (ld:Nat→Nat),ds=[dD F,a_ R]∧Wd F m w ld∧R.length=w∧c<w∧R.getD c 0≠0∧(∀x∈R,x.natAbs≤2^e)∧e≤300∧∀st' ps,Ext st st'→K (.tup ps) st'
noncomputable def i_:List Str:=["form","rest","place","parts","k","lead","owed"]
noncomputable def tH:DS:=(aK (bp 2 (aG eZ (ae (ab 1) ak)))
 (aK (bp 3 (ay rm (qC (ae (aG iS (ae (dC (.int 0)) ak)) ak)) (cm fK (ae (ab 1) ak))))
 (aK (eO (ab 3) (ab 2) (aG ie (ae (dC (.int 1)) (ae (aG jQ (ae (ab 0) (ae (ab 1) (ae (ab 2) ak)))) ak))))
 (aK (iG (uE (ae (ay mM (cm fK (ae (ab 0) ak)) (dC (.int 1))) (ae (nz je (dC (.int 1))) (ae (nz je (dC (.int 1))) ak)))) (bW 4) (aK (bp 5 (aG eZ (ae (ay bG (ab 0) (ab 4)) ak)))
 (gc (cy (ay o3 (ab 5) (ab 2))) (aK (bp 6 (aG oK (ae (aG iS (ae (dC (.int 0)) ak)) (ae (aG jP (ae (ab 3) (ae (ay bG (ab 0) (ab 4)) ak))) ak))))
 (eO (ab 3) (ab 5) (aG qm (ae (ab 6) (ae (aG iS (ae (ay bG (ay bG (ab 0) (ab 4)) (ab 5)) ak)) ak))))) e7)))
 (bT (cm dR (ae (ab 3) ak)))))))
theorem nV(a:Int)(n:Nat):(iB a n).length=n:=by unfold iB;simp
theorem Br{m i:Nat}{d:D}{rest:List D}(hr:d::rest=(iB ((m:Int)-1) m).drop i):i<m∧d= .int ((m-1-i:Nat):Int)∧rest=(iB ((m:Int)-1) m).drop (i+1):=by
 have hi:i<m:=by
  rcases Nat.lt_or_ge i m with h|h
  · exact h
  · rw[List.drop_eq_nil_of_le (by rw[nV];exact h)]at hr;cases hr
 have hl:i<(iB ((m:Int)-1) m).length:=by rw[nV];exact hi
 rw[List.drop_eq_getElem_cons hl]at hr
 obtain⟨h1,h2⟩:=List.cons.inj hr
 refine⟨hi,?_,h2⟩
 have h3:(iB ((m:Int)-1) m)[i]=D.int ((m:Int)-1+(i:Nat)*(-1)):=by simp[iB]
 rw[h1,h3]
 congr 1
 omega
theorem BQ{R:List Int}{c w:Nat}(lR:R.length=w)(hc:c<w)(h:R.getD c 0≠0):∃l,l<w∧R.getD l 0≠0∧jA R= .int (l:Int):=by
 unfold jA
 cases q:kI R with
 |none=>exact absurd (pP R 0 q c) h
 |some l=>
  obtain⟨k,e,hk,hr⟩:=pN R 0 l q
  rw[Nat.zero_add]at e
  subst e
  exact⟨l,by omega,hr,rfl⟩
theorem zh{A:List (List Int)}{k:Nat}(h:k<A.length):eh (A.map a_) (k:Int)=some (a_ (A.getD k [])):=by
 refine iX ?_
 rw[List.getElem?_map,List.getElem?_eq_getElem h,Mx.bB h];rfl
theorem yv{α:Type}(d:α):∀n:Nat,(List.replicate n [d]).flatten=List.replicate n d
 |0=>rfl
 |n+1=>by rw[List.replicate_succ,List.flatten_cons,yv d n,List.replicate_succ];rfl
theorem sE:∀ds st K,gX ds st K→ds.length=2∧tH {nx:=fun _ st'=>K .aH st',rt:=K} (bf i_ ds) st:=by
 rintro ds st K ⟨F,R,m,w,e,c,ld,rfl,hW,lR,hc,hne,bR,he,k⟩
 refine⟨rfl,?_⟩
 have lF:=hW.is.len
 have m8:=hW.m8
 have w8:=hW.w8
 obtain⟨l,hl,hne,el⟩:=BQ lR hc hne
 refine⟨_,R,rfl,rfl,?_⟩
 rw[el]
 refine⟨_,rfl,Nat.le_of_ble_eq_true rfl,d_ rfl (zB ⟨by omega,by rw[List.length_map];omega,cz (by simp;omega)⟩ ?_)⟩
 rw[List.length_map,lR,Int.toNat_natCast,yv]
 have X0:Ext st (st++[.lst (List.replicate w (.tup [.int 0,.int 1]))]):=Ext.push
 have e0:(st++[Cell.lst (List.replicate w (.tup [.int 0,.int 1]))])[st.length]?=some (.lst (List.replicate w (.tup [.int 0,.int 1]))):=by simp
 generalize st++[Cell.lst (List.replicate w (.tup [.int 0,.int 1]))]=st1 at X0 e0⊢
 refine⟨F,R,m,w,e,l,ld,rfl,hW,lR,hl,hne,bR,fun b b0 bb=>?_⟩
 refine⟨_,_,2^(e+10),rfl,b0,Nat.pow_pos (by decide),bb,fun d hd=>?_⟩
 have hix:∀ {n i:Nat},i<n→kM n (i:Int)=some i:=fun{n i} h=>by
  unfold kM
  simp only[Int.natCast_nonneg,Int.toNat_natCast]
  simp[h]
 refine fw e0 (hix (by rw[List.length_replicate];exact hl)) ?_
 have hlt:=(List.getElem?_eq_some_iff.mp e0).1
 refine d_ rfl (mH (iN (iN ?_)))
 rw[List.length_map,lF]
 refine HP ⟨by omega,by omega,by decide,by decide⟩ ?_
 rw[show((m:Int)-1- -1).toNat=m by omega]
 refine gO (fun rest σ st'=>∃(i:Nat) (ps:List D) (B:Nat) (v4 v5 v6:Option D),i≤m∧rest=(iB ((m:Int)-1) m).drop i∧σ=[some (dD F),some (a_ R),some (.int l),some (.ref st.length),v4,v5,v6]∧Ext st st'∧st'[st.length]?=some (.lst ps)∧ps.length=w∧Pz ps B∧B*2^100≤2^(2^i*(e+110))) ?_ ?_ _ _ _ ⟨0,_,_,none,none,none,Nat.zero_le _,rfl,rfl,X0.set (Nat.le_refl _),List.getElem?_set_self hlt,by simp,(Pz.rep w).set hd,by rw[Nat.one_mul,←Nat.pow_add];exact Nat.pow_le_pow_right (by decide) (by omega)⟩
 · rintro σ st' ⟨i,ps,B,v4,v5,v6,hi,hrest,rfl,X,ep,lp,hP,hB⟩
   exact⟨trivial,dv (aI ep) (k st' ps X)⟩
 · rintro x rest σ st' ⟨i,ps,B,v4,v5,v6,hi,hrest,rfl,X,ep,lp,hP,hB⟩ next
   obtain⟨him,rfl,rfl⟩:=Br hrest
   generalize hj:m-1-i=j
   have hjm:j<m:=by omega
   obtain⟨l1,l2,l3,wF,hmem,eld⟩:=hW.lead hjm
   have hat:eh (F.map a_) (j:Int)=some (a_ (F.getD j [])):=zh (by omega)
   refine⟨trivial,_,rfl,aJ rfl hat ⟨_,F.getD j [],rfl,rfl,?_⟩⟩
   rw[eld]
   have big:B*2000^8*1000*2≤B*2^100:=by
    rw[Nat.mul_assoc,Nat.mul_assoc]
    exact Nat.mul_le_mul_left _ (by decide)
   have h2i:2^i≤128:=Nat.le_trans (Nat.pow_le_pow_right (by decide) (show i≤7 by omega)) (by decide)
   have hB2:B*2^100≤Bg:=Nat.le_trans hB (Nat.pow_le_pow_right (by decide) (Nat.le_trans (Nat.mul_le_mul h2i (show e+110≤410 by omega)) (by decide)))
   refine zE (fun hlp=>gG ?_) fun hlp=>next _ _ ⟨i+1,ps,B,_,_,_,him,rfl,rfl,X,ep,lp,hP,Nat.le_trans hB (Nat.pow_le_pow_right (by decide) (Nat.mul_le_mul_right _ (Nat.pow_le_pow_right (by decide) (Nat.le_succ i))))⟩
   have pw:(2000:Nat)^ps.length≤2000^8:=Nat.pow_le_pow_right (by decide) (by omega)
   have hQ:B*2000^ps.length≤B*2000^8:=Nat.mul_le_mul_left _ pw
   refine⟨_,rfl,aJ rfl hat ⟨_,_,ps,F.getD j [],B,rfl,aI ep,rfl,hP,fun x hx=>by have:=hW.sm _ hmem x hx;omega,Nat.le_trans hQ (Nat.le_trans (Nat.mul_le_mul_left _ (by decide)) hB2),fun d1 hd1=>?_⟩⟩
   refine⟨d1,_,rfl,hd1.mono hQ,fun d2 hd2=>?_⟩
   refine aJ rfl hat (aJ rfl (gn (by omega)) ⟨_,rfl,d2,_,_,rfl,hd2,l2,l3,fun d3 hd3=>?_⟩)
   refine fw ep (hix (by omega)) ?_
   have hlt2:=(List.getElem?_eq_some_iff.mp ep).1
   refine next _ _ ⟨i+1,ps.set (ld j) d3,_,_,_,_,him,rfl,rfl,X.set (Nat.le_refl _),List.getElem?_set_self hlt2,by rw[List.length_set];exact lp,hP.set hd3,?_⟩
   have e1:2^(2^(i+1)*(e+110))=2^(2^i*(e+110))*2^(2^i*(e+110)):=by
    rw[←Nat.pow_add];congr 1;rw[Nat.pow_succ,Nat.mul_two,Nat.add_mul]
   rw[e1]
   have e2:B*(1000*(B*2000^8))*2^100≤(B*2^100)*(B*2^100):=by
    have:B*(1000*(B*2000^8))≤B*(B*2^100):=Nat.mul_le_mul_left _ (by omega)
    calc B*(1000*(B*2000^8))*2^100≤B*(B*2^100)*2^100:=Nat.mul_le_mul_right _ this
     _=(B*2^100)*(B*2^100):=by
      generalize 2^100=u
      grind
   exact Nat.le_trans e2 (Nat.mul_le_mul hB hB)
noncomputable def Mz(F:List (List Int))(m w:Nat)(r:List Int)(x:D):Prop:=∃y,(x= .tup [.str "told",y]∧Mx.bM F m w fun c=>r.getD c 0)∨(x= .tup [.str "none",y]∧¬Mx.bM F m w fun c=>r.getD c 0)
noncomputable def nK:cJ:=fun ds st K=>∃(d dr:D) (A F:List (List Int)) (r:List Int) (N w m e:Nat) (ld:Nat→Nat) (f:Bool),ds=[d,dr]∧hV st d A∧BM A N w F m ld∧Wd F m w ld∧items? st dr=some (aB r)∧r.length=w∧(∀x∈r,x.natAbs≤2^e)∧e≤200∧st[0]?=some (gE f)∧∀st' x,Bk st st'→Mz F m w r x→K x st'
noncomputable def o_:List Str:=["rows","row","told","form","fallen"]
noncomputable def DW:DS:=(aK (bp 2 (aG iD (ae (ab 0) ak)))
 (aK (bp 3 (ay bG (ab 2) (dC (.int 0))))
 (aK (bp 4 (aG jq (ae (ab 3) (ae (ab 1) ak))))
 (aK (gc (cy (ay tK (aG eZ (ae (ay bG (ab 4) (dC (.int 1))) ak)) (dC .aH))) (bT (ju (ae (dC (.str "none")) (ae (aG gX (ae (ab 3) (ae (ay bG (ab 4) (dC (.int 1))) ak))) ak)))) e7)
 (bT (ju (ae (dC (.str "told")) (ae (aG nC (ae (ay bG (ab 4) (dC (.int 0))) (ae (t6 (ay bG (ab 2) (dC (.int 1))) q_ (vY (cm fK (ae (ab 3) ak)))) (ae (cm fK (ae (ab 0) ak)) ak)))) ak))))))))
theorem Cu:∀ds st K,nK ds st K→ds.length=2∧DW {nx:=fun _ st'=>K .aH st',rt:=K} (bf o_ ds) st:=by
 rintro ds st K ⟨d,dr,A,F,r,N,w,m,e,ld,f,rfl,hd,h,hW,hr,lr,br,he,h0,k⟩
 have h8:=h.n8
 refine⟨rfl,d,N,w,42,60000000,A,f,rfl,hd,h.isA,h.n1,h8,Nat.le_succ_of_le h.w8,h.lo,Nat.le_refl _,fun p t c hp H=>Mx.kT.v_ h.isA h.lo h8 (fun t ht=>Mx.DG N (Nat.lt_succ_of_le h8) t (Nat.lt_succ_of_le ht)) hp H,h0,fun st1 top c hC B=>?_⟩
 obtain⟨ld',s⟩:=hC.Cq h.isA h.lo h8 (Nat.le_refl _)
 have eF:=s.Ck h.uo h.st h.rd h.sm.to h.sm.of
 have lF:=hW.is.len
 have tm:top=m:=by
  have:=congrArg List.length eF
  rw[List.length_take,s.tn.isA.len,lF]at this
  have:=s.le
  omega
 rw[eF]
 refine aJ rfl rfl ?_
 refine⟨dr,F,r,m,w,e,ld,rfl,hW,km h0 B.fr hr,lr,br,fun st2 ws R X fl=>?_⟩
 have B2:=B.ext X
 refine aJ rfl rfl ⟨_,R,rfl,rfl,?_⟩
 have lR:=fl.lR
 cases el:kI R with
 |some l=>
  have eD:jA R= .int (l:Int):=by unfold jA;rw[el]
  rw[eD]
  obtain⟨q,e1,hq,hne⟩:=pN R 0 l el
  refine C8 rfl (gG (aJ rfl rfl ⟨F,R,m,w,e+88,q,ld,rfl,hW,lR,by omega,hne,fl.bR,by omega,fun st3 ps X3=>⟨Nat.le_of_ble_eq_true rfl,?_⟩⟩))
  exact k st3 _ (B2.ext X3) ⟨_,.inr ⟨rfl,fun z=>hne ((fl.Ij.zero hW.st).mpr z q (by omega))⟩⟩
 |none=>
  have eD:jA R= .aH:=by unfold jA;rw[el]
  rw[eD]
  refine C8 rfl ?_
  have hL:Mx.bM F m w fun c=>r.getD c 0:=(fl.Ij.zero hW.st).mp fun c _=>pP R 0 el c
  have lU:=s.tn.gf.len
  refine aJ rfl rfl (aJ rfl rfl (d_ rfl (CT ?_)))
  rw[List.length_map,lF,CN,←List.map_take]
  obtain⟨da,hda,ra⟩:=hd
  refine d_ (X.items (km h0 B.fr hda)) ?_
  have lda:da.length=N:=by rw[ra.len];exact h.isA.len
  rw[lda]
  refine⟨_,_,N,ws,c.U.take m,rfl,rfl,iw,fun q hq=>s.tn.gf.sr q (List.mem_of_mem_take hq),by omega,fun x hx q hq y hy=>?_,⟨Nat.le_of_ble_eq_true rfl,k st2 _ B2 ⟨_,.inl ⟨rfl,hL⟩⟩⟩⟩
  have hqU:=List.mem_of_mem_take hq
  obtain⟨i,hi,rfl⟩:=List.mem_iff_getElem.mp hq
  have him:i<m:=by rw[List.length_take]at hi;omega
  have hiU:i<c.U.length:=by rw[List.length_take]at hi;omega
  rw[List.getElem_take]at hy
  obtain⟨j,hj,rfl⟩:=List.mem_iff_getElem.mp hy
  have hU:=(s.hi i j (by omega)).2.1
  have eU:Mx.g c.U i j=c.U[i][j]:=by
   unfold Mx.g
   rw[Mx.bB hiU,Mx.bB hj]
  rw[eU]at hU
  have sz:=Mx.DG N (by omega) top (by have:=s.le;omega)
  exact la (fl.bw x hx) hU (by omega)
structure Bx(st:ai)(n:Nat)(b:Int):Prop where
 ex:∃x y z,st[n]?=some (.lst [.int x,.int y,.int z])∧0≤x∧0≤z∧z≤b
structure Upd(st:ai)(n:Nat)(st':ai):Prop where
 len:st'.length=st.length
 same:∀m,m≠n→st'[m]?=st[m]?
theorem Upd.refl{st:ai}{n:Nat}:Upd st n st:=⟨rfl,fun _ _=>rfl⟩
theorem Upd.trans{st st1 st2:ai}{n:Nat}(a:Upd st n st1)(b:Upd st1 n st2):Upd st n st2:=⟨b.len.trans a.len,fun m h=>(b.same m h).trans (a.same m h)⟩
theorem Upd.set{st:ai}{n:Nat}{c:Cell}:Upd st n (st.set n c):=⟨List.length_set,fun m h=>List.getElem?_set_ne (Ne.symm h)⟩
structure XU(st:ai)(n:Nat)(st':ai):Prop where
 len:st.length≤st'.length
 same:∀m,m<st.length→m≠n→st'[m]?=st[m]?
theorem XU.trans{st st1 st2:ai}{n:Nat}(a:XU st n st1)(b:XU st1 n st2):XU st n st2:=⟨Nat.le_trans a.len b.len,fun m h g=>(b.same m (Nat.lt_of_lt_of_le h a.len) g).trans (a.same m h g)⟩
theorem XU.upd{st st1:ai}{n:Nat}(a:Upd st n st1):XU st n st1:=⟨by rw[a.len];exact Nat.le_refl _,fun m _ g=>a.same m g⟩
theorem XU.ext{st st1:ai}{n:Nat}(a:Ext st st1):XU st n st1:=⟨a.len,fun m h _=>a.same m h⟩
theorem XU.set{st st1:ai}{n k:Nat}{c:Cell}(a:XU st n st1)(h:st.length≤k):XU st n (st1.set k c):=⟨by rw[List.length_set];exact a.len,fun m hm g=>by rw[List.getElem?_set_ne (Nat.ne_of_gt (Nat.lt_of_lt_of_le hm h))];exact a.same m hm g⟩
theorem XU.at{st st1:ai}{n k:Nat}{c:Cell}(a:XU st n st1)(e:st[k]?=some c)(h:k≠n):st1[k]?=some c:=(a.same k (List.getElem?_eq_some_iff.mp e).1 h).trans e
theorem Bx.lt{st:ai}{n:Nat}{b:Int}(B:Bx st n b):n<st.length:=by
 obtain⟨_,_,_,e,_⟩:=B.ex
 exact(List.getElem?_eq_some_iff.mp e).1
theorem Bx.cell{st st':ai}{n:Nat}{b:Int}(B:Bx st n b)(e:st'[n]?=st[n]?):Bx st' n b:=by
 obtain⟨x,y,z,e1,r⟩:=B.ex
 exact⟨x,y,z,e.trans e1,r⟩
theorem Bx.mono{st:ai}{n:Nat}{b b':Int}(B:Bx st n b)(l:b≤b'):Bx st n b':=by
 obtain⟨x,y,z,e,h1,h2,h3⟩:=B.ex
 exact⟨x,y,z,e,h1,h2,Int.le_trans h3 l⟩
noncomputable def js:cJ:=fun ds st K=>∃(ns:List Int) (k:Nat),ds=[.lst (ns.map .int),.int k]∧k≤3∧ns.length≤63∧∀st',Bx st' st.length 4000→Ext st st'→K (.ref st.length) st'
noncomputable def kD:List Str:=["_law_script","_law_k","_law_cell"]
noncomputable def x5:DS:=(aK (bp 2 (dC (.int 0)))
 (aK (gc (cy (ay qD (cm fK (ae (ab 0) ak)) (dC (.int 0)))) (bp 2 (ay bG (ab 0) (ay mJ (ab 1) (cm fK (ae (ab 0) ak))))) e7)
 (bT (u9 (ae (ay cL (ab 2) (cm uH (ae (ay zr (ab 2) (ay nN (dC (.int 10)) (dC (.int 18)))) ak))) (ae (ab 2) (ae (ay cL (dC (.int 1009)) (ab 1)) ak)))))))
theorem vJ:∀ds st K,js ds st K→ds.length=2∧x5 {nx:=fun _ st'=>K .aH st',rt:=K} (bf kD ds) st:=by
 rintro ds st K ⟨ns,k,rfl,hk,hl,q⟩
 refine⟨rfl,?_⟩
 have fin:∀c:Int,bT (u9 (ae (ay cL (ab 2) (cm uH (ae (ay zr (ab 2) (ay nN (dC (.int 10)) (dC (.int 18)))) ak))) (ae (ab 2) (ae (ay cL (dC (.int 1009)) (ab 1)) ak))))
  {nx:=fun _ st'=>K .aH st',rt:=K} [some (.lst (ns.map .int)),some (.int k),some (.int c)] st:=by
  intro c
  refine oF ⟨by decide,by decide,by decide⟩ (Lc (GF (cU (gj ?_ ?_) (cU (gv (by decide) (by decide)) ⟨Nat.le_of_ble_eq_true rfl,?_⟩))))
  · split<;>decide
  · split<;>decide
  · refine q _ ⟨_,_,_,by rw[List.getElem?_append_right (Nat.le_refl _),Nat.sub_self];rfl,?_,?_,?_⟩ Ext.push
    · by_cases hc:(10:Int)^(18:Int).toNat≤c
      · have:(0:Int)≤c:=Int.le_trans (by decide) hc
        rw[decide_eq_true hc,if_pos rfl];omega
      · rw[decide_eq_false hc,if_neg Bool.false_ne_true];omega
    · omega
    · omega
 refine d_ rfl (AY ?_)
 rw[List.length_map]
 by_cases h0:(0:Int)<(ns.length:Int)
 · rw[decide_eq_true h0]
   refine gG (d_ rfl (mB (by rw[List.length_map];omega) ?_))
   rw[List.length_map]
   have m1:=Int.fmod_nonneg_of_pos (k:Int) h0
   have m2:=Int.fmod_lt_of_pos (k:Int) h0
   obtain⟨j,ej⟩:=Int.eq_ofNat_of_zero_le m1
   rw[ej]at m2⊢
   exact aJ rfl (gn (r:=ns) (by omega)) (fin _)
 · rw[decide_eq_false h0]
   exact fin 0
noncomputable def bD:cJ:=fun ds st K=>∃(n:Nat) (m b:Int),ds=[.ref n,.int m]∧Bx st n b∧b≤1000000∧0<m∧m<2^62∧∀r st',0≤r→r<m→Bx st' n (b+1)→Upd st n st'→K (.int r) st'
noncomputable def mT:List Str:=["_law_source_here","_law_many","_law_digit","_law_m"]
noncomputable def AF:DS:=(aK (gc (cy (ay qD (ay bG (ab 0) (dC (.int 0))) (dC (.int 0)))) (aK (bp 2 (ay mJ (ay bG (ab 0) (dC (.int 0))) (ab 1)))
 (aK (eO (ab 0) (dC (.int 0)) (ay mf (ay bG (ab 0) (dC (.int 0))) (ab 1)))
 (bT (ab 2)))) e7)
 (aK (eO (ab 0) (dC (.int 2)) (ay iF (ay bG (ab 0) (dC (.int 2))) (dC (.int 1))))
 (aK (bp 3 (ay mJ (ay cL (ay iF (ay iF (ay mJ (ay bG (ab 0) (dC (.int 1))) (dC (.int 2147483647))) (ay cL (dC (.int 65539)) (ay bG (ab 0) (dC (.int 2))))) (dC (.int 11))) (dC (.int 48271))) (dC (.int 2147483629))))
 (aK (bp 3 (ay iF (ay mJ (ay cL (ab 3) (ab 3)) (dC (.int 1999999973))) (ay cL (dC (.int 39373)) (ay bG (ab 0) (dC (.int 2))))))
 (bT (ay mJ (ay mf (ay mJ (ay cL (ab 3) (dC (.int 99991))) (dC (.int 2147483587))) (dC (.int 7))) (ab 1)))))))
theorem uQ{d:D}{σ:bN}{st:ai}{K:DK}(k:K d st):dC d σ st K:=k
theorem yR:∀ds st K,bD ds st K→ds.length=2∧AF {nx:=fun _ st'=>K .aH st',rt:=K} (bf mT ds) st:=by
 rintro ds st K ⟨n,m,b,rfl,⟨x,y,z,e,hx,hz,hb⟩,hb2,hm0,hm1,k⟩
 refine⟨rfl,?_⟩
 have hn:n<st.length:=(List.getElem?_eq_some_iff.mp e).1
 have it:items? st (.ref n)=some [.int x,.int y,.int z]:=aI e
 refine aJ it (by rfl) (Im (fun h=>gG ?_) fun h=>?_)
 · refine aJ it (by rfl) (mB (by omega) (aJ it (by rfl) (m6 (by omega) (qE hm0 hm1) (fw e (by rfl) ?_))))
   refine k _ _ (Int.fmod_nonneg_of_pos _ hm0) (Int.fmod_lt_of_pos _ hm0) ⟨_,_,_,List.getElem?_set_self hn,?_,hz,by omega⟩ Upd.set
   rw[Int.fdiv_eq_ediv_of_nonneg _ (by omega)];exact Int.ediv_nonneg hx (by omega)
 · refine aJ it (by rfl) (gD (fw e (by rfl) ?_))
   have e2:(st.set n (.lst ([D.int x,D.int y,D.int z].set 2 (.int (z+1)))))[n]?=some (.lst [.int x,.int y,.int (z+1)]):=List.getElem?_set_self hn
   have it2:=aI e2
   refine aJ it2 (by rfl) (mB (by decide) (aJ it2 (by rfl) (cU (gv (by decide) (by decide)) ?_)))
   generalize y.fmod 2147483647=y1
   generalize 65539*(z+1)=p
   refine gD (uQ (gD (uQ (cU (gj (by decide) (by decide)) (uQ (mB (by decide) ?_))))))
   have u1:=Int.fmod_nonneg_of_pos ((y1+p+11)*48271) (show(0:Int)<2147483629 by decide)
   have u2:=Int.fmod_lt_of_pos ((y1+p+11)*48271) (show(0:Int)<2147483629 by decide)
   generalize((y1+p+11)*48271).fmod 2147483629=u at u1 u2⊢
   refine cU (gv (by omega) (by omega)) (uQ (mB (by decide) ?_))
   generalize(u*u).fmod 1999999973=u3
   refine aJ it2 (by rfl) (cU (gv (by decide) (by decide)) ?_)
   generalize 39373*(z+1)=p2
   refine gD ?_
   generalize u3+p2=u4
   refine cU (gj (by decide) (by decide)) (uQ (mB (by decide) (uQ (m6 (by decide) (by decide+kernel) (mB (by omega) ?_)))))
   exact k _ _ (Int.fmod_nonneg_of_pos _ hm0) (Int.fmod_lt_of_pos _ hm0) ⟨_,_,_,e2,hx,by omega,by omega⟩ Upd.set
noncomputable def jn:cJ:=fun ds st K=>∃(n:Nat) (b:Int),ds=[.ref n]∧Bx st n b∧b≤900000∧∀r st',r.natAbs≤1000000000000→Bx st' n (b+4)→Upd st n st'→K (.int r) st'
noncomputable def kq:List Str:=["_law_source_here","_law_how"]
noncomputable def x6:DS:=(aK (bp 1 (aG bD (ae (ab 0) (ae (dC (.int 40)) ak))))
 (aK (gc (cy (ay o3 (ab 1) (dC (.int 32)))) (bT (ay mM (aG bD (ae (ab 0) (ae (dC (.int 7)) ak))) (dC (.int 3)))) e7)
 (aK (gc (cy (ay o3 (ab 1) (dC (.int 39)))) (bT (ay mM (aG bD (ae (ab 0) (ae (dC (.int 41)) ak))) (dC (.int 20)))) e7)
 (bT (ay cL (ay iF (ay cL (aG bD (ae (ab 0) (ae (ay nN (dC (.int 10)) (dC (.int 6))) ak))) (ay nN (dC (.int 10)) (dC (.int 6)))) (aG bD (ae (ab 0) (ae (ay nN (dC (.int 10)) (dC (.int 6))) ak)))) (ay mM (dC (.int 1)) (ay cL (dC (.int 2)) (aG bD (ae (ab 0) (ae (dC (.int 2)) ak))))))))))
theorem vL:∀ds st K,jn ds st K→ds.length=1∧x6 {nx:=fun _ st'=>K .aH st',rt:=K} (bf kq ds) st:=by
 rintro ds st K ⟨n,b,rfl,B,hb,k⟩
 refine⟨rfl,?_⟩
 refine⟨n,40,b,rfl,B,by omega,by decide,by decide,fun r0 st0 a0 a1 B0 U0=>?_⟩
 refine zE (fun _=>gG ?_) fun _=>?_
 · exact⟨n,7,_,rfl,B0,by omega,by decide,by decide,fun r1 st1 c0 c1 B1 U1=>mH (k _ _ (by omega) (B1.mono (by omega)) (U0.trans U1))⟩
 refine zE (fun _=>gG ?_) fun _=>?_
 · exact⟨n,41,_,rfl,B0,by omega,by decide,by decide,fun r1 st1 c0 c1 B1 U1=>mH (k _ _ (by omega) (B1.mono (by omega)) (U0.trans U1))⟩
 have e6:(10:Int)^(6:Int).toNat=1000000:=by decide
 refine oF ⟨by decide,by decide,by decide⟩ ?_
 rw[e6]
 refine⟨n,_,_,rfl,B0,by omega,by decide,by decide,fun r1 st1 c0 c1 B1 U1=>oF ⟨by decide,by decide,by decide⟩ ?_⟩
 rw[e6]
 refine cU (gj (by decide) (by decide)) (oF ⟨by decide,by decide,by decide⟩ ?_)
 rw[e6]
 refine⟨n,_,_,rfl,B1,by omega,by decide,by decide,fun r2 st2 d0 d1 B2 U2=>gD ?_⟩
 refine⟨n,2,_,rfl,B2,by omega,by decide,by decide,fun r3 st3 f0 f1 B3 U3=>cU (gv (by decide) (by decide)) (mH (cU (gj (by omega) (by omega)) ?_))⟩
 refine k _ _ ?_ (B3.mono (by omega)) (((U0.trans U1).trans U2).trans U3)
 have:r3=0∨r3=1:=by omega
 rcases this with rfl|rfl<;>omega
noncomputable def jr:cJ:=fun ds st K=>∃(n:Nat) (b:Int) (d:D) (A:List (List Int)) (N w M:Nat),ds=[.ref n,d]∧Bx st n b∧b≤900000∧hV st d A∧Mx.dc N w A∧1≤N∧N≤8∧w≤8∧(∀r∈A,∀x∈r,x.natAbs≤M)∧∀B st',Mx.jL A N w (M*8^6) B N→Bx st' n (b+30)→XU st n st'→K (dD B) st'
noncomputable def kK:List Str:=["_law_source_here","_law_rows","_law_made","_law_k","_law_i","_law_j","_law_how","_law_by"]
noncomputable def xn:DS:=(aK (bp 2 (mj (fu (ab 1)) [none] (bW 0) cT (cm g_ (ae (ab 0) ak))))
 (aK (iG (eV (ae (aG bD (ae (ab 0) (ae (dC (.int 7)) ak))) ak)) (bW 3) (aK (bp 4 (aG bD (ae (ab 0) (ae (cm fK (ae (ab 2) ak)) ak))))
 (aK (bp 5 (aG bD (ae (ab 0) (ae (cm fK (ae (ab 2) ak)) ak))))
 (aK (bp 6 (aG bD (ae (ab 0) (ae (dC (.int 4)) ak))))
 (gc (cy (ay kO (ab 4) (ab 5))) (eO (ab 2) (ab 4) (dP (fu (ay bG (ab 2) (ab 4))) [none] (bW 0) cT (nz je (ab 0)))) (gc (cy (ay kO (ab 6) (dC (.int 0)))) (zP (uu (qW (ab 2) (ab 4)) (qW (ab 2) (ab 5))) (ju (ae (ay bG (ab 2) (ab 5)) (ae (ay bG (ab 2) (ab 4)) ak)))) (aK (bp 7 (ay bG (qC (ae (dC (.int 1)) (ae (nz je (dC (.int 1))) (ae (dC (.int 2)) (ae (nz je (dC (.int 2))) ak))))) (aG bD (ae (ab 0) (ae (dC (.int 4)) ak)))))
 (eO (ab 2) (ab 4) (dP (oC (ae (ay bG (ab 2) (ab 4)) (ae (ay bG (ab 2) (ab 5)) ak))) [none,none,some 7] (iM 0 1) cT (ay iF (ab 0) (ay cL (ab 2) (ab 1))))))))))))
 (bT (cm dR (ae (dP (fu (ab 2)) [none] (bW 0) cT (cm dR (ae (ab 0) ak))) ak)))))
theorem nt{A:List (List Int)}{k:Nat}(h:k<A.length):eh (A.map ba) (k:Int)=some (ba (A.getD k [])):=by
 refine iX ?_
 rw[List.getElem?_map,List.getElem?_eq_getElem h,Mx.bB h];rfl
theorem pE{T:List (List Int)}{l:Nat}{r:List Int}:(T.map ba).set l (ba r)=(T.set l r).map ba:=by rw[List.map_set]
theorem vQ:∀ds st K,jr ds st K→ds.length=2∧xn {nx:=fun _ st'=>K .aH st',rt:=K} (bf kK ds) st:=by
 rintro ds st K ⟨n,b,d,A,N,w,M,rfl,B,hb,⟨da,hd,ra⟩,hA,hN1,hN8,hw,hbd,k⟩
 refine⟨rfl,?_⟩
 have hn:=B.lt
 have hnL:st.length≠n:=Nat.ne_of_gt hn
 have lA:=ra.len
 have lAN:=hA.len
 refine mF hd fun ok aM=>⟨cz (by omega),?_⟩
 refine gW ba aM ra (fun d r hr he K' q=>⟨_,rfl,gQ he q⟩) ?_
 refine⟨n,7,b,rfl,B.cell (List.getElem?_append_left hn),by omega,by decide,by decide,fun r0 st1 z0 z1 B1 U1=>?_⟩
 obtain⟨T,rfl⟩:=Int.eq_ofNat_of_zero_le z0
 refine gq ⟨by omega,by omega⟩ ?_
 rw[Int.toNat_natCast]
 have e1:st1[st.length]?=some (.lst (A.map ba)):=(U1.same _ hnL).trans (by rw[List.getElem?_append_right (Nat.le_refl _),Nat.sub_self];rfl)
 have X1:XU st n st1:=(XU.ext Ext.push).trans (XU.upd U1)
 refine jf T (fun j σ st'=>∃(X:List (List Int)) (v3 v4 v5 v6 v7:Option D),σ=[some (.ref n),some d,some (.ref st.length),v3,v4,v5,v6,v7]∧st'[st.length]?=some (.lst (X.map ba))∧Mx.jL A N w (M*8^j) X N∧Bx st' n (b+1+4*j)∧XU st n st') ?_ ?_ ⟨A,none,none,none,none,none,rfl,e1,⟨hA,hN1,hN8,fun r hr x hx=>by rw[Nat.pow_zero,Nat.mul_one];exact hbd r hr x hx,Mx.e8.refl _ _ _⟩,B1.mono (by simp),X1⟩
 · rintro σ st' ⟨X,v3,v4,v5,v6,v7,rfl,e,M',B',X'⟩
   have lX:=M'.is.len
   refine mF (aI e) fun ok aM=>⟨cz (by rw[List.length_map];omega),?_⟩
   refine gW a_ aM cg.lst (fun d r hr he K' q=>⟨_,rfl,dv he q⟩) (dv rfl ?_)
   exact k X st' (M'.more (Nat.mul_le_mul_left _ (Nat.pow_le_pow_right (by decide) (by omega)))) (B'.mono (by omega)) X'
 · rintro j σ st2 rest hj ⟨X,v3,v4,v5,v6,v7,rfl,e,M',B2,X2⟩ next
   refine⟨_,rfl,?_⟩
   have lX:=M'.is.len
   have lM:(X.map ba).length=N:=by rw[List.length_map,lX]
   refine d_ (aI e) ⟨n,_,_,rfl,B2,by omega,by omega,by omega,fun rk st3 a0 a1 B3 U3=>?_⟩
   obtain⟨kk,rfl⟩:=Int.eq_ofNat_of_zero_le a0
   have hk:kk<N:=by omega
   have e3:=(U3.same _ hnL).trans e
   refine d_ (aI e3) ⟨n,_,_,rfl,B3,by omega,by omega,by omega,fun ro st4 c0 c1 B4 U4=>?_⟩
   obtain⟨o,rfl⟩:=Int.eq_ofNat_of_zero_le c0
   have ho:o<N:=by omega
   have e4:=(U4.same _ hnL).trans e3
   refine⟨n,4,_,rfl,B4,by omega,by decide,by decide,fun way st5 w0 w1 B5 U5=>?_⟩
   have e5:=(U5.same _ hnL).trans e4
   have X5:XU st n st5:=X2.trans (XU.upd ((U3.trans U4).trans U5))
   have l5:=(List.getElem?_eq_some_iff.mp e5).1
   clear U3 U4 U5 e e3 e4 B2 B3 B4
   have pj:M*8^(j+1)=M*8^j*8:=by rw[Nat.pow_succ,Nat.mul_assoc]
   have M1:Mx.jL A N w (M*8^(j+1)) X N:=M'.more (by omega)
   have wk:=M'.is.row hk
   have wo:=M'.is.row ho
   have B6:Bx st5 n (b+1+4*((j+1:Nat):Int)):=B5.mono (by omega)
   refine eq2 (fun heq=>gG ?_) fun hne=>?_
   · refine aJ (aI e5) (nt (by omega)) (va ⟨cz (by rw[List.length_map];omega),?_⟩)
     refine comp_map (g:=fun x=>match x with| .int a=> .int (-a)|_=> .aH) trivial _ (fun x hx K' q=>?_) ?_
     · unfold aB at hx
       obtain⟨a,_,rfl⟩:=List.mem_map.mp hx
       exact⟨_,rfl,iN q⟩
     have en:(aB (X.getD kk [])).map (fun x=>match x with| .int a=> .int (-a)|_=> .aH)=aB ((X.getD kk []).map fun x=> -x):=by unfold aB;rw[List.map_map,List.map_map];rfl
     rw[en]
     refine fw e5 (nM (by omega) (by omega)) ?_
     rw[Int.toNat_natCast]
     exact next _ _ ⟨_,_,_,_,_,_,rfl,(List.getElem?_set_self l5).trans (congrArg (fun x=>some (Cell.lst x)) pE),M1.neg hk,B6.cell (List.getElem?_set_ne hnL),X5.set (Nat.le_refl _)⟩
   refine eq2 (fun h0=>gG ?_) fun h0=>?_
   · refine aJ (aI e5) (nt (by omega)) (aJ (aI e5) (nt (by omega)) ⟨Nat.le_of_ble_eq_true rfl,?_⟩)
     refine fw e5 (nM (by omega) (by omega)) ?_
     rw[Int.toNat_natCast,pE]
     refine fw (List.getElem?_set_self l5) (nM (by omega) (by rw[List.length_map,List.length_set];omega)) ?_
     rw[Int.toNat_natCast,pE,List.set_set]
     exact next _ _ ⟨_,_,_,_,_,_,rfl,List.getElem?_set_self l5,M1.swap hk ho,B6.cell (List.getElem?_set_ne hnL),X5.set (Nat.le_refl _)⟩
   refine iN (iN ⟨Nat.le_of_ble_eq_true rfl,n,4,_,rfl,B5,by omega,by decide,by decide,fun q st6 q0 q1 B6 U6=>?_⟩)
   have e6:=(U6.same _ hnL).trans e5
   have l6:=(List.getElem?_eq_some_iff.mp e6).1
   obtain⟨c,ec,hc⟩:∃c:Int,eh [D.int 1,.int (-1),.int 2,.int (-2)] q=some (.int c)∧c.natAbs≤7:=by
    have:q=0∨q=1∨q=2∨q=3:=by omega
    rcases this with rfl|rfl|rfl|rfl
    · exact⟨1,rfl,by decide⟩
    · exact⟨-1,rfl,by decide⟩
    · exact⟨2,rfl,by decide⟩
    · exact⟨-2,rfl,by decide⟩
   refine aJ rfl ec ?_
   refine aJ (aI e6) (nt (by omega)) (aJ (aI e6) (nt (by omega)) ?_)
   refine mw rfl rfl fun ok aM=>⟨cz (by rw[jZ,List.length_map,List.length_map];omega),?_⟩
   refine comp_map (g:=fun d=>match d with| .tup [.int x,.int y]=> .int (x+c*y)|_=> .aH) (aM st6 rfl rfl) _ (fun d hd K' q=>?_) ?_
   · obtain⟨x,y,_,_,rfl⟩:=kZ hd
     exact⟨_,rfl,cU (gv (by omega) (by omega)) (gD q)⟩
   have ea:(f_ (aB (X.getD kk [])) (aB (X.getD o []))).map (fun d=>match d with| .tup [.int x,.int y]=> .int (x+c*y)|_=> .aH)=aB (Mx.bX (X.getD kk []) c (X.getD o [])):=nO _ _
   rw[ea]
   refine fw e6 (nM (by omega) (by omega)) ?_
   rw[Int.toNat_natCast]
   refine next _ _ ⟨_,_,_,_,_,_,rfl,(List.getElem?_set_self l6).trans (congrArg (fun x=>some (Cell.lst x)) pE),?_,(B6.cell (List.getElem?_set_ne hnL)).mono (by omega),(X5.trans (XU.upd U6)).set (Nat.le_refl _)⟩
   rw[pj]
   exact M'.add hk ho (by omega) hc
noncomputable def kL:cJ:=fun ds st K=>∃(n lc:Nat) (b:Int) (ls:List Int) (w:Nat),ds=[.ref n,.ref lc]∧Bx st n b∧b≤900000∧st[lc]?=some (.lst (aB ls))∧lc≠n∧ls.length=w∧w≤8∧(∀x∈ls,1≤x∧x≤216)∧∀(G:List (List Int)) st',G.length=w→(∀k,k<w→Mx.UR ls w k (G.getD k []))→st'[st.length]?=some (.lst (G.map a_))→Bx st' n (b+64)→XU st n st'→K (.ref st.length) st'
noncomputable def mZ:List Str:=["_law_source_here","_law_leads_here","_law_form_here","_law_i","_law_row_here","_law_j"]
noncomputable def AG:DS:=(aK (bp 2 (u9 ak))
 (aK (iG (eV (ae (cm fK (ae (ab 1) ak)) ak)) (bW 3) (aK (bp 4 (ay ux (ay cL (qC (ae (dC (.int 0)) ak)) (ab 3)) (qC (ae (ay bG (ab 1) (ab 3)) ak))))
 (aK (iG (oY (ae (ay iF (ab 3) (dC (.int 1))) (ae (cm fK (ae (ab 1) ak)) ak))) (bW 5) (jX (kQ (ab 4) (aG bD (ae (ab 0) (ae (ay bG (ab 1) (ab 5)) ak))))))
 (jX (kQ (ab 2) (cm dR (ae (ab 4) ak)))))))
 (bT (ab 2))))
theorem nk{α:Type}{l:List α}{x d:α}(k:Nat):(l++[x]).getD k d=if k<l.length then l.getD k d else if k=l.length then x else d:=by
 rw[List.getD_eq_getElem?_getD,List.getD_eq_getElem?_getD]
 by_cases h:k<l.length
 · rw[if_pos h,List.getElem?_append_left h]
 · rw[if_neg h,List.getElem?_append_right (Nat.le_of_not_lt h)]
   by_cases h2:k=l.length
   · rw[if_pos h2,h2,Nat.sub_self];rfl
   · rw[if_neg h2,List.getElem?_eq_none (by rw[List.length_singleton];omega)];rfl
theorem zS{tg:fz}{body:DS}{E:kv}{a:Int}(n:Nat)(I:Nat→bN→ai→Prop)(hend:∀σ st,I n σ st→E.nx σ st)
 (hstep:∀(j:Nat) σ st (rest:List D),j<n→I j σ st→(∀σ' st',I (j+1) σ' st'→fD tg body (fun _=>True) E rest σ' st')→∃σ1,tg (.int (a+(j:Int))) σ=some σ1∧body {E with nx:=fD tg body (fun _=>True) E rest,ct:=fD tg body (fun _=>True) E rest,bk:=E.nx} σ1 st)
 {σ:bN} {st:ai} (h0:I 0 σ st):fD tg body (fun _=>True) E (dS a n) σ st:=by
 refine gO (fun rest σ st=>∃j:Nat,j≤n∧rest=(List.range (n-j)).map (fun i=>D.int (a+((j+i:Nat):Int)))∧I j σ st) ?_ ?_ _ _ _ ⟨0,Nat.zero_le _,by unfold dS;simp,h0⟩
 · rintro σ st ⟨j,hj,hr,hI⟩
   have:n-j=0:=by
    cases q:n-j with
    |zero=>rfl
    |succ m=>rw[q,List.range_succ_eq_map]at hr;cases hr
   have e:j=n:=by omega
   subst e
   exact⟨trivial,hend _ _ hI⟩
 · rintro d rest σ st ⟨j,hj,hr,hI⟩ next
   cases q:n-j with
   |zero=>rw[q]at hr;cases hr
   |succ m=>
    rw[q,List.range_succ_eq_map,List.map_cons,List.map_map]at hr
    simp only[List.cons.injEq]at hr
    obtain⟨rfl,hrest⟩:=hr
    obtain⟨σ1,e1,hb⟩:=hstep j σ st rest (by omega) hI fun σ' st' h=>next σ' st' ⟨j+1,by omega,by
     have:n-(j+1)=m:=by omega
     rw[this,hrest]
     refine List.map_congr_left fun i _=>?_
     show D.int (a+((j+(i+1):Nat):Int))=D.int (a+((j+1+i:Nat):Int))
     congr 2;omega,h⟩
    exact⟨trivial,σ1,e1,hb⟩
theorem yS:∀ds st K,kL ds st K→ds.length=2∧AG {nx:=fun _ st'=>K .aH st',rt:=K} (bf mZ ds) st:=by
 rintro ds st K ⟨n,lc,b,ls,w,rfl,B,hb,el,hln,hw,w8,hls,k⟩
 refine⟨rfl,?_⟩
 have hn:=B.lt
 have hnf:st.length≠n:=Nat.ne_of_gt hn
 have hlc:lc<st.length:=(List.getElem?_eq_some_iff.mp el).1
 refine⟨Nat.le_of_ble_eq_true rfl,?_⟩
 have X0:XU st n (st++[Cell.lst []]):=XU.ext Ext.push
 refine d_ (aI (X0.at el hln)) ?_
 rw[List.length_map,hw]
 refine gq ⟨by omega,by omega⟩ ?_
 rw[Int.toNat_natCast]
 refine jf w (fun i σ st'=>∃(G:List (List Int)) (v3 v4 v5:Option D),σ=[some (.ref n),some (.ref lc),some (.ref st.length),v3,v4,v5]∧G.length=i∧(∀k,k<i→Mx.UR ls w k (G.getD k []))∧st'[st.length]?=some (.lst (G.map a_))∧Bx st' n (b+8*i)∧XU st n st') ?_ ?_ ⟨[],none,none,none,rfl,rfl,fun k hk=>absurd hk (Nat.not_lt_zero _),by rw[List.getElem?_append_right (Nat.le_refl _),Nat.sub_self];rfl,(B.cell (List.getElem?_append_left hn)).mono (by simp),X0⟩
 · rintro σ st' ⟨G,v3,v4,v5,rfl,hG,hU,e,B',X'⟩
   exact k G st' hG hU e (B'.mono (by omega)) X'
 · rintro i σ st1 rest hi ⟨G,v3,v4,v5,rfl,hG,hU,e,B1,X1⟩ next
   refine⟨_,rfl,?_⟩
   have hlsi:i<ls.length:=by omega
   have e1:=X1.at el hln
   have hf1:=(List.getElem?_eq_some_iff.mp e).1
   have hn1:=B1.lt
   refine Jo (Nat.le_of_ble_eq_true rfl) (zD ⟨by omega,by omega,cz (by simp;omega)⟩ ?_)
   rw[Int.toNat_natCast,kY]
   refine aJ (aI e1) (gn hlsi) ⟨Nat.le_of_ble_eq_true rfl,FZ (cz (by simp;omega)) ?_⟩
   rw[ints_app]
   have X2:XU st n (st1++[Cell.lst (aB (List.replicate i 0++[ls.getD i 0]))]):=X1.trans (XU.ext Ext.push)
   refine gD (d_ (aI (X2.at el hln)) ?_)
   rw[List.length_map,hw]
   refine zf ⟨by omega,by omega,by omega,by omega⟩ ?_
   have ew:((w:Int)-((i:Int)+1)).toNat=w-(i+1):=by omega
   rw[ew]
   refine zS (w-(i+1)) (fun t σ st'=>∃(r:List Int) (v5:Option D),σ=[some (.ref n),some (.ref lc),some (.ref st.length),some (.int (i:Int)),some (.ref st1.length),v5]∧st'[st1.length]?=some (.lst (aB r))∧r.length=i+1+t∧(∀c,c<i→r.getD c 0=0)∧r.getD i 0=ls.getD i 0∧(∀c,i<c→c<i+1+t→0≤r.getD c 0∧r.getD c 0<ls.getD c 0)∧st'[st.length]?=some (.lst (G.map a_))∧Bx st' n (b+8*i+t)∧XU st n st') ?_ ?_ ⟨List.replicate i 0++[ls.getD i 0],v5,rfl,by rw[List.getElem?_append_right (Nat.le_refl _),Nat.sub_self];rfl,by simp,fun c hc=>?_,?_,fun c h1 h2=>absurd h2 (by omega),(List.getElem?_append_left hf1).trans e,(B1.cell (List.getElem?_append_left hn1)).mono (by simp),X2⟩
   · rintro σ st' ⟨r,v5,rfl,er,lr,r1,r2,r3,ef,B',X'⟩
     refine wC (by rfl) ef (dv (aI er) (uR ef (by rw[sizeLine_eq,List.length_map];omega) ?_))
     have hf':=(List.getElem?_eq_some_iff.mp ef).1
     refine next _ _ ⟨G++[r],_,_,_,rfl,by rw[List.length_append,hG];rfl,fun k hk=>?_,by rw[List.getElem?_set_self hf',xv],(B'.cell (List.getElem?_set_ne hnf)).mono (by omega),X'.set (Nat.le_refl _)⟩
     rw[nk,hG]
     by_cases h:k<i
     · rw[if_pos h];exact hU k h
     · have:k=i:=by omega
       subst this
       rw[if_neg h,if_pos rfl]
       exact⟨by omega,r1,r2,fun c h1 h2=>r3 c h1 (by omega)⟩
   · rintro t σ st' rest' ht ⟨r,v5,rfl,er,lr,r1,r2,r3,ef,B',X'⟩ next'
     refine⟨_,rfl,?_⟩
     have hj:i+1+t<ls.length:=by omega
     have elj:eh (aB ls) ((i:Int)+1+(t:Int))=some (.int (ls.getD (i+1+t) 0)):=gn hj
     have hx:ls.getD (i+1+t) 0∈ls:=getD_mem hj
     have hb':=hls _ hx
     refine wC (by rfl) er (aJ (aI (X'.at el hln)) elj ⟨n,_,_,rfl,B',by omega,by omega,by omega,fun x st2 x0 x1 B2 U2=>?_⟩)
     have l1:st1.length≠n:=Nat.ne_of_gt hn1
     have er2:=(U2.same _ l1).trans er
     have hl2:=(List.getElem?_eq_some_iff.mp er2).1
     refine uR er2 (by rw[sizeLine_eq,List.length_map];omega) ?_
     have ne:st1.length≠st.length:=by omega
     refine next' _ _ ⟨r++[x],_,rfl,by rw[List.getElem?_set_self hl2,ints_app],by rw[List.length_append,lr];rfl,fun c hc=>?_,?_,fun c h1 h2=>?_,(List.getElem?_set_ne ne).trans ((U2.same _ hnf).trans ef),(B2.cell (List.getElem?_set_ne l1)).mono (by omega),(X'.trans (XU.upd U2)).set X1.len⟩
     · rw[nk,if_pos (by omega)];exact r1 c hc
     · rw[nk,if_pos (by omega)];exact r2
     · rw[nk,lr]
       by_cases h:c<i+1+t
       · rw[if_pos h];exact r3 c h1 h
       · have:c=i+1+t:=by omega
         subst this
         rw[if_neg h,if_pos rfl];exact⟨x0,x1⟩
   · rw[nk,List.length_replicate,if_pos hc];exact Mx.dw _ _
   · rw[nk,List.length_replicate,if_neg (Nat.lt_irrefl i),if_pos rfl]
noncomputable def jC:cJ:=fun ds st K=>∃(d dr:D) (F:List (List Int)) (r:List Int) (m w:Nat) (ld:Nat→Nat),ds=[d,dr]∧hV st d F∧Mx.dc m w F∧Mx.cN F m w ld∧w≤8∧(∀x∈F,∀y∈x,0≤y∧y≤1000)∧items? st dr=some (aB r)∧r.length=w∧∀R:List Int,R.length=w→Mx.ji F m w ld (fun c=>r.getD c 0) m (fun c=>R.getD c 0)→K (a_ R) st
noncomputable def m5:List Str:=["_law_form_here","_law_row_here","_law_rest","_law_step","_law_lead","_law_many"]
noncomputable def A8:DS:=(aK (bp 2 (cm g_ (ae (ab 1) ak)))
 (aK (iG (fu (ab 0)) (bW 3) (aK (bp 4 (ay bG (dP (eV (ae (cm fK (ae (ab 3) ak)) ak)) [none,some 3] (bW 0) (cy (ay qb (ay bG (ab 1) (ab 0)) (dC (.int 0)))) (ab 0)) (dC (.int 0))))
 (aK (bp 5 (ay mf (ay bG (ab 2) (ab 4)) (ay bG (ab 3) (ab 4))))
 (bp 2 (dP (oC (ae (ab 2) (ae (ab 3) ak))) [none,none,some 5] (iM 0 1) cT (ay mM (ab 0) (ay cL (ab 2) (ab 1))))))))
 (bT (cm dR (ae (ab 2) ak)))))
theorem tE:∀(r:List Int) (i:Nat),gK r (i+1)=(gK r i).map (· +1)
 | [],_=>rfl
 |x::r,i=>by
  unfold gK
  split
  · exact tE r (i+1)
  · rfl
theorem si:∀r:List Int,((List.range r.length).filter fun j=>decide (r.getD j 0≠0)).head?=kI r
 | []=>rfl
 |x::r=>by
  have ih:=si r
  rw[List.length_cons,List.range_succ_eq_map,List.filter_cons]
  by_cases h:x=0
  · have h1:decide ((x::r).getD 0 0≠0)=false:=by simpa using h
    rw[h1,if_neg Bool.false_ne_true,List.filter_map,List.head?_map]
    have e:(fun j=>decide ((x::r).getD j 0≠0))∘Nat.succ=fun j=>decide (r.getD j 0≠0):=by
     funext j
     simp
    rw[e,ih]
    unfold kI
    conv=>rhs;unfold gK
    rw[if_pos h,tE]
  · have h1:decide ((x::r).getD 0 0≠0)=true:=by simpa using h
    rw[h1,if_pos rfl,List.head?_cons]
    unfold kI gK
    rw[if_neg h]
theorem yY{n:Nat}{p:Nat→Bool}{c:DT}{te:DE}{σc:bN}{st:ai}{K:List D→ai→Prop}(h:∀i:Nat,i<n→∃σ2,bW 0 (.int (i:Int)) σc=some σ2∧(∀K',K' (p i) st→c σ2 st K')∧∀K',K' (.int (i:Int)) st→te σ2 st K')(k:K (((List.range n).filter p).map fun(j:Nat)=>D.int (j:Int)) st):dW (bW 0) c te (fun _=>True) σc (dS 0 n) [] st K:=by
 refine iL (fun rest acc st'=>st'=st∧∃j:Nat,j≤n∧rest=(List.range (n-j)).map (fun i=>D.int (((j+i:Nat):Int)))∧acc=((List.range j).filter p).map fun(j:Nat)=>D.int (j:Int)) ?_ ?_ _ _ _ ⟨rfl,0,Nat.zero_le _,by unfold dS;simp,rfl⟩
 · rintro acc st' ⟨rfl,j,hj,hr,rfl⟩
   have:n-j=0:=by
    cases q:n-j with
    |zero=>rfl
    |succ m=>rw[q,List.range_succ_eq_map]at hr;cases hr
   have hjn:j=n:=by omega
   subst hjn
   exact⟨trivial,k⟩
 · rintro d rest acc st' ⟨rfl,j,hj,hr,rfl⟩ next
   cases q:n-j with
   |zero=>rw[q]at hr;cases hr
   |succ m=>
    rw[q,List.range_succ_eq_map,List.map_cons,List.map_map]at hr
    simp only[List.cons.injEq]at hr
    obtain⟨rfl,hrest⟩:=hr
    obtain⟨σ2,e2,hc,ht⟩:=h j (by omega)
    have hrest':rest=(List.range (n-(j+1))).map (fun i=>D.int (((j+1+i:Nat):Int))):=by
     have:n-(j+1)=m:=by omega
     rw[this,hrest]
     refine List.map_congr_left fun i _=>?_
     show D.int (((j+(i+1):Nat):Int))=D.int (((j+1+i:Nat):Int))
     congr 2;omega
    refine⟨trivial,σ2,e2,hc _ ?_⟩
    cases ep:p j with
    |false=>
     refine next _ _ ⟨rfl,j+1,by omega,hrest',?_⟩
     rw[List.range_succ,List.filter_append,List.map_append]
     simp[ep]
    |true=>
     refine gG (ht _ (next _ _ ⟨rfl,j+1,by omega,hrest',?_⟩))
     rw[List.range_succ,List.filter_append,List.map_append]
     simp[ep]
theorem xM{t:Int}:∀(r s:List Int),(f_ (aB r) (aB s)).map (fun d=>match d with| .tup [.int a,.int b]=> .int (a-t*b)|_=> .aH)=aB (Mx.bX r (-t) s)
 | [],_=>rfl
 |_::_,[]=>rfl
 |a::r,b::s=>by
  have:=xM (t:=t) r s
  unfold f_ Mx.bX at this⊢
  simp only[aB,List.map_cons,List.zip_cons_cons,List.zipWith_cons_cons]at this⊢
  rw[this,Int.neg_mul]
  congr 2
theorem Dt{tg:fz}{body:DS}{ok:ai→Prop}{E:kv}{st:ai}{ds:List D}{F:List (List Int)}(aM:ok st)(ra:cg st ds F)(I:Nat→bN→Prop)(hend:∀σ,I F.length σ→E.nx σ st)
 (hstep:∀(i:Nat) (d:D) (σ:bN) (rest:List D),i<F.length→items? st d=some (aB (F.getD i []))→I i σ→(∀σ',I (i+1) σ'→fD tg body ok E rest σ' st)→∃σ1,tg d σ=some σ1∧body {E with nx:=fD tg body ok E rest,ct:=fD tg body ok E rest,bk:=E.nx} σ1 st)
 {σ:bN} (h0:I 0 σ):fD tg body ok E ds σ st:=by
 refine gO (fun rest σ st'=>st'=st∧∃i:Nat,i≤F.length∧rest=ds.drop i∧I i σ) ?_ ?_ _ _ _ ⟨rfl,0,Nat.zero_le _,rfl,h0⟩
 · rintro σ st' ⟨rfl,i,hi,hr,hI⟩
   have l:=ra.len
   have:=congrArg List.length hr
   rw[List.length_drop,List.length_nil]at this
   have e:i=F.length:=by omega
   subst e
   exact⟨aM,hend σ hI⟩
 · rintro d rest σ st' ⟨rfl,i,hi,hr,hI⟩ next
   have l:=ra.len
   have FP:i<ds.length:=by
    rcases Nat.lt_or_ge i ds.length with h|h
    · exact h
    · rw[List.drop_eq_nil_of_le h]at hr;cases hr
   rw[List.drop_eq_getElem_cons FP]at hr
   obtain⟨rfl,rfl⟩:=List.cons.inj hr
   have hiF:i<F.length:=by omega
   obtain⟨e,ee,he⟩:=ra.at (k:=i) hiF
   have e2:e=ds[i]:=by
    have:=ee
    rw[iX (List.getElem?_eq_getElem FP)]at this
    exact(Option.some.inj this).symm
   subst e2
   obtain⟨σ1,e1,hb⟩:=hstep i _ σ _ hiF he hI fun σ' h=>next σ' st' ⟨rfl,i+1,hiF,rfl,h⟩
   exact⟨aM,σ1,e1,hb⟩
theorem yH:∀ds st K,jC ds st K→ds.length=2∧A8 {nx:=fun _ st'=>K .aH st',rt:=K} (bf m5 ds) st:=by
 rintro ds st K ⟨d,dr,F,r,m,w,ld,rfl,⟨da,hd,ra⟩,hF,hS,w8,hsm,hr,lr,k⟩
 refine⟨rfl,?_⟩
 have lF:=hF.len
 refine gQ hr (mF hd fun ok aM=>?_)
 refine Dt aM ra (fun i σ=>∃(L:List Int) (v3 v4 v5:Option D),σ=[some d,some dr,some (ba L),v3,v4,v5]∧L.length=w∧Mx.ji F m w ld (fun c=>r.getD c 0) i (fun c=>L.getD c 0)) ?_ ?_ ⟨r,none,none,none,rfl,lr,Mx.ji.start⟩
 · rintro σ ⟨L,v3,v4,v5,rfl,lL,f⟩
   rw[lF]at f
   exact dv rfl (k L lL f)
 · rintro i e σ rest hi he ⟨L,v3,v4,v5,rfl,lL,f⟩ next
   refine⟨_,rfl,?_⟩
   have him:i<m:=by omega
   obtain⟨l1,l2,l3⟩:=hS.lead i him
   have wF:=hF.row him
   have hmem:F.getD i []∈F:=by rw[Mx.bB hi];exact List.getElem_mem _
   refine d_ he ?_
   rw[List.length_map,wF]
   refine gq ⟨by omega,by omega⟩ ⟨cz (by rw[fj];omega),?_⟩
   rw[Int.toNat_natCast]
   refine yY (p:=fun j=>decide ((F.getD i []).getD j 0≠0)) (fun j hj=>⟨_,rfl,fun K' q=>?_,fun K' q=>q⟩) ?_
   · refine aJ he (gn (by omega)) (ne2 (fun h=>?_) fun h=>?_)
     · rw[decide_eq_true h]at q;exact q
     · rw[decide_eq_false (fun z=>z h)]at q;exact q
   have hf:=si (F.getD i [])
   rw[vE l3 (Int.ne_of_gt l2),wF]at hf
   generalize((List.range w).filter fun j=>decide ((F.getD i []).getD j 0≠0))=ps at hf⊢
   match ps,hf with
   |x::ps,hf=>
    cases hf
    have at1:eh (aB (F.getD i [])) ((ld i:Nat):Int)=some (.int (Mx.g F i (ld i))):=gn (by omega)
    have at2:eh (aB L) ((ld i:Nat):Int)=some (.int (L.getD (ld i) 0)):=gn (by omega)
    have sm:=hsm _ hmem (Mx.g F i (ld i)) (getD_mem (by omega))
    refine aJ rfl wI (aJ rfl at2 (aJ he at1 (m6 (by omega) (qE (by omega) (by omega)) ?_)))
    refine mw rfl he fun ok2 hok2=>⟨cz (by rw[jZ,List.length_map,List.length_map];omega),?_⟩
    refine comp_map (g:=fun z=>match z with| .tup [.int x,.int y]=> .int (x-(L.getD (ld i) 0).fdiv (Mx.g F i (ld i))*y)|_=> .aH) (hok2 st rfl he) _ (fun z hz K' q=>?_) ?_
    · obtain⟨x,y,_,hy,rfl⟩:=kZ hz
      have:=hsm _ hmem y hy
      exact⟨_,rfl,cU (gj (by omega) (by omega)) (mH q)⟩
    rw[xM]
    refine next _ ⟨_,_,_,_,rfl,by rw[Mx.gw (by omega)];exact lL,?_⟩
    have ee:(fun c=>(Mx.bX L (-((L.getD (ld i) 0).fdiv (Mx.g F i (ld i)))) (F.getD i [])).getD c 0)=fun c=>L.getD c 0-(L.getD (ld i) 0).fdiv (Mx.g F i (ld i))*Mx.g F i c:=by
     funext c
     rw[Mx.fC (by omega),Int.neg_mul]
     rfl
    rw[ee]
    exact f.step hS him
noncomputable def jI:cJ:=fun ds st K=>∃(n:Nat) (b:Int),ds=[.ref n,.int 10000]∧Bx st n b∧b≤900000∧∀(ls:List Int) (w:Nat) st',ls.length=w→1≤w→w≤8→(∀x∈ls,1≤x)→Mx.PN ls≤216→st'[st.length]?=some (.lst (aB ls))→Bx st' n (b+9)→XU st n st'→K (.ref st.length) st'
noncomputable def lD:List Str:=["_law_source_here","_law_most","_law_wide","_law_leads_here","_law_k","_law_at","_law_more","_law_room","_law_one"]
noncomputable def yJ:DS:=(aK (bp 2 (ay iF (dC (.int 1)) (aG bD (ae (ab 0) (ae (dC (.int 4)) ak)))))
 (aK (gc (cy (ay kO (aG bD (ae (ab 0) (ae (dC (.int 8)) ak))) (dC (.int 5)))) (bp 2 (ay iF (dC (.int 6)) (aG bD (ae (ab 0) (ae (dC (.int 3)) ak))))) e7)
 (aK (bp 3 (ay rm (qC (ae (dC (.int 1)) ak)) (ab 2)))
 (aK (iG (eV (ae (dC (.int 3)) ak)) (bW 4) (aK (bp 5 (aG bD (ae (ab 0) (ae (ab 2) ak))))
 (aK (bp 6 (ay iF (dC (.int 1)) (aG bD (ae (ab 0) (ae (dC (.int 6)) ak)))))
 (aK (bp 7 (ab 1))
 (aK (iG (fu (ab 3)) (bW 8) (bp 7 (ay mf (ab 7) (ab 8))))
 (eO (ab 3) (ab 5) (ay cL (ay bG (ab 3) (ab 5)) (cm xD (ae (ab 6) (ae (cm xk (ae (dC (.int 1)) (ae (ab 7) ak))) ak))))))))))
 (bT (ab 3))))))
theorem GO{k:Nat}{te:DE}{B:DS}{E:kv}{σ:bN}{st:ai}(h:te σ st fun d st1=>B E (σ.set k (some d)) st1):aK (bp k te) B E σ st:=h
theorem HJ(n:Nat):(List.replicate n [D.int 1]).flatten=aB (List.replicate n 1):=by
 induction n with
 |zero=>rfl
 |succ n ih=>rw[List.replicate_succ,List.flatten_cons,ih,List.replicate_succ];rfl
theorem ints_set{s:List Int}{l:Nat}{z:Int}:(aB s).set l (.int z)=aB (s.set l z):=by unfold aB;rw[List.map_set]
theorem wN:∀ds st K,jI ds st K→ds.length=2∧yJ {nx:=fun _ st'=>K .aH st',rt:=K} (bf lD ds) st:=by
 rintro ds st K ⟨n,b,rfl,B,hb,k⟩
 refine⟨rfl,?_⟩
 refine⟨n,4,b,rfl,B,by omega,by decide,by decide,fun r0 st0 a0 a1 B0 U0=>gD ?_⟩
 dsimp only
 refine oG (fun σ' st'=>∃w:Nat,1≤w∧w≤8∧σ'=[some (.ref n),some (.int 10000),some (.int (w:Int)),none,none,none,none,none,none]∧Bx st' n (b+3)∧Upd st n st') (fun nx hnx=>?_) ?_
 · refine⟨n,8,_,rfl,B0,by omega,by decide,by decide,fun r1 st1 c0 c1 B1 U1=>?_⟩
   refine eq2 (fun _=>gG ?_) fun _=>?_
   · refine⟨n,3,_,rfl,B1,by omega,by decide,by decide,fun r2 st2 d0 d1 B2 U2=>gD ?_⟩
     obtain⟨w,ew⟩:=Int.eq_ofNat_of_zero_le (show 0≤6+r2 by omega)
     exact hnx _ _ ⟨w,by omega,by omega,by rw[ew];rfl,B2.mono (by omega),(U0.trans U1).trans U2⟩
   · obtain⟨w,ew⟩:=Int.eq_ofNat_of_zero_le (show 0≤1+r0 by omega)
     exact hnx _ _ ⟨w,by omega,by omega,by rw[ew];rfl,B1.mono (by omega),U0.trans U1⟩
 rintro σ' st1 ⟨w,w1,w8,rfl,B1,U1⟩
 refine Jo (Nat.le_of_ble_eq_true rfl) (zB ⟨by omega,by omega,cz (by simp;omega)⟩ ?_)
 rw[Int.toNat_natCast,HJ,U1.len]
 have hn:=B.lt
 have hnL:st.length≠n:=Nat.ne_of_gt hn
 have X1:XU st n (st1++[Cell.lst (aB (List.replicate w 1))]):=(XU.upd U1).trans (XU.ext Ext.push)
 refine gq ⟨by decide,by decide⟩ ?_
 refine jf 3 (fun j σ st'=>∃(ls:List Int) (v4 v5 v6 v7 v8:Option D),σ=[some (.ref n),some (.int 10000),some (.int (w:Int)),some (.ref st.length),v4,v5,v6,v7,v8]∧st'[st.length]?=some (.lst (aB ls))∧ls.length=w∧(∀x∈ls,1≤x)∧Mx.PN ls≤6^j∧Bx st' n (b+3+2*j)∧XU st n st') ?_ ?_ ⟨List.replicate w 1,none,none,none,none,none,rfl,?_,by simp,fun x hx=>by rw[(List.mem_replicate.mp hx).2];exact Int.le_refl _,by rw[Mx.CY];decide,(B1.cell (List.getElem?_append_left B1.lt)).mono (by simp),X1⟩
 · rintro σ st' ⟨ls,v4,v5,v6,v7,v8,rfl,e,hl,h1,hP,B',X'⟩
   exact k ls w st' hl w1 w8 h1 hP e (B'.mono (by omega)) X'
 · rintro j σ st2 rest hj ⟨ls,v4,v5,v6,v7,v8,rfl,e,hl,h1,hP,B2,X2⟩ next
   refine⟨_,rfl,?_⟩
   refine⟨n,_,_,rfl,B2,by omega,by omega,by omega,fun ra st3 a0 a1 B3 U3=>?_⟩
   obtain⟨at',rfl⟩:=Int.eq_ofNat_of_zero_le a0
   refine⟨n,6,_,rfl,B3,by omega,by decide,by decide,fun r4 st4 c0 c1 B4 U4=>gD ?_⟩
   have e4:st4[st.length]?=some (.lst (aB ls)):=(U4.same _ hnL).trans ((U3.same _ hnL).trans e)
   have l4:=(List.getElem?_eq_some_iff.mp e4).1
   have hat:at'<ls.length:=by omega
   dsimp only
   refine GO ?_
   dsimp only[ab]
   refine oG (fun σ' st'=>st'=st4∧∃(room:Int) (v8:Option D),σ'=[some (.ref n),some (.int 10000),some (.int (w:Int)),some (.ref st.length),some (.int (j:Int)),some (.int (at':Int)),some (.int (1+r4)),some (.int room),v8]) (fun nx hnx=>?_) ?_
   · refine mF (aI e4) fun ok aM=>?_
     refine gO (fun rest σ st'=>st'=st4∧∃(room:Int) (v8:Option D) (ms:List Int),rest=aB ms∧(∀x∈ms,x∈ls)∧σ=[some (.ref n),some (.int 10000),some (.int (w:Int)),some (.ref st.length),some (.int (j:Int)),some (.int (at':Int)),some (.int (1+r4)),some (.int room),v8]) ?_ ?_ _ _ _ ⟨rfl,10000,v8,ls,rfl,fun _ h=>h,rfl⟩
     · rintro σ st' ⟨rfl,room,v8,ms,_,_,rfl⟩
       exact⟨aM,hnx _ _ ⟨rfl,room,v8,rfl⟩⟩
     · rintro d rest σ st' ⟨rfl,room,v8,ms,hr,hm,rfl⟩ nxt
       match ms,hr,hm with
       |y::ms,hr,hm=>
        obtain⟨rfl,rfl⟩:=List.cons.inj hr
        have y1:=h1 y (hm y List.mem_cons_self)
        have y2:=Int.le_trans (Mx.wY h1 (hm y List.mem_cons_self)) hP
        have p6:(6:Int)^j≤216:=by
         have:j=0∨j=1∨j=2:=by omega
         rcases this with rfl|rfl|rfl<;>decide
        exact⟨aM,_,rfl,m6 (by omega) (qE (by omega) (by omega)) (nxt _ _ ⟨rfl,_,_,ms,rfl,fun x hx=>hm x (List.mem_cons_of_mem _ hx),rfl⟩)⟩
   rintro σ' st' ⟨rfl,room,v8,rfl⟩
   refine aJ (aI e4) (gn hat) (Jm (IK ?_))
   generalize ef:(if(if room>1 then room else 1)<1+r4 then(if room>1 then room else 1)else 1+r4)=f
   have hf:1≤f∧f≤6:=by
    rw[←ef]
    split<;>split at* <;>omega
   clear ef
   refine cU (gj (by omega) (by omega)) (fw e4 (nM (by omega) (by rw[List.length_map];omega)) ?_)
   rw[Int.toNat_natCast,ints_set]
   have hx:ls.getD at' 0∈ls:=getD_mem hat
   refine next _ _ ⟨_,_,_,_,_,_,rfl,List.getElem?_set_self l4,by rw[List.length_set];exact hl,fun x hx'=>?_,?_,(B4.cell (List.getElem?_set_ne hnL)).mono (by omega),(X2.trans (XU.upd (U3.trans U4))).set (Nat.le_refl _)⟩
   · rcases List.mem_or_eq_of_mem_set hx' with h|h
     · exact h1 x h
     · have:=h1 _ hx
       have:=Int.mul_le_mul this hf.1 (by decide) (Int.le_trans (by decide) this)
       rw[h];exact this
   · rw[Mx.CL hat,Int.pow_succ]
     exact Int.mul_le_mul hP hf.2 (by omega) (Int.le_trans (Int.le_trans (by decide) (Mx.tM h1)) hP)
 · rw[←U1.len,List.getElem?_append_right (Nat.le_refl _),Nat.sub_self];rfl
noncomputable def ib:cJ:=fun ds st K=>∃(n:Nat) (b:Int),ds=[.ref n,.int 10000]∧Bx st n b∧b≤800000∧∀(fc:Nat) (F B:List (List Int)) (m w:Nat) (ld:Nat→Nat) st',st.length≤fc→st'[fc]?=some (.lst (F.map a_))→1≤m→m≤8→w≤8→1≤w→Mx.dc m w F→Mx.cN F m w ld→Mx.sM F m ld→(∀r∈F,∀x∈r,0≤x∧x≤1000)→CQ F ld m≤216→Mx.jL F m w (216*8^6) B m→Bx st' n (b+120)→XU st n st'→K (.tup [.ref fc,dD B]) st'
noncomputable def jx:List Str:=["_law_source_here","_law_most","_law_leads_here","_law_form_here","_law_k"]
noncomputable def uU:DS:=(aK (bp 2 (aG jI (ae (ab 0) (ae (ab 1) ak))))
 (aK (bp 3 (aG kL (ae (ab 0) (ae (ab 2) ak))))
 (aK (iG (eV (ae (dC (.int 2)) ak)) (bW 4) (gc (wb (cy (ay kO (aG bD (ae (ab 0) (ae (dC (.int 8)) ak))) (dC (.int 3)))) (cy (ay qD (cm fK (ae (ab 3) ak)) (dC (.int 1))))) (jX (pG oh (ab 3) (ae (aG bD (ae (ab 0) (ae (cm fK (ae (ab 3) ak)) ak))) ak))) e7))
 (bT (ju (ae (ab 3) (ae (aG jr (ae (ab 0) (ae (ab 3) ak))) ak)))))))
theorem Nl{σ:bN}{st:ai}{K:DK}{n:Nat}{xs:List D}{to:DE}{ta:DA}(ho:∀K',K' (.ref n) st→to σ st K')(e:st[n]?=some (.lst xs))(ha:ta σ st fun ds st2=>(∃ys,st2[n]?=some (.lst ys))∧oh n ds st2 K):pG oh to ta σ st K:=by
 unfold pG
 refine ho _ ?_
 simp only[e]
 exact ha
theorem MR{st2:ai}{K:DK}{n:Nat}{ys:List D}{i:Int}{j:Nat}{d:D}(e2:st2[n]?=some (.lst ys))(h63: -(2^63)≤i∧i<2^63)(ej:kM ys.length i=some j)(ed:ys[j]?=some d)(k:K d (st2.set n (.lst (ys.eraseIdx j)))):(∃ys,st2[n]?=some (.lst ys))∧oh n [.int i] st2 K:=by
 refine⟨⟨ys,e2⟩,?_⟩
 unfold oh
 simp only[e2,ej,ed]
 exact⟨h63,k⟩
theorem Ce{ls:List Int}{w:Nat}{zs:List (Nat×List Int)}(h:Mx.Zs ls w zs):∀k,k≤zs.length→CQ (zs.map (·.2)) (Mx.pR zs) k=Mx.PN ((zs.take k).map fun z=>ls.getD z.1 0)
 |0,_=>rfl
 |k+1,hk=>by
  have e:zs.take (k+1)=zs.take k++[zs[k]]:=List.take_succ_eq_append_getElem hk
  rw[e,List.map_append,Mx.CU,←Ce h k (Nat.le_of_lt hk)]
  show CQ _ _ k*Mx.g _ k (Mx.pR zs k)=CQ _ _ k*(ls.getD (zs[k]).1 0*1)
  obtain⟨h1,h2⟩:=h.mem hk
  unfold Mx.g
  rw[h2.at',Int.mul_one]
  unfold Mx.pR
  rw[Mx.bB hk]
theorem Ek(ls:List Int):(List.range ls.length).map (fun i=>ls.getD i 0)=ls:=by
 refine List.ext_getElem (by simp) fun i h1 h2=>?_
 rw[List.getElem_map,List.getElem_range,Mx.bB h2]
theorem t7:∀ds st K,ib ds st K→ds.length=2∧uU {nx:=fun _ st'=>K .aH st',rt:=K} (bf jx ds) st:=by
 rintro ds st K ⟨n,b,rfl,B,hb,k⟩
 refine⟨rfl,?_⟩
 have hn:=B.lt
 refine⟨n,b,rfl,B,by omega,fun ls w st1 hl w1 w8 h1 hP e1 B1 X1=>?_⟩
 have hlc:st.length≠n:=Nat.ne_of_gt hn
 have hls:∀x∈ls,1≤x∧x≤216:=fun x hx=>⟨h1 x hx,Int.le_trans (Mx.wY h1 hx) hP⟩
 refine⟨n,st.length,_,ls,w,rfl,B1,by omega,e1,hlc,hl,w8,hls,fun G st2 hG hU e2 B2 X2=>?_⟩
 have hfc:st.length≤st1.length:=X1.len
 have hfn:st1.length≠n:=by omega
 have X02:=X1.trans X2
 generalize st1.length=fc at hfc hfn e2
 clear X1 X2 B1 e1 hlc st1
 have hz0:∃zs:List (Nat×List Int),G=zs.map (·.2)∧Mx.Zs ls w zs∧1≤zs.length∧zs.length≤8∧Mx.PN (zs.map fun z=>ls.getD z.1 0)≤216:=by
  refine⟨(List.range w).map fun i=>(i,G.getD i []),?_,⟨fun z hz=>?_,?_,h1,hl⟩,by simpa using w1,by simpa using w8,?_⟩
  · rw[List.map_map]
    refine List.ext_getElem (by simp[hG]) fun i h1 h2=>?_
    rw[List.getElem_map,List.getElem_range]
    show G[i]=G.getD i []
    rw[Mx.bB h1]
  · obtain⟨i,hi,rfl⟩:=List.mem_map.mp hz
    rw[List.mem_range]at hi
    exact⟨hi,hU i hi⟩
  · rw[List.pairwise_map]
    exact List.pairwise_lt_range
  · rw[List.map_map]
    have:((fun z:Nat×List Int=>ls.getD z.1 0)∘fun i=>(i,G.getD i []))=fun i=>ls.getD i 0:=rfl
    rw[this,←hl,Ek]
    exact hP
 clear hU hG
 refine gq ⟨by decide,by decide⟩ ?_
 refine jf 2 (fun j σ st'=>∃(zs:List (Nat×List Int)) (v4:Option D),σ=[some (.ref n),some (.int 10000),some (.ref st.length),some (.ref fc),v4]∧st'[fc]?=some (.lst ((zs.map (·.2)).map a_))∧Mx.Zs ls w zs∧1≤zs.length∧zs.length≤8∧Mx.PN (zs.map fun z=>ls.getD z.1 0)≤216∧Bx st' n (b+9+64+2*j)∧XU st n st') ?_ ?_ ?_
 · rintro σ st' ⟨zs,v4,rfl,e,hz,z1,z8,hp,B',X'⟩
   have hsm:∀r∈zs.map (·.2),∀x∈r,0≤x∧x≤216:=fun r hr x hx=>hz.small (M:=216) (fun x hx=>(hls x hx).2) (by decide) r hr x hx
   refine⟨n,_,.ref fc,zs.map (·.2),zs.length,w,216,rfl,B',by omega,⟨_,aI e,cg.tup⟩,hz.is,z1,z8,w8,fun r hr x hx=>by have:=hsm r hr x hx;omega,fun T st3 M B3 X3=>⟨Nat.le_of_ble_eq_true rfl,?_⟩⟩
   have e3:=X3.at e hfn
   refine k fc (zs.map (·.2)) T zs.length w (Mx.pR zs) st3 hfc e3 z1 z8 w8 w1 hz.is hz.tI hz.red (fun r hr x hx=>?_) ?_ M (B3.mono (by omega)) (X'.trans X3)
   · have:=hsm r hr x hx
     exact⟨this.1,Int.le_trans this.2 (by decide)⟩
   · rw[Ce hz _ (Nat.le_refl _),List.take_length];exact hp
 · rintro j σ st3 rest hj ⟨zs,v4,rfl,e,hz,z1,z8,hp,B3,X3⟩ next
   refine⟨_,rfl,?_⟩
   refine⟨n,8,_,rfl,B3,by omega,by decide,by decide,fun r4 st4 a0 a1 B4 U4=>?_⟩
   have e4:=(U4.same _ hfn).trans e
   have X4:=X3.trans (XU.upd U4)
   refine eq2 (fun _=>gG ?_) fun _=>next _ _ ⟨zs,_,rfl,e4,hz,z1,z8,hp,B4.mono (by omega),X4⟩
   have lz:((zs.map (·.2)).map a_).length=zs.length:=by rw[List.length_map,List.length_map]
   refine d_ (aI e4) (Im (fun hg=>gG ?_) fun _=>next _ _ ⟨zs,_,rfl,e4,hz,z1,z8,hp,B4.mono (by omega),X4⟩)
   refine Nl (fun K' q=>q) e4 (d_ (aI e4) ⟨n,_,_,rfl,B4,by omega,by omega,by omega,fun r5 st5 c0 c1 B5 U5=>?_⟩)
   obtain⟨p,rfl⟩:=Int.eq_ofNat_of_zero_le c0
   have hp5:p<zs.length:=by omega
   have e5:=(U5.same _ hfn).trans e4
   have l5:=(List.getElem?_eq_some_iff.mp e5).1
   refine MR e5 (j:=p) ⟨by omega,by omega⟩ (by rw[nM (by omega) (by rw[lz,Int.toNat_natCast];exact hp5),Int.toNat_natCast]) (List.getElem?_eq_getElem (by rw[lz];exact hp5)) ?_
   refine next _ _ ⟨zs.eraseIdx p,_,rfl,?_,hz.erase,?_,?_,?_,(B5.cell (List.getElem?_set_ne hfn)).mono (by omega),(X4.trans (XU.upd U5)).set hfc⟩
   · rw[List.getElem?_set_self l5,Mx.qo,Mx.qo]
   · rw[List.length_eraseIdx_of_lt hp5];omega
   · rw[List.length_eraseIdx_of_lt hp5];omega
   · refine Int.le_trans (Mx.JQ ((List.eraseIdx_sublist zs p).map _) fun x hx=>?_) hp
     obtain⟨z,hzm,rfl⟩:=List.mem_map.mp hx
     exact hz.JZ (hz.ur z hzm).1
 · obtain⟨zs,rfl,hz,z1,z8,hp⟩:=hz0
   exact⟨zs,none,rfl,e2,hz,z1,z8,hp,B2.mono (by simp),X02⟩
noncomputable def mn:cJ:=fun ds st K=>∃(n:Nat) (b:Int) (w:Nat),ds=[.ref n,.int w]∧Bx st n b∧b≤800000∧w≤8∧∀(r:List Int) st',r.length=w→(∀x∈r,x.natAbs≤2^34)→Bx st' n (b+32)→Upd st n st'→K (a_ r) st'
noncomputable def nW:List Str:=["_law_source_here","_law_wide","_law_row_here"]
noncomputable def C2:DS:=(aK (bp 2 (dP (eV (ae (ab 1) ak)) [none,some 0] (bW 0) cT (aG jn (ae (ab 1) ak))))
 (bT (cm dR (ae (dP (fu (ab 2)) [none] (bW 0) cT (Fc (cy (ay o3 (cm pk (ae (ab 0) ak)) (ay nN (dC (.int 10)) (dC (.int 6))))) (ab 0) (ay mf (ab 0) (dC (.int 100))))) ak))))
noncomputable def u_(x:Int):Int:=if((x.natAbs:Nat):Int)<1000000 then x else x.fdiv 100
theorem Ex{x:Int}(h:x.natAbs≤1000000000000):(u_ x).natAbs≤2^34:=by
 have e:(2:Nat)^34=17179869184:=by decide
 unfold u_
 split
 · omega
 · rw[Int.fdiv_eq_ediv_of_nonneg _ (by decide)]
   omega
theorem zy(f:Int→Int):∀r:List Int,(aB r).map (fun d=>match d with| .int x=> .int (f x)|_=> .aH)=aB (r.map f)
 | []=>rfl
 |x::r=>by
  have:=zy f r
  unfold aB at this⊢
  simp only[List.map_cons]at this⊢
  rw[this]
theorem As:∀ds st K,mn ds st K→ds.length=2∧C2 {nx:=fun _ st'=>K .aH st',rt:=K} (bf nW ds) st:=by
 rintro ds st K ⟨n,b,w,rfl,B,hb,w8,k⟩
 refine⟨rfl,?_⟩
 refine gq ⟨by omega,by omega⟩ ⟨cz (by rw[fj];omega),?_⟩
 rw[Int.toNat_natCast]
 refine iL (fun rest acc st'=>∃r:List Int,acc=aB r∧r.length+rest.length=w∧(∀x∈r,x.natAbs≤1000000000000)∧Bx st' n (b+4*r.length)∧Upd st n st') ?_ ?_ _ _ _ ⟨[],rfl,by rw[fj];simp,by simp,B.mono (by simp),Upd.refl⟩
 · rintro acc st' ⟨r,rfl,hl,hr,B',U⟩
   have hl:r.length=w:=by simpa using hl
   refine⟨trivial,va ⟨cz (by rw[List.length_map];omega),?_⟩⟩
   refine comp_map (g:=fun d=>match d with| .int x=> .int (u_ x)|_=> .aH) trivial _ (fun d hd K' q=>?_) ?_
   · obtain⟨x,hx,rfl⟩:=List.mem_map.mp hd
     refine⟨_,rfl,qA (oF ⟨by decide,by decide,by decide⟩ ?_)⟩
     have e6:(10:Int)^(6:Int).toNat=1000000:=by decide
     rw[e6]
     have q':K' (.int (u_ x)) st':=q
     unfold u_ at q'
     refine zE (fun h=>gG ?_) fun h=>?_
     · rw[if_pos h]at q';exact q'
     · rw[if_neg (by omega)]at q'
       exact m6 (by decide) (by decide) q'
   refine dv (congrArg some (zy u_ r)) (k _ st' (by rw[List.length_map];exact hl) (fun x hx=>by
    obtain⟨y,hy,rfl⟩:=List.mem_map.mp hx
    exact Ex (hr y hy)) (B'.mono (by omega)) U)
 · rintro x rest acc st' ⟨r,rfl,hl,hr,B',U⟩ next
   have hl2:r.length<w:=by simp at hl;omega
   refine⟨trivial,_,rfl,?_⟩
   refine⟨n,_,rfl,B',by omega,fun y st2 hy B2 U2=>?_⟩
   show dW _ _ _ _ _ _ _ _ _
   rw[ints_app]
   refine next _ _ ⟨r++[y],rfl,by simp at hl⊢;omega,fun z hz=>?_,B2.mono (by simp;omega),U.trans U2⟩
   rcases List.mem_append.mp hz with h|h
   · exact hr z h
   · have:z=y:=by simpa using h
     rw[this];exact hy
noncomputable def g8:cJ:=fun ds st K=>∃(x y:D) (r s:List Int),ds=[x,y]∧items? st x=some (aB r)∧items? st y=some (aB s)∧r.length≤8∧K (a_ (Mx.bX r 1 s)) st
noncomputable def lI:List Str:=["_law_one","_law_other"]
noncomputable def yZ:DS:=(bT (cm dR (ae (dP (oC (ae (ab 0) (ae (ab 1) ak))) [none,none] (iM 0 1) cT (ay iF (ab 0) (ab 1))) ak)))
theorem yb:∀(r s:List Int),(f_ (aB r) (aB s)).map (fun d=>match d with| .tup [.int a,.int b]=> .int (a+b)|_=> .aH)=aB (Mx.bX r 1 s)
 | [],_=>rfl
 |_::_,[]=>rfl
 |a::r,b::s=>by
  have:=yb r s
  unfold f_ Mx.bX at this⊢
  simp only[aB,List.map_cons,List.zip_cons_cons,List.zipWith_cons_cons]at this⊢
  rw[this,Int.one_mul]
theorem xy:∀ds st K,g8 ds st K→ds.length=2∧yZ {nx:=fun _ st'=>K .aH st',rt:=K} (bf lI ds) st:=by
 rintro ds st K ⟨x,y,r,s,rfl,hx,hy,hl,k⟩
 refine⟨rfl,?_⟩
 refine mw hx hy fun ok aM=>⟨cz (by rw[jZ];simp;omega),?_⟩
 refine comp_map (g:=fun d=>match d with| .tup [.int a,.int b]=> .int (a+b)|_=> .aH) (aM st hx hy) _ (fun d hd K' q=>?_) ?_
 · obtain⟨a,b,ha,hb,rfl⟩:=kZ hd
   exact⟨_,rfl,gD q⟩
 · rw[yb];exact dv rfl k
noncomputable def jO:cJ:=fun ds st K=>∃(n fc:Nat) (b:Int) (F:List (List Int)) (m w:Nat) (ld:Nat→Nat),ds=[.ref n,.ref fc,.int w]∧Bx st n b∧b≤800000∧st[fc]?=some (.lst (F.map a_))∧fc≠n∧Wd F m w ld∧∀(r:List Int) st',r.length=w→(∀x∈r,x.natAbs≤2^34)→Mx.bM F m w (fun c=>r.getD c 0)→Bx st' n (b+8)→Upd st n st'→K (a_ r) st'
noncomputable def lK:List Str:=["_law_source_here","_law_form_here","_law_wide","_law_row_here","_law_step","_law_many"]
noncomputable def yG:DS:=(aK (bp 3 (ay cL (ju (ae (dC (.int 0)) ak)) (ab 2)))
 (aK (iG (fu (ab 1)) (bW 4) (aK (bp 5 (ay mM (aG bD (ae (ab 0) (ae (dC (.int 7)) ak))) (dC (.int 3))))
 (bp 3 (cm dR (ae (dP (oC (ae (ab 3) (ae (ab 4) ak))) [none,none,some 5] (iM 0 1) cT (ay iF (ab 0) (ay cL (ab 2) (ab 1)))) ak)))))
 (bT (ab 3))))
theorem wR:∀ds st K,jO ds st K→ds.length=3∧yG {nx:=fun _ st'=>K .aH st',rt:=K} (bf lK ds) st:=by
 rintro ds st K ⟨n,fc,b,F,m,w,ld,rfl,B,hb,eF,hne,hW,k⟩
 refine⟨rfl,?_⟩
 have lF:=hW.is.len
 have m8:=hW.m8
 have w8:=hW.w8
 refine⟨Nat.le_of_ble_eq_true rfl,rK ⟨by omega,by omega,cz (by simp;omega)⟩ ?_⟩
 rw[Int.toNat_natCast,kY]
 refine FW (aI eF) fun ok aM=>?_
 refine gO (fun rest σ st'=>∃(i:Nat) (r:List Int) (v4 v5:Option D),i≤m∧rest=(F.map a_).drop i∧σ=[some (.ref n),some (.ref fc),some (.int w),some (a_ r),v4,v5]∧r.length=w∧(∀x∈r,x.natAbs≤3000*i)∧Mx.bM F m w (fun c=>r.getD c 0)∧Bx st' n (b+i)∧Upd st n st') ?_ ?_ _ _ _ ⟨0,List.replicate w 0,none,none,Nat.zero_le _,rfl,rfl,by simp,fun x hx=>by rw[List.eq_of_mem_replicate hx];decide,Mx.bM.zero fun c _=>Mx.dw _ _,B.mono (by omega),Upd.refl⟩
 · rintro σ st' ⟨i,r,v4,v5,hi,hrest,rfl,lr,br,hL,B',U⟩
   refine⟨aM _ (aI ((U.same _ hne).trans eF)),k r st' lr (fun x hx=>?_) hL (B'.mono (by omega)) U⟩
   have:=br x hx
   have e:(2:Nat)^34=17179869184:=by decide
   omega
 · rintro x rest σ st' ⟨i,r,v4,v5,hi,hrest,rfl,lr,br,hL,B',U⟩ next
   obtain⟨hiF,rfl,rfl⟩:=drop_cons hrest
   have him:i<m:=by rw[←lF];exact hiF
   obtain⟨_,_,_,wF,hmem,_⟩:=hW.lead him
   refine⟨aM _ (aI ((U.same _ hne).trans eF)),_,rfl,?_⟩
   refine⟨n,7,_,rfl,B',by omega,by decide,by decide,fun q st2 q0 q1 B2 U2=>mH ?_⟩
   refine mw rfl rfl fun ok2 hok2=>⟨cz (by rw[jZ,List.length_map,List.length_map];omega),?_⟩
   refine comp_map (g:=fun d=>match d with| .tup [.int a,.int b]=> .int (a+(q-3)*b)|_=> .aH) (hok2 _ rfl rfl) _ (fun d hd K' t=>?_) ?_
   · obtain⟨a,b,ha,hb,rfl⟩:=kZ hd
     exact⟨_,rfl,cU (gv (by omega) (by omega)) (gD t)⟩
   refine dv (congrArg some (nO (t:=q-3) r (F.getD i []))) ?_
   have lA:(Mx.bX r (q-3) (F.getD i [])).length=w:=by rw[Mx.gw (by omega)];exact lr
   refine next _ _ ⟨i+1,Mx.bX r (q-3) (F.getD i []),_,_,him,rfl,rfl,lA,fun z hz=>?_,?_,B2.mono (by omega),U.trans U2⟩
   · obtain⟨c,hc,rfl⟩:=List.mem_iff_getElem.mp hz
     have e2:(Mx.bX r (q-3) (F.getD i []))[c]=(Mx.bX r (q-3) (F.getD i [])).getD c 0:=(Mx.bB hc).symm
     rw[e2,Mx.fC (by omega)]
     have b1:=br _ (getD_mem (r:=r) (k:=c) (by omega))
     have b2:=hW.sm _ hmem ((F.getD i []).getD c 0) (getD_mem (by omega))
     have b3:((q-3)*(F.getD i []).getD c 0).natAbs≤3*1000:=by
      rw[Int.natAbs_mul]
      exact Nat.mul_le_mul (by omega) (by omega)
     have b4:=Int.natAbs_add_le (r.getD c 0) ((q-3)*(F.getD i []).getD c 0)
     omega
   · refine(hL.sV (q-3) (Mx.bM.row him)).eq fun c _=>?_
     rw[Mx.fC (by omega)]
     rfl
noncomputable def jD:cJ:=fun ds st K=>∃r:List Int,ds=[a_ r,a_ r]∧r.length≤8∧K (.bl true) st
noncomputable def mY:List Str:=["_law_found","_law_due"]
noncomputable def A6:DS:=(aK (gc (tj (tY (cy (cm sH (ae (ab 0) (ae (dC (.ty "tuple")) ak))))) (cy (ay mK (ab 0) (ab 1)))) (bT (dC (.bl false))) e7)
 (bT (cm uG (ae (dP (fu (ab 0)) [none] (bW 0) cT (AQ (cm sH (ae (ab 0) (ae (dC (.ty "int")) ak))) (zY (cy (cm sH (ae (ab 0) (ae (dC (.ty "bool")) ak))))))) ak))))
theorem ke{n:Nat}{r:List Int}:pl (n+1) (a_ r)=true:=by
 unfold pl
 exact qX
theorem xJ:∀l:List D,jK (l.map fun _=>D.bl true)=some (l.map fun _=>true)
 | []=>rfl
 |a::l=>by rw[List.map_cons,List.map_cons];unfold jK;rw[xJ l];rfl
theorem yw:∀ds st K,jD ds st K→ds.length=2∧A6 {nx:=fun _ st'=>K .aH st',rt:=K} (bf mY ds) st:=by
 rintro ds st K ⟨r,rfl,hl,k⟩
 refine⟨rfl,?_⟩
 refine xr rfl (by decide) ?_
 refine j8 ke ?_
 refine kj ⟨cz (by rw[List.length_map];omega),?_⟩
 refine comp_map (g:=fun _=> .bl true) trivial _ (fun d hd K' q=>?_) ?_
 · obtain⟨i,_,rfl⟩:=List.mem_map.mp hd
   exact⟨_,rfl,xr rfl (by decide) (gG (xr rfl (by decide) q))⟩
 refine B7 (xJ (aB r)) ?_
 have ea:((aB r).map fun _=>true).all id=true:=by simp
 rw[ea]
 exact k
structure Wk(st:ai)(n:Nat)(b:Int):Prop where
 hd:Bx st n b
 tb:∃f,st[0]?=some (gE f)
theorem Wk.ne{st:ai}{n:Nat}{b:Int}(W:Wk st n b):0≠n:=by
 obtain⟨_,_,_,e,_⟩:=W.hd.ex
 obtain⟨f,h⟩:=W.tb
 exact Ne.symm (oV e h)
theorem Wk.xu{st st':ai}{n:Nat}{b b':Int}(W:Wk st n b)(H:Bx st' n b')(X:XU st n st'):Wk st' n b':=by
 obtain⟨f,h⟩:=W.tb
 exact⟨H,f,X.at h W.ne⟩
structure Rt(st:ai)(fc:Nat)(F:List (List Int)):Prop where
 tb:∃f,st[0]?=some (gE f)
 eF:st[fc]?=some (.lst (F.map a_))
 f0:fc≠0
theorem Rt.bk{st st':ai}{fc:Nat}{F:List (List Int)}(h:Rt st fc F)(B:Bk st st'):Rt st' fc F:=⟨B.tb,(B.fr fc (List.getElem?_eq_some_iff.mp h.eF).1 h.f0).trans h.eF,h.f0⟩
noncomputable def jS:cJ:=fun ds st K=>∃(n:Nat) (b:Int),ds=[.ref n]∧Wk st n b∧b≤700000∧0<n∧∀st' f,st'[0]?=some (gE f)→K (.bl true) st'
noncomputable def lh:List Str:=["_law_source_here","_law_form_here","_law_rows","_law_wide","_law_one","_law_other","_law_third","_law_inner_here","_law_due","_law_handed","_law_found","_law_own","_law_like","_law_apart"]
noncomputable def yz:DS:=(aK (An (iM 1 2) (aG ib (ae (ab 0) (ae (ay nN (dC (.int 10)) (dC (.int 4))) ak))))
 (aK (bp 3 (cm fK (ae (ay bG (ab 1) (dC (.int 0))) ak)))
 (aK (An (pf 4 5 6) (dP (eV (ae (dC (.int 3)) ak)) [none,some 0,some 3] (bW 0) cT (aG mn (ae (ab 1) (ae (ab 2) ak)))))
 (aK (bp 7 (aG jO (ae (ab 0) (ae (ab 1) (ae (ab 3) ak)))))
 (aK (bp 8 (aG jC (ae (ab 1) (ae (aG g8 (ae (ab 4) (ae (ab 5) ak))) ak))))
 (aK (bp 9 (ju (ae (dP (fu (ab 2)) [none] (bW 0) cT (cm g_ (ae (ab 0) ak))) (ae (cm g_ (ae (ab 4) ak)) (ae (cm g_ (ae (ab 5) ak)) ak)))))
 (aK (bp 10 (aG dA (ae (ay bG (ab 9) (dC (.int 0))) (ae (ay bG (ab 9) (dC (.int 1))) (ae (ay bG (ab 9) (dC (.int 2))) ak)))))
 (aK (gc (tj (tY (cy (aG jD (ae (ab 10) (ae (ab 8) ak))))) (cy (ay mK (ab 9) (ju (ae (dP (fu (ab 2)) [none] (bW 0) cT (cm g_ (ae (ab 0) ak))) (ae (cm g_ (ae (ab 4) ak)) (ae (cm g_ (ae (ab 5) ak)) ak))))))) (bT (dC (.bl false))) e7)
 (aK (gc (tj (cy (ay mK (aG dA (ae (ab 2) (ae (ab 5) (ae (ab 4) ak)))) (ab 8))) (cy (ay mK (aG dA (ae (ab 2) (ae (aG g8 (ae (ab 4) (ae (ab 7) ak))) (ae (ab 5) ak)))) (ab 8)))) (bT (dC (.bl false))) e7)
 (aK (bp 11 (aG dA (ae (ab 2) (ae (ab 4) (ae (ay cL (ju (ae (dC (.int 0)) ak)) (ab 3)) ak)))))
 (aK (gc (tj (cy (ay mK (ab 11) (aG jC (ae (ab 1) (ae (ab 4) ak))))) (cy (ay mK (aG dA (ae (ab 2) (ae (ab 5) (ae (ab 11) ak)))) (ab 8)))) (bT (dC (.bl false))) e7)
 (aK (gc (cy (ay mK (aG dA (ae (ab 2) (ae (ab 10) (ae (ab 6) ak)))) (aG dA (ae (ab 2) (ae (ab 4) (ae (aG dA (ae (ab 2) (ae (ab 5) (ae (ab 6) ak)))) ak)))))) (bT (dC (.bl false))) e7)
 (aK (gc (tY (cy (aG jD (ae (aG dA (ae (ju (ae (ay cL (ju (ae (dC (.int 0)) ak)) (ab 3)) ak)) (ae (ab 4) (ae (ab 5) ak)))) (ae (aG g8 (ae (ab 4) (ae (ab 5) ak))) ak))))) (bT (dC (.bl false))) e7)
 (aK (bp 12 (ay kO (aG dA (ae (ab 2) (ae (ab 5) (ae (ay cL (ju (ae (dC (.int 0)) ak)) (ab 3)) ak)))) (ab 11)))
 (aK (bp 13 (cm dR (ae (dP (oC (ae (ab 4) (ae (ab 5) ak))) [none,none] (iM 0 1) cT (ay mM (ab 0) (ab 1))) ak)))
 (bT (ay kO (ab 12) (ay kO (ay bG (aG nK (ae (ab 2) (ae (ab 13) ak))) (dC (.int 0))) (dC (.str "told"))))))))))))))))))))
theorem tR{w:Nat}(w8:w≤8):BM [List.replicate w 0] 1 w [] 0 fun _=>0:=by
 have z:∀k q,k<1→Mx.g [List.replicate w 0] k q=0:=fun k q hk=>by
  have:k=0:=by omega
  subst this
  exact Mx.dw _ _
 refine⟨⟨rfl,fun r hr=>?_⟩,⟨rfl,fun r hr=>by cases hr⟩,⟨fun i hi=>absurd hi (Nat.not_lt_zero _),fun i j _ hj=>absurd hj (Nat.not_lt_zero _)⟩,fun i j _ hj=>absurd hj (Nat.not_lt_zero _),⟨fun k hk=>Mx.bM.zero fun q _=>z k q hk,fun k hk=>absurd hk (Nat.not_lt_zero _)⟩,fun i q _ hi=>by rw[z i q hi];exact Nat.zero_le _,Nat.le_refl _,by decide,w8⟩
 have:r=List.replicate w 0:=by simpa using hr
 rw[this,List.length_replicate]
theorem vz:∀(r s:List Int),i5 (aB r) (aB s)=decide (r=s)
 | [],[]=>by unfold i5;rfl
 | [],_::_=>by unfold i5;simp
 |_::_,[]=>by unfold i5;simp
 |a::r,b::s=>by
  simp only[List.map_cons]
  unfold i5
  rw[vz r s]
  unfold cV
  by_cases h1:a=b<;>by_cases h2:r=s<;>simp[h1,h2]
theorem Gb(r s:List Int):cV (a_ r) (a_ s)=decide (r=s):=by
 unfold cV
 exact vz r s
theorem uq{F:List (List Int)}{m w:Nat}{ld:Nat→Nat}{x y:Nat→Int}{R S:List Int}(s:Mx.cN F m w ld)(lR:R.length=w)(lS:S.length=w)(f:Mx.ji F m w ld x m fun c=>R.getD c 0)(g:Mx.ji F m w ld y m fun c=>S.getD c 0)(h:Mx.bM F m w fun c=>x c-y c):R=S:=
 Mx.uY lR lS fun j hj=>f.one s g h j hj
theorem yr:∀(r s:List Int),(f_ (aB r) (aB s)).map (fun d=>match d with| .tup [.int a,.int b]=> .int (a-b)|_=> .aH)=aB (Mx.bX r (-1) s)
 | [],_=>rfl
 |_::_,[]=>rfl
 |a::r,b::s=>by
  have:=yr r s
  unfold f_ Mx.bX at this⊢
  simp only[aB,List.map_cons,List.zip_cons_cons,List.zipWith_cons_cons]at this⊢
  rw[this,Int.neg_mul,Int.one_mul]
  congr 2
theorem Ak{A:List (List Int)}{r s:List Int}:pl 40 (.tup [.lst (A.map ba),.lst (aB r),.lst (aB s)])=true:=by
 unfold pl
 refine List.all_eq_true.mpr fun d hd=>?_
 rcases List.mem_cons.mp hd with rfl|hd
 · exact Dq
 · rcases List.mem_cons.mp hd with rfl|hd
   · unfold pl
     exact qX
   · have:d= .lst (aB s):=by simpa using hd
     subst this
     unfold pl
     exact qX
theorem Dg{A:List (List Int)}(h:A.length=3):∃a b c,A=[a,b,c]:=by
 match A,h with
 | [a,b,c],_=>exact⟨a,b,c,rfl⟩
structure NL(B F:List (List Int))(m w:Nat)(ld:Nat→Nat):Prop where
 fr:BM B m w F m ld
 wd:Wd F m w ld
theorem tS{x:List Int}{a b:Nat}(h:∀z∈x,z.natAbs≤2^a)(l:a≤b):∀z∈x,z.natAbs≤2^b:=fun z hz=>Nat.le_trans (h z hz) (Nat.pow_le_pow_right (by decide) l)
theorem zi{w b:Nat}:∀z∈List.replicate w (0:Int),z.natAbs≤2^b:=fun z hz=>by
 rw[List.eq_of_mem_replicate hz]
 exact Nat.zero_le _
theorem yi:∀ds st K,jS ds st K→ds.length=1∧yz {nx:=fun _ st'=>K .aH st',rt:=K} (bf lh ds) st:=by
 rintro ds st K ⟨n,b,rfl,W,hb,n0,k⟩
 refine⟨rfl,?_⟩
 have l1:n<st.length:=W.hd.lt
 refine oF ⟨by decide,by decide,by decide⟩ ?_
 rw[show(10:Int)^(4:Int).toNat=10000 by decide]
 refine⟨n,_,rfl,W.hd,by omega,fun fc F B m w ld st2 hfc eF m1 m8 w8 w1 uo stF rdF smF _ M B2 X2=>⟨_,rfl,?_⟩⟩
 have W2:=W.xu B2 X2
 have fcn:fc≠n:=by omega
 have fc0:fc≠0:=by omega
 clear W B2 X2 l1 hfc
 have lF:=uo.len
 have rw0:=uo.row (i:=0) m1
 have Mv:eh (F.map a_) 0=some (a_ (F.getD 0 [])):=zh (k:=0) (by omega)
 refine aJ (aI eF) Mv (d_ rfl ?_)
 rw[List.length_map,rw0]
 have wd:Wd F m w ld:=⟨uo,stF,m8,w8,smF⟩
 refine gq ⟨by decide,by decide⟩ ⟨cz (by rw[fj];decide),?_⟩
 refine iL (fun rest acc st'=>∃A:List (List Int),acc=A.map a_∧A.length+rest.length=3∧(∀r∈A,r.length=w)∧(∀r∈A,∀x∈r,x.natAbs≤2^34)∧Bx st' n (b+120+32*A.length)∧Upd st2 n st') ?_ ?_ _ _ _ ⟨[],rfl,by rw[fj];rfl,by simp,by simp,W2.hd.mono (by simp),Upd.refl⟩
 rotate_left 1
 · rintro x rest acc st' ⟨A,rfl,hl,hA,bA,B',U⟩ next
   have hl2:A.length<3:=by simp at hl;omega
   refine⟨trivial,_,rfl,?_⟩
   refine⟨n,_,w,rfl,B',by omega,w8,fun r st3 lr br B3 U3=>?_⟩
   show dW _ _ _ _ _ _ _ _ _
   rw[xv]
   refine next _ _ ⟨A++[r],rfl,by simp at hl⊢;omega,fun q hq=>?_,fun q hq=>?_,B3.mono (by simp;omega),U.trans U3⟩
   · rcases List.mem_append.mp hq with h|h
     · exact hA q h
     · have:q=r:=by simpa using h
       subst this;exact lr
   · rcases List.mem_append.mp hq with h|h
     · exact bA q h
     · have:q=r:=by simpa using h
       subst this;exact br
 rintro acc st3 ⟨A,rfl,hl,hA,bA,B3,U3⟩
 refine⟨trivial,?_⟩
 obtain⟨x,y,z,rfl⟩:=Dg (show A.length=3 by simpa using hl)
 have lx:=hA x (by simp)
 have ly:=hA y (by simp)
 have lz:=hA z (by simp)
 have bx:=bA x (by simp)
 have by':=bA y (by simp)
 have bz:=bA z (by simp)
 have W3:=W2.xu B3 (XU.upd U3)
 have eF3:=(U3.same _ fcn).trans eF
 clear W2 B3 U3 eF hA bA hl
 refine⟨_,rfl,?_⟩
 refine⟨n,fc,_,F,m,w,ld,rfl,W3.hd,by simp;omega,eF3,fcn,wd,fun v st4 lv bv hv B4 U4=>?_⟩
 have W4:=W3.xu B4 (XU.upd U4)
 have R4:Rt st4 fc F:=⟨W4.tb,(U4.same _ fcn).trans eF3,fc0⟩
 clear W3 W4 B4 U4 eF3
 refine⟨_,_,x,y,rfl,rfl,rfl,by omega,?_⟩
 have lxy:(Mx.bX x 1 y).length=w:=by rw[Mx.gw (by omega)];exact lx
 have exy:(fun c=>(Mx.bX x 1 y).getD c 0)=fun c=>x.getD c 0+y.getD c 0:=by
  funext c
  rw[Mx.fC (by omega),Int.one_mul]
 refine⟨.ref fc,_,F,Mx.bX x 1 y,m,w,ld,rfl,⟨_,aI R4.eF,cg.tup⟩,uo,stF,w8,smF,rfl,lxy,fun U lU fU=>?_⟩
 rw[exy]at fU
 have ye:=M.is
 have lB:=ye.len
 have sit:NL B F m w ld:=⟨⟨ye,uo,stF,rdF,M.same.symm,Mx.KJ ye fun r hr x hx=>Nat.le_trans (M.bd r hr x hx) (by decide),m1,m8,w8⟩,wd⟩
 clear rdF M
 show aK _ _ _ [some (.ref n),some (.ref fc),some (dD B),some (.int w),some (a_ x),some (a_ y),some (a_ z),some (a_ v),some (a_ U),none,none,none,none,none] st4
 refine kj ⟨cz (by rw[List.length_map];omega),?_⟩
 refine gW ba trivial cg.tup (fun d r hr he K' q=>⟨_,rfl,gQ he q⟩) ?_
 dsimp only[ae,cm,ak]
 refine qK (d:=a_ x) rfl ?_
 refine gQ (xs:=aB x) rfl ?_
 refine qK (d:=a_ y) rfl ?_
 refine gQ (xs:=aB y) rfl ?_
 refine⟨Nat.le_of_ble_eq_true rfl,?_⟩
 obtain⟨f4,t4⟩:=R4.tb
 refine aJ rfl (show eh [D.lst (B.map ba),D.lst (aB x),D.lst (aB y)] 0=some (.lst (B.map ba))from rfl) ?_
 refine aJ rfl (show eh [D.lst (B.map ba),D.lst (aB x),D.lst (aB y)] 1=some (.lst (aB x))from rfl) ?_
 refine aJ rfl (show eh [D.lst (B.map ba),D.lst (aB x),D.lst (aB y)] 2=some (.lst (aB y))from rfl) ?_
 refine⟨.lst (B.map ba),.lst (aB x),.lst (aB y),B,F,x,y,m,w,m,34,ld,f4,rfl,⟨_,rfl,cg.lst⟩,sit.fr,wd,rfl,rfl,lx,ly,bx,by',t4,fun st5 E Bk5 lE bE fE=>?_⟩
 have R5:=R4.bk Bk5
 clear R4 t4 Bk5
 have hE:E=U:=uq stF lE lU fE fU (Mx.bM.zero fun c _=>by omega)
 subst hE
 refine⟨E,rfl,by omega,?_⟩
 refine kj ⟨cz (by rw[List.length_map];omega),?_⟩
 refine gW ba trivial cg.tup (fun d r hr he K' q=>⟨_,rfl,gQ he q⟩) ?_
 dsimp only[ae,cm,ak]
 refine qK (d:=a_ x) rfl ?_
 refine gQ (xs:=aB x) rfl ?_
 refine qK (d:=a_ y) rfl ?_
 refine gQ (xs:=aB y) rfl ?_
 refine⟨Nat.le_of_ble_eq_true rfl,?_⟩
 refine j8 Ak ?_
 obtain⟨fr1,tr1⟩:=R5.tb
 refine⟨dD B,a_ y,a_ x,B,F,y,x,m,w,m,34,ld,fr1,rfl,iw,sit.fr,wd,rfl,rfl,ly,lx,by',bx,tr1,fun st6 G Bk1 lG _ fG=>?_⟩
 have R6:=R5.bk Bk1
 have hG:G=E:=uq stF lG lE fG fE (Mx.bM.zero fun c _=>by omega)
 subst hG
 refine j8 ke ?_
 refine⟨_,_,x,v,rfl,rfl,rfl,by omega,?_⟩
 have lxv:(Mx.bX x 1 v).length=w:=by rw[Mx.gw (by omega)];exact lx
 obtain⟨fr2,tr2⟩:=R6.tb
 refine⟨dD B,a_ (Mx.bX x 1 v),a_ y,B,F,(Mx.bX x 1 v),y,m,w,m,35,ld,fr2,rfl,iw,sit.fr,wd,rfl,rfl,lxv,ly,(ya lx lv bx bv),(tS by' (by decide)),tr2,fun st7 H Bk2 lH _ fH=>?_⟩
 have R7:=R6.bk Bk2
 have hH:H=G:=uq stF lH lG fH fG (hv.eq fun c _=>by
  rw[Mx.fC (by omega),Int.one_mul]
  omega)
 subst hH
 refine j8 ke ?_
 have hm: -(2^63)≤(w:Int)∧(w:Int)<2^63∧ [D.int 0].length*(w:Int).toNat≤sizeLine:=⟨by omega,by omega,cz (by simp;omega)⟩
 have l0:(List.replicate w (0:Int)).length=w:=List.length_replicate
 refine⟨Nat.le_of_ble_eq_true rfl,rK hm ?_⟩
 rw[Int.toNat_natCast,kY]
 obtain⟨fr3,tr3⟩:=R7.tb
 refine⟨dD B,a_ x,a_ (List.replicate w 0),B,F,x,(List.replicate w 0),m,w,m,34,ld,fr3,rfl,iw,sit.fr,wd,rfl,rfl,lx,l0,bx,zi,tr3,fun st8 O Bk3 lO bO fO=>?_⟩
 have R8:=R7.bk Bk3
 refine⟨.ref fc,_,F,x,m,w,ld,rfl,⟨_,aI R8.eF,cg.tup⟩,uo,stF,w8,smF,rfl,lx,fun P lP fP=>?_⟩
 have hP:O=P:=uq stF lO lP fO fP (Mx.bM.zero fun c _=>by rw[Mx.dw];omega)
 subst hP
 refine j8 ke ?_
 obtain⟨fr4,tr4⟩:=R8.tb
 refine⟨dD B,a_ y,a_ O,B,F,y,O,m,w,m,123,ld,fr4,rfl,iw,sit.fr,wd,rfl,rfl,ly,lO,(tS by' (by decide)),bO,tr4,fun st9 Q Bk4 lQ _ fQ=>?_⟩
 have R9:=R8.bk Bk4
 have hQ:Q=H:=uq stF lQ lH fQ fH (((Mx.bM.zero (v:=fun _=>0) fun _ _=>rfl).sV (-1) fO.sum |>.sub hv).eq fun c _=>by
  rw[Mx.dw,Mx.fC (by omega)]
  omega)
 subst hQ
 refine j8 ke ?_
 obtain⟨fr5,tr5⟩:=R9.tb
 refine⟨dD B,a_ Q,a_ z,B,F,Q,z,m,w,m,123,ld,fr5,rfl,iw,sit.fr,wd,rfl,rfl,lE,lz,bE,(tS bz (by decide)),tr5,fun st10 T Bk5 lT _ fT=>?_⟩
 have R10:=R9.bk Bk5
 obtain⟨fr6,tr6⟩:=R10.tb
 refine⟨dD B,a_ y,a_ z,B,F,y,z,m,w,m,34,ld,fr6,rfl,iw,sit.fr,wd,rfl,rfl,ly,lz,by',bz,tr6,fun st11 V Bk6 lV bV fV=>?_⟩
 have R11:=R10.bk Bk6
 obtain⟨fr7,tr7⟩:=R11.tb
 refine⟨dD B,a_ x,a_ V,B,F,x,V,m,w,m,123,ld,fr7,rfl,iw,sit.fr,wd,rfl,rfl,lx,lV,(tS bx (by decide)),bV,tr7,fun st12 Y Bk7 lY _ fY=>?_⟩
 have R12:=R11.bk Bk7
 have hY:T=Y:=uq stF lT lY fT fY ((fV.sum.sub fE.sum).eq fun c _=>by omega)
 subst hY
 refine j8 ke ?_
 refine⟨Nat.le_of_ble_eq_true rfl,rK hm ?_⟩
 rw[Int.toNat_natCast,kY]
 refine⟨Nat.le_of_ble_eq_true rfl,?_⟩
 obtain⟨f12,t12⟩:=R12.tb
 have wd0:Wd [] 0 w fun _=>0:=⟨⟨rfl,fun r hr=>by cases hr⟩,(tR w8).st,by decide,w8,fun r hr=>by cases hr⟩
 refine⟨dD [List.replicate w 0],a_ x,a_ y,[List.replicate w 0],[],x,y,1,w,0,34,(fun _=>0),f12,rfl,iw,tR w8,wd0,rfl,rfl,lx,ly,bx,by',t12,fun st13 Z Bk13 lZ _ fZ=>?_⟩
 have R13:=R12.bk Bk13
 refine⟨_,_,x,y,rfl,rfl,rfl,by omega,?_⟩
 have hZ:Z=Mx.bX x 1 y:=Mx.uY lZ lxy fun c hc=>by
  obtain⟨u,hu⟩:=fZ.sum
  have h1:x.getD c 0+y.getD c 0-Z.getD c 0=0:=hu c hc
  rw[Mx.fC (by omega),Int.one_mul]
  omega
 subst hZ
 refine⟨_,rfl,by omega,?_⟩
 refine⟨Nat.le_of_ble_eq_true rfl,rK hm ?_⟩
 rw[Int.toNat_natCast,kY]
 obtain⟨fr8,tr8⟩:=R13.tb
 refine⟨dD B,a_ y,a_ (List.replicate w 0),B,F,y,(List.replicate w 0),m,w,m,34,ld,fr8,rfl,iw,sit.fr,wd,rfl,rfl,ly,l0,by',zi,tr8,fun st14 J Bk8 lJ _ fJ=>?_⟩
 have R14:=R13.bk Bk8
 refine rJ ke ke ?_
 rw[Gb]
 refine mw rfl rfl fun ok aM=>⟨cz (by rw[jZ,List.length_map,List.length_map];omega),?_⟩
 refine comp_map (g:=fun d=>match d with| .tup [.int a,.int b]=> .int (a-b)|_=> .aH) (aM _ rfl rfl) _ (fun d hd K' q=>?_) ?_
 · obtain⟨a,b,_,_,rfl⟩:=kZ hd
   exact⟨_,rfl,mH q⟩
 refine dv (congrArg some (yr x y)) ?_
 have lxm:(Mx.bX x (-1) y).length=w:=by rw[Mx.gw (by omega)];exact lx
 have em:(fun c=>(Mx.bX x (-1) y).getD c 0)=fun c=>x.getD c 0-y.getD c 0:=by
  funext c
  rw[Mx.fC (by omega),Int.neg_mul,Int.one_mul]
  omega
 have bm:∀q∈Mx.bX x (-1) y,q.natAbs≤2^35:=fun q hq=>by
  obtain⟨c,hc,rfl⟩:=List.mem_iff_getElem.mp hq
  have e2:(Mx.bX x (-1) y)[c]=(Mx.bX x (-1) y).getD c 0:=(Mx.bB hc).symm
  rw[e2,congrFun em c]
  have b1:=bx _ (getD_mem (r:=x) (k:=c) (by omega))
  have b2:=by' _ (getD_mem (r:=y) (k:=c) (by omega))
  have e3:(2:Nat)^35=2^34+2^34:=by decide
  omega
 obtain⟨f14,t14⟩:=R14.tb
 refine⟨dD B,a_ (Mx.bX x (-1) y),B,F,Mx.bX x (-1) y,m,w,m,35,ld,f14,rfl,iw,sit.fr,wd,rfl,lxm,bm,by decide,t14,fun st15 I Bk15 hI=>?_⟩
 have R15:=R14.bk Bk15
 obtain⟨f15,t15⟩:=R15.tb
 unfold Mz at hI
 rw[em]at hI
 have key:Mx.bM F m w (fun c=>x.getD c 0-y.getD c 0)↔J=O:=by
  constructor
  · intro h
    exact(uq stF lO lJ fO fJ (h.eq fun c _=>by rw[Mx.dw];omega)).symm
  · intro h
    subst h
    exact(fO.two fJ fun _ _=>rfl).eq fun c _=>by rw[Mx.dw];omega
 obtain⟨dy,hI|hI⟩:=hI
 · obtain⟨rfl,hL⟩:=hI
   rw[decide_eq_true (key.mp hL)]
   refine aJ rfl rfl (rJ rfl rfl (rJ rfl rfl ?_))
   exact k st15 f15 t15
 · obtain⟨rfl,hL⟩:=hI
   rw[decide_eq_false (fun z=>hL (key.mpr z))]
   refine aJ rfl rfl (rJ rfl rfl (rJ rfl rfl ?_))
   exact k st15 f15 t15
noncomputable abbrev Bc:cJ:=Bt Iq
noncomputable def we:List Str:=["_law_script"]
noncomputable def LH:DS:=(bT (cm uG (ae (dP (eV (ae (dC (.int 3)) ak)) [none,some 0] (bW 0) cT (aG jS (ae (aG js (ae (ab 1) (ae (ab 0) ak))) ak))) ak)))
theorem IX:∀ds st K,Bc ds st K→ds.length=1∧LH {nx:=fun _ st'=>K .aH st',rt:=K} (bf we ds) st:=by
 rintro ds st K ⟨ns,rfl,hl,hst,k⟩
 refine⟨rfl,?_⟩
 have t0:st[0]?=some (gE false):=by rw[hst];rfl
 clear hst
 refine gq ⟨by decide,by decide⟩ ⟨cz (by rw[fj];decide),?_⟩
 refine iL (fun rest acc st'=>∃(j:Nat) (f:Bool),j≤3∧rest=(List.range (3-j)).map (fun i=>D.int (((j+i:Nat):Int)))∧acc=(List.range j).map (fun _=>D.bl true)∧st'[0]?=some (gE f)) ?_ ?_ _ _ _ ⟨0,false,by decide,rfl,rfl,t0⟩
 · rintro acc st' ⟨j,f,hj,hr,rfl,t⟩
   refine⟨trivial,?_⟩
   have e:∀l:List Nat,jK (l.map fun _=>D.bl true)=some (l.map fun _=>true):=fun l=>by
    induction l with
    |nil=>rfl
    |cons a l ih=>rw[List.map_cons,List.map_cons];unfold jK;rw[ih];rfl
   refine B7 (e _) ?_
   have ea:((List.range j).map fun _=>true).all id=true:=by simp
   rw[ea]
   exact k _
 · rintro x rest acc st0 ⟨j,f,hj,hr,rfl,t⟩ next
   have hj3:j<3:=by
    rcases Nat.lt_or_ge j 3 with h|h
    · exact h
    · rw[show 3-j=0 by omega]at hr;cases hr
   obtain⟨q,hq⟩:∃q,3-j=q+1:=⟨2-j,by omega⟩
   rw[hq,List.range_succ_eq_map,List.map_cons,List.map_map]at hr
   obtain⟨rfl,hrest⟩:=List.cons.inj hr
   have h0:0<st0.length:=(List.getElem?_eq_some_iff.mp t).1
   refine⟨trivial,_,rfl,?_⟩
   refine⟨ns,j,rfl,by omega,hl,fun st1 B1 X1=>?_⟩
   refine⟨st0.length,_,rfl,⟨B1,f,(X1.same 0 h0).trans t⟩,by decide,h0,fun st2 f2 t2=>?_⟩
   show dW _ _ _ _ _ _ _ _ _
   refine next _ _ ⟨j+1,f2,hj3,?_,?_,t2⟩
   · rw[hrest,show 3-(j+1)=q by omega]
     refine List.map_congr_left fun i _=>?_
     show D.int (((j+(i+1):Nat):Int))=D.int (((j+1+i:Nat):Int))
     congr 2;omega
   · rw[List.range_succ,List.map_append];rfl
end Prog
namespace Row
open PySem L2 L3 Prog
open PySem.Spec hiding items?
open PyProof.Rows hiding St
noncomputable def top(i:Nat):Stmt:=PySem.Challenge.pw_latticeworks_k27_sums_of_rests.main.body.getD i (.Pass ⟨0,0,0,0⟩)
theorem de:(("tuple":Str))≠"__name__":=by decide+kernel
theorem gm:(("list":Str))≠"__name__":=by decide+kernel
theorem eA:(("len":Str))≠"__name__":=by decide+kernel
theorem qJ:(("abs":Str))≠"__name__":=by decide+kernel
theorem CH:(("int":Str))≠"__name__":=by decide+kernel
theorem J0:(("max":Str))≠"__name__":=by decide+kernel
theorem Jh:(("min":Str))≠"__name__":=by decide+kernel
theorem mN:(("isinstance":Str))≠"__name__":=by decide+kernel
theorem Hb:(("bool":Str))≠"__name__":=by decide+kernel
theorem CP:(("all":Str))≠"__name__":=by decide+kernel
structure Bl(mg:Str→Option Value):Prop where
 dN:mg "tuple"=none
 nR:mg "zip"=none
 eW:mg "range"=none
 yy:mg "enumerate"=none
 ir:mg "list"=none
 fq:mg "len"=none
 t9:mg "abs"=none
 DU:mg "sorted"=none
 Fi:mg "int"=none
 La:mg "max"=none
 Lh:mg "min"=none
 nF:mg "isinstance"=none
 KO:mg "bool"=none
 Fp:mg "all"=none
structure ClsAt(K:PySem.W.Frag)(mg:Str→Option Value)(x:Str)(C:Addr):Prop where
 cl:ny K C
 mg:mg x=some (.ref C)
 NH:PySem.W.makesIn K C=true
 kp:PySem.W.keepIn K (.ref C)=true
structure MethAt(K:PySem.W.Frag)(C:Addr)(m qual:Str)(st:Stmt)(ps:List Str)(f:Addr)(fd:FuncData):Prop where
 fn:oR K m qual st f fd
 me:Meth K C m f
 bd:Binds K fd ps []
structure Kl(K:PySem.W.Frag)(mg:Str→Option Value):Prop where
 bj:ClsAt K mg "Bench" av
 bQ:ia K av "body"
 dF:ia K av "turn"
 bU:ia K av "back_columns"
section
variable {P:Program}{w:World}{K:PySem.W.Frag}{mg:Str→Option Value}{base:Heap}
noncomputable abbrev fy:Stmt:=top 1
theorem qk:VS (af fy) nU ["tuple"]:=⟨by decide+kernel⟩
theorem Al:aU nU ["rows"] (af fy):=⟨rfl,rfl,rfl,by decide+kernel,rfl,by decide+kernel,by decide+kernel⟩
theorem Ac{f:Addr}{fd:FuncData}(B:Bl mg)(Q:Kl K mg)(F:aw K mg "as_rows" "as_rows" fy ["rows"] f fd):
 au P w K mg base aD 1 f fd ["rows"] (aF kn):=
 bS (N:=nU) F.fn Al (fun cdv A outer s H E hr=>(aC (bc (eg dY (aa (eH (Nc:=["row"]) (bI.look (af fy) ["rows"] (by decide+kernel)) (gN (qk.nm 0)) (fun _ _ _ _=>(dM (show(["row"]:List Str).Nodup by decide+kernel) (by first|exact Or.inl rfl|exact Or.inr rfl) (by first|exact .inl rfl|exact .inr rfl))) (fun _ _ _ _=>cK) (fun _ _ _ _=>(eg dY (aa c_ aj) B.dN rfl de (by decide+kernel) rfl)) cQ) aj) B.dN rfl de (qk.d 0) (qk.g 0))))) zW
noncomputable abbrev fB:Stmt:=top 2
theorem uO:VS (af fB) rj ["zip"]:=⟨by decide+kernel⟩
theorem DX:aU rj ["row","times","other"] (af fB):=⟨rfl,rfl,rfl,by decide+kernel,rfl,by decide+kernel,by decide+kernel⟩
theorem Dy{f:Addr}{fd:FuncData}(B:Bl mg)(Q:Kl K mg)(F:aw K mg "added" "added" fB ["row","times","other"] f fd):
 au P w K mg base aD 1 f fd ["row","times","other"] (aF gu):=
 bS (N:=rj) F.fn DX (fun cdv A outer s H E hr=>(aC (bc (eH (Nc:=["one","two","times"]) (bI.look (af fB) ["row","times","other"] (by decide+kernel)) (nZ (uO.g 0) B.nR (aa (uO.nm 0) (aa (uO.nm 2) aj))) (fun _ _ _ _=>(l_ rfl (show(["one","two","times"]:List Str).Nodup by decide+kernel) (by first|exact Or.inl rfl|exact Or.inr rfl) (by first|exact .inl rfl|exact .inr rfl) (by first|exact Or.inl rfl|exact Or.inr rfl) (by first|exact .inl rfl|exact .inr rfl))) (fun _ _ _ _=>cK) (fun _ _ _ _=>(bg iK c_ (bg cS c_ c_))) m_)))) Em
noncomputable abbrev g0:Stmt:=top 3
theorem eS:VS (af g0) pq ["zip","added","tuple"]:=⟨by decide+kernel⟩
theorem oi:aU pq ["weights","rows","wide"] (af g0):=⟨rfl,rfl,rfl,by decide+kernel,rfl,by decide+kernel,by decide+kernel⟩
theorem Bs{f:Addr}{fd:FuncData}(B:Bl mg)(Q:Kl K mg)(F:aw K mg "sum_by" "sum_by" g0 ["weights","rows","wide"] f fd){a_added:Addr}{d_added:FuncData}(D_added:aw K mg "added" "added" fB ["row","times","other"] a_added d_added)(G_added:au P w K mg base aD 1 a_added d_added ["row","times","other"] (aF gu)):
 au P w K mg base aD 2 f fd ["weights","rows","wide"] (aF nC):=
 bS (N:=pq) F.fn oi (fun cdv A outer s H E hr=>(aq (aS oi.nd (eS.l 3) (bg cS (rg (aa ax aj)) (eS.nm 2)))
  (aq (fR (nZ (eS.g 0) B.nR (aa (eS.nm 0) (aa (eS.nm 1) aj))) (l_ rfl oi.nd (by first|exact Or.inl rfl|exact Or.inr rfl) (by first|exact .inl rfl|exact .inr rfl) (by first|exact Or.inl rfl|exact Or.inr rfl) (by first|exact .inl rfl|exact .inr rfl)) (aC (aS oi.nd (eS.l 3) (aT D_added G_added (hr.mono (by decide)) (aa (eS.nm 3) (aa (eS.nm 4) (aa (eS.nm 5) aj))) (eS.d 1) (eS.g 1)))))
  (aC (bc (eg dY (aa (eS.nm 3) aj) B.dN rfl de (eS.d 2) (eS.g 2))))))) BS
noncomputable abbrev gF:Stmt:=top 4
theorem sy:VS (af gF) pL ["tuple"]:=⟨by decide+kernel⟩
theorem BA:aU pL ["rows","place"] (af gF):=⟨rfl,rfl,rfl,by decide+kernel,rfl,by decide+kernel,by decide+kernel⟩
theorem CM{f:Addr}{fd:FuncData}(B:Bl mg)(Q:Kl K mg)(F:aw K mg "column" "column" gF ["rows","place"] f fd):
 au P w K mg base aD 1 f fd ["rows","place"] (aF nI):=
 bS (N:=pL) F.fn BA (fun cdv A outer s H E hr=>(aC (bc (eg dY (aa (eH (Nc:=["row","place"]) (bI.look (af gF) ["rows","place"] (by decide+kernel)) (gN (sy.nm 0)) (fun _ _ _ _=>(dM (show(["row","place"]:List Str).Nodup by decide+kernel) (by first|exact Or.inl rfl|exact Or.inr rfl) (by first|exact .inl rfl|exact .inr rfl))) (fun _ _ _ _=>cK) (fun _ _ _ _=>(aV c_ c_)) cQ) aj) B.dN rfl de (sy.d 0) (sy.g 0))))) BC
noncomputable abbrev di:Stmt:=top 5
theorem jV:VS (af di) jW ["range","tuple"]:=⟨by decide+kernel⟩
theorem uX:aU jW ["rows","wide"] (af di):=⟨rfl,rfl,rfl,by decide+kernel,rfl,by decide+kernel,by decide+kernel⟩
theorem vb{f:Addr}{fd:FuncData}(B:Bl mg)(Q:Kl K mg)(F:aw K mg "turned_over" "turned_over" di ["rows","wide"] f fd){a_column:Addr}{d_column:FuncData}(D_column:aw K mg "column" "column" gF ["rows","place"] a_column d_column)(G_column:au P w K mg base aD 1 a_column d_column ["rows","place"] (aF nI)):
 au P w K mg base aD 2 f fd ["rows","wide"] (aF iR):=
 bS (N:=jW) F.fn uX (fun cdv A outer s H E hr=>(aC (bc (eg dY (aa (eH (Nc:=["place","rows"]) (bI.look (af di) ["rows","wide"] (by decide+kernel)) (fe (jV.g 0) B.eW (aa (jV.nm 1) aj)) (fun _ _ _ _=>(dM (show(["place","rows"]:List Str).Nodup by decide+kernel) (by first|exact Or.inl rfl|exact Or.inr rfl) (by first|exact .inl rfl|exact .inr rfl))) (fun _ _ _ _=>cK) (fun _ _ _ _=>(aT D_column G_column (hr.mono (by decide)) (aa c_ (aa c_ aj)) (by decide+kernel) rfl)) cQ) aj) B.dN rfl de (jV.d 1) (jV.g 1))))) uT
noncomputable abbrev eP:Stmt:=top 6
theorem mW:VS (af eP) m4 ["range","tuple"]:=⟨by decide+kernel⟩
theorem yU:aU m4 ["n","place"] (af eP):=⟨rfl,rfl,rfl,by decide+kernel,rfl,by decide+kernel,by decide+kernel⟩
theorem yL{f:Addr}{fd:FuncData}(B:Bl mg)(Q:Kl K mg)(F:aw K mg "unit_row" "unit_row" eP ["n","place"] f fd):
 au P w K mg base aD 1 f fd ["n","place"] (aF kF):=
 bS (N:=m4) F.fn yU (fun cdv A outer s H E hr=>(aC (bc (eg dY (aa (eH (Nc:=["k","place"]) (bI.look (af eP) ["n","place"] (by decide+kernel)) (fe (mW.g 0) B.eW (aa (mW.nm 0) aj)) (fun _ _ _ _=>(dM (show(["k","place"]:List Str).Nodup by decide+kernel) (by first|exact Or.inl rfl|exact Or.inr rfl) (by first|exact .inl rfl|exact .inr rfl))) (fun _ _ _ _=>cK) (fun _ _ _ _=>(E9 (cO (oy hr) (cw _) c_ c_) ax ax)) cQ) aj) B.dN rfl de (mW.d 1) (mW.g 1))))) yF
noncomputable abbrev d5:Stmt:=top 7
theorem mh:VS (af d5) lW ["range","tuple"]:=⟨by decide+kernel⟩
theorem xm:aU lW ["n"] (af d5):=⟨rfl,rfl,rfl,by decide+kernel,rfl,by decide+kernel,by decide+kernel⟩
theorem wD{f:Addr}{fd:FuncData}(B:Bl mg)(Q:Kl K mg)(F:aw K mg "unit_rows" "unit_rows" d5 ["n"] f fd){a_unit_row:Addr}{d_unit_row:FuncData}(D_unit_row:aw K mg "unit_row" "unit_row" eP ["n","place"] a_unit_row d_unit_row)(G_unit_row:au P w K mg base aD 1 a_unit_row d_unit_row ["n","place"] (aF kF)):
 au P w K mg base aD 2 f fd ["n"] (aF iV):=
 bS (N:=lW) F.fn xm (fun cdv A outer s H E hr=>(aC (bc (eg dY (aa (eH (Nc:=["place","n"]) (bI.look (af d5) ["n"] (by decide+kernel)) (fe (mh.g 0) B.eW (aa (mh.nm 0) aj)) (fun _ _ _ _=>(dM (show(["place","n"]:List Str).Nodup by decide+kernel) (by first|exact Or.inl rfl|exact Or.inr rfl) (by first|exact .inl rfl|exact .inr rfl))) (fun _ _ _ _=>cK) (fun _ _ _ _=>(aT D_unit_row G_unit_row (hr.mono (by decide)) (aa c_ (aa c_ aj)) (by decide+kernel) rfl)) cQ) aj) B.dN rfl de (mh.d 1) (mh.g 1))))) x4
noncomputable abbrev eJ:Stmt:=top 9
theorem nQ:VS (af eJ) n_ ["enumerate"]:=⟨by decide+kernel⟩
theorem um:aU n_ ["row"] (af eJ):=⟨rfl,rfl,rfl,by decide+kernel,rfl,by decide+kernel,by decide+kernel⟩
theorem zX{f:Addr}{fd:FuncData}(B:Bl mg)(Q:Kl K mg)(F:aw K mg "lead_of" "lead_of" eJ ["row"] f fd):
 au P w K mg base aD 1 f fd ["row"] (aF eZ):=
 bS (N:=n_) F.fn um (fun cdv A outer s H E hr=>(aq (fR (KI (nQ.g 0) B.yy (aa (nQ.nm 0) aj)) (l_ rfl um.nd (by first|exact Or.inl rfl|exact Or.inr rfl) (by first|exact .inl rfl|exact .inr rfl) (by first|exact Or.inl rfl|exact Or.inr rfl) (by first|exact .inl rfl|exact .inr rfl)) (aC (e9 (cO Aj (cw _) (nQ.nm 2) ax) (aC (bc (nQ.nm 1))) eG)))
  (aC (bc FF)))) Ag
noncomputable abbrev cH:Stmt:=top 10
theorem jh:VS (af cH) gS []:=⟨by decide+kernel⟩
theorem i4:aU gS ["top","bottom"] (af cH):=⟨rfl,rfl,rfl,by decide+kernel,rfl,by decide+kernel,by decide+kernel⟩
theorem pY{f:Addr}{fd:FuncData}(B:Bl mg)(Q:Kl K mg)(F:aw K mg "nearest_quotient" "nearest_quotient" cH ["top","bottom"] f fd):
 au P w K mg base aD 1 f fd ["top","bottom"] (aF fA):=
 bS (N:=gS) F.fn i4 (fun cdv A outer s H E hr=>(aC (bc (bg (rl hr rfl i4.gen i4.co) (bg iK (bg cS ax (jh.nm 0)) (jh.nm 1)) (bg cS ax (jh.nm 1)))))) p8
noncomputable abbrev eN:Stmt:=top 11
theorem dq:VS (af eN) ll ["list"]:=⟨by decide+kernel⟩
theorem qF:aU ll ["rows","k","other"] (af eN):=⟨rfl,rfl,rfl,by decide+kernel,rfl,by decide+kernel,by decide+kernel⟩
theorem xF{f:Addr}{fd:FuncData}(B:Bl mg)(Q:Kl K mg)(F:aw K mg "exchanged" "exchanged" eN ["rows","k","other"] f fd):
 au P w K mg base aD 1 f fd ["rows","k","other"] (aF g5):=
 bS (N:=ll) F.fn qF (fun cdv A outer s H E hr=>(aq (aS qF.nd (dq.l 3) (eg Hm (aa (dq.nm 0) aj) B.ir rfl gm (dq.d 0) (dq.g 0)))
  (aq (ff (aV (dq.nm 0) (dq.nm 2)) (dq.nm 3) (dq.nm 1))
  (aq (ff (aV (dq.nm 0) (dq.nm 1)) (dq.nm 3) (dq.nm 2))
  (aC (bc (dq.nm 3))))))) wG
noncomputable abbrev fx:Stmt:=top 12
theorem Cz:VS (af fx) oj []:=⟨by decide+kernel⟩
theorem AR:aU oj ["row"] (af fx):=⟨rfl,rfl,rfl,by decide+kernel,rfl,by decide+kernel,by decide+kernel⟩
theorem zO{f:Addr}{fd:FuncData}(B:Bl mg)(Q:Kl K mg)(F:aw K mg "negated" "negated" fx ["row"] f fd):
 au P w K mg base aD 1 f fd ["row"] (aF jb):=
 bS (N:=oj) F.fn AR (fun cdv A outer s H E hr=>(aC (bc (eH (Nc:=["number"]) (bI.look (af fx) ["row"] (by decide+kernel)) (gN (Cz.nm 0)) (fun _ _ _ _=>(dM (show(["number"]:List Str).Nodup by decide+kernel) (by first|exact Or.inl rfl|exact Or.inr rfl) (by first|exact .inl rfl|exact .inr rfl))) (fun _ _ _ _=>cK) (fun _ _ _ _=>(jY c_)) cQ)))) AM
noncomputable abbrev cp:Stmt:=inClass (top 13) 0
theorem bY:VS (af cp) iH ["len","unit_rows"]:=⟨by decide+kernel⟩
theorem rQ:aU iH ["self","rows"] (af cp):=⟨rfl,rfl,rfl,by decide+kernel,rfl,by decide+kernel,by decide+kernel⟩
theorem rS{f:Addr}{fd:FuncData}(B:Bl mg)(Q:Kl K mg)(F:MethAt K av "__init__" "Bench.__init__" cp ["self","rows"] f fd){a_unit_rows:Addr}{d_unit_rows:FuncData}(D_unit_rows:aw K mg "unit_rows" "unit_rows" d5 ["n"] a_unit_rows d_unit_rows)(G_unit_rows:au P w K mg base aD 2 a_unit_rows d_unit_rows ["n"] (aF iV)):
 au P w K mg base aD 3 f fd ["self","rows"] (aF gz):=
 bS (N:=iH) F.fn rQ (fun cdv A outer s H E hr=>(aq (m9 Q.bj.cl Q.bQ (bY.nm 0) (uV (Nc:=["row"]) (bI.look (af cp) ["self","rows"] (by decide+kernel)) (gN (bY.nm 1)) (fun _ _ _ _=>(dM (show(["row"]:List Str).Nodup by decide+kernel) (by first|exact Or.inl rfl|exact Or.inr rfl) (by first|exact .inl rfl|exact .inr rfl))) (fun _ _ _ _=>cK) (fun _ _ _ _=>(eg iQ (aa c_ aj) B.ir rfl gm (by decide+kernel) rfl)) cQ))
  (aq (m9 Q.bj.cl Q.dF (bY.nm 0) (uV (Nc:=["row"]) (bI.look (af cp) ["self","rows"] (by decide+kernel)) (gN (aT D_unit_rows G_unit_rows (hr.mono (by decide)) (aa (dU ft (aa (bY.nm 1) aj) B.fq rfl eA (bY.d 0) (bY.g 0)) aj) (bY.d 1) (bY.g 1))) (fun _ _ _ _=>(dM (show(["row"]:List Str).Nodup by decide+kernel) (by first|exact Or.inl rfl|exact Or.inr rfl) (by first|exact .inl rfl|exact .inr rfl))) (fun _ _ _ _=>cK) (fun _ _ _ _=>(eg iQ (aa c_ aj) B.ir rfl gm (by decide+kernel) rfl)) cQ))
  (aC (m9 Q.bj.cl Q.bU (bY.nm 0) (uV (Nc:=["row"]) (bI.look (af cp) ["self","rows"] (by decide+kernel)) (gN (aT D_unit_rows G_unit_rows (hr.mono (by decide)) (aa (dU ft (aa (bY.nm 1) aj) B.fq rfl eA (bY.d 0) (bY.g 0)) aj) (bY.d 1) (bY.g 1))) (fun _ _ _ _=>(dM (show(["row"]:List Str).Nodup by decide+kernel) (by first|exact Or.inl rfl|exact Or.inr rfl) (by first|exact .inl rfl|exact .inr rfl))) (fun _ _ _ _=>cK) (fun _ _ _ _=>(eg iQ (aa c_ aj) B.ir rfl gm (by decide+kernel) rfl)) cQ)))))) rN
noncomputable abbrev dG:Stmt:=inClass (top 13) 1
theorem bh:VS (af dG) ku ["added"]:=⟨by decide+kernel⟩
theorem vP:aU ku ["self","k","times","other"] (af dG):=⟨rfl,rfl,rfl,by decide+kernel,rfl,by decide+kernel,by decide+kernel⟩
theorem vU{f:Addr}{fd:FuncData}(B:Bl mg)(Q:Kl K mg)(F:MethAt K av "take" "Bench.take" dG ["self","k","times","other"] f fd){a_added:Addr}{d_added:FuncData}(D_added:aw K mg "added" "added" fB ["row","times","other"] a_added d_added)(G_added:au P w K mg base aD 1 a_added d_added ["row","times","other"] (aF gu)):
 au P w K mg base aD 2 f fd ["self","k","times","other"] (aF gB):=
 bS (N:=ku) F.fn vP (fun cdv A outer s H E hr=>(aq (ff (aT D_added G_added (hr.mono (by decide)) (aa (aV (dz Q.bj.cl Q.bQ (bh.nm 0)) (bh.nm 1)) (aa (jY (bh.nm 2)) (aa (aV (dz Q.bj.cl Q.bQ (bh.nm 0)) (bh.nm 3)) aj))) (bh.d 0) (bh.g 0)) (dz Q.bj.cl Q.bQ (bh.nm 0)) (bh.nm 1))
  (aq (ff (aT D_added G_added (hr.mono (by decide)) (aa (aV (dz Q.bj.cl Q.dF (bh.nm 0)) (bh.nm 1)) (aa (jY (bh.nm 2)) (aa (aV (dz Q.bj.cl Q.dF (bh.nm 0)) (bh.nm 3)) aj))) (bh.d 0) (bh.g 0)) (dz Q.bj.cl Q.dF (bh.nm 0)) (bh.nm 1))
  (aC (ff (aT D_added G_added (hr.mono (by decide)) (aa (aV (dz Q.bj.cl Q.bU (bh.nm 0)) (bh.nm 3)) (aa (bh.nm 2) (aa (aV (dz Q.bj.cl Q.bU (bh.nm 0)) (bh.nm 1)) aj))) (bh.d 0) (bh.g 0)) (dz Q.bj.cl Q.bU (bh.nm 0)) (bh.nm 3)))))) vT
noncomputable abbrev cR:Stmt:=inClass (top 13) 2
theorem bC:VS (af cR) iC ["exchanged"]:=⟨by decide+kernel⟩
theorem rT:aU iC ["self","k","other"] (af cR):=⟨rfl,rfl,rfl,by decide+kernel,rfl,by decide+kernel,by decide+kernel⟩
theorem rL{f:Addr}{fd:FuncData}(B:Bl mg)(Q:Kl K mg)(F:MethAt K av "exchange" "Bench.exchange" cR ["self","k","other"] f fd){a_exchanged:Addr}{d_exchanged:FuncData}(D_exchanged:aw K mg "exchanged" "exchanged" eN ["rows","k","other"] a_exchanged d_exchanged)(G_exchanged:au P w K mg base aD 1 a_exchanged d_exchanged ["rows","k","other"] (aF g5)):
 au P w K mg base aD 2 f fd ["self","k","other"] (aF gy):=
 bS (N:=iC) F.fn rT (fun cdv A outer s H E hr=>(aq (m9 Q.bj.cl Q.bQ (bC.nm 0) (aT D_exchanged G_exchanged (hr.mono (by decide)) (aa (dz Q.bj.cl Q.bQ (bC.nm 0)) (aa (bC.nm 1) (aa (bC.nm 2) aj))) (bC.d 0) (bC.g 0)))
  (aq (m9 Q.bj.cl Q.dF (bC.nm 0) (aT D_exchanged G_exchanged (hr.mono (by decide)) (aa (dz Q.bj.cl Q.dF (bC.nm 0)) (aa (bC.nm 1) (aa (bC.nm 2) aj))) (bC.d 0) (bC.g 0)))
  (aC (m9 Q.bj.cl Q.bU (bC.nm 0) (aT D_exchanged G_exchanged (hr.mono (by decide)) (aa (dz Q.bj.cl Q.bU (bC.nm 0)) (aa (bC.nm 1) (aa (bC.nm 2) aj))) (bC.d 0) (bC.g 0))))))) rR
noncomputable abbrev cB:Stmt:=inClass (top 13) 3
theorem aW:VS (af cB) gI ["negated"]:=⟨by decide+kernel⟩
theorem o9:aU gI ["self","k"] (af cB):=⟨rfl,rfl,rfl,by decide+kernel,rfl,by decide+kernel,by decide+kernel⟩
theorem o5{f:Addr}{fd:FuncData}(B:Bl mg)(Q:Kl K mg)(F:MethAt K av "change_sign" "Bench.change_sign" cB ["self","k"] f fd){a_negated:Addr}{d_negated:FuncData}(D_negated:aw K mg "negated" "negated" fx ["row"] a_negated d_negated)(G_negated:au P w K mg base aD 1 a_negated d_negated ["row"] (aF jb)):
 au P w K mg base aD 2 f fd ["self","k"] (aF fb):=
 bS (N:=gI) F.fn o9 (fun cdv A outer s H E hr=>(aq (ff (aT D_negated G_negated (hr.mono (by decide)) (aa (aV (dz Q.bj.cl Q.bQ (aW.nm 0)) (aW.nm 1)) aj) (aW.d 0) (aW.g 0)) (dz Q.bj.cl Q.bQ (aW.nm 0)) (aW.nm 1))
  (aq (ff (aT D_negated G_negated (hr.mono (by decide)) (aa (aV (dz Q.bj.cl Q.dF (aW.nm 0)) (aW.nm 1)) aj) (aW.d 0) (aW.g 0)) (dz Q.bj.cl Q.dF (aW.nm 0)) (aW.nm 1))
  (aC (ff (aT D_negated G_negated (hr.mono (by decide)) (aa (aV (dz Q.bj.cl Q.bU (aW.nm 0)) (aW.nm 1)) aj) (aW.d 0) (aW.g 0)) (dz Q.bj.cl Q.bU (aW.nm 0)) (aW.nm 1)))))) pM
noncomputable abbrev bZ:Stmt:=inClass (top 13) 4
theorem du:VS (af bZ) hJ ["len","range","sorted"]:=⟨by decide+kernel⟩
theorem mG:aU hJ ["self","top","place"] (af bZ):=⟨rfl,rfl,rfl,by decide+kernel,rfl,by decide+kernel,by decide+kernel⟩
theorem qH{f:Addr}{fd:FuncData}(B:Bl mg)(Q:Kl K mg)(F:MethAt K av "live_rows" "Bench.live_rows" bZ ["self","top","place"] f fd)(FC:Ic K "live_rows" "Bench.live_rows" bZ f fd 114)(hC:PySem.W.codeHdIn K 114 112=true):
 au P w K mg base aD 3 f fd ["self","top","place"] (aF eX):=
 Jg (N:=hJ) FC mG (fun A outer s H E hr=>(aq (uZ mG.nd (du.l 3) (Nc:=["k","self","place"]) (bI.look (af bZ) ["self","top","place","live"] (by decide+kernel)) (w_ (du.g 1) B.eW (aa (du.nm 1) (aa (dU ft (aa (dz Q.bj.cl Q.bQ (du.nm 0)) aj) B.fq rfl eA (du.d 0) (du.g 0)) aj))) (fun _ _ _ _=>(dM (show(["k","self","place"]:List Str).Nodup by decide+kernel) (by first|exact Or.inl rfl|exact Or.inr rfl) (by first|exact .inl rfl|exact .inr rfl))) (fun _ _ _ _=>(BW (cO Aj (cw _) (aV (aV (dz Q.bj.cl Q.bQ c_) c_) c_) ax))) (fun _ _ _ _=>c_) cQ)
  (aC (bc (Gf (c0:=114) (mP.look (Nc:=["k","self","place"]) (fr:=[none,some 0,some 2]) (p:="k") (bI.look (af bZ) ["self","top","place","live"] (by decide+kernel))) rfl hr rfl hC (fun _ _ _ _=>(dU tF (aa (aV (aV (dz Q.bj.cl Q.bQ c_) c_) c_) aj) B.t9 rfl qJ (by decide+kernel) rfl)) (du.nm 3) (du.g 2) B.DU))))) qd
noncomputable abbrev dm:Stmt:=inClass (top 13) 5
theorem aE:VS (af dm) jw ["len","nearest_quotient"]:=⟨by decide+kernel⟩
theorem gZ:aU jw ["self","top","place"] (af dm):=⟨rfl,rfl,rfl,by decide+kernel,rfl,by decide+kernel,by decide+kernel⟩
theorem ui{f:Addr}{fd:FuncData}(B:Bl mg)(Q:Kl K mg)(F:MethAt K av "gather" "Bench.gather" dm ["self","top","place"] f fd){a_Bench_live_rows:Addr}{d_Bench_live_rows:FuncData}(D_Bench_live_rows:MethAt K av "live_rows" "Bench.live_rows" bZ ["self","top","place"] a_Bench_live_rows d_Bench_live_rows)(G_Bench_live_rows:au P w K mg base aD 3 a_Bench_live_rows d_Bench_live_rows ["self","top","place"] (aF eX)){a_nearest_quotient:Addr}{d_nearest_quotient:FuncData}(D_nearest_quotient:aw K mg "nearest_quotient" "nearest_quotient" cH ["top","bottom"] a_nearest_quotient d_nearest_quotient)(G_nearest_quotient:au P w K mg base aD 1 a_nearest_quotient d_nearest_quotient ["top","bottom"] (aF fA)){a_Bench_take:Addr}{d_Bench_take:FuncData}(D_Bench_take:MethAt K av "take" "Bench.take" dG ["self","k","times","other"] a_Bench_take d_Bench_take)(G_Bench_take:au P w K mg base aD 2 a_Bench_take d_Bench_take ["self","k","times","other"] (aF gB)){a_Bench_exchange:Addr}{d_Bench_exchange:FuncData}(D_Bench_exchange:MethAt K av "exchange" "Bench.exchange" cR ["self","k","other"] a_Bench_exchange d_Bench_exchange)(G_Bench_exchange:au P w K mg base aD 2 a_Bench_exchange d_Bench_exchange ["self","k","other"] (aF gy)){a_Bench_change_sign:Addr}{d_Bench_change_sign:FuncData}(D_Bench_change_sign:MethAt K av "change_sign" "Bench.change_sign" cB ["self","k"] a_Bench_change_sign d_Bench_change_sign)(G_Bench_change_sign:au P w K mg base aD 2 a_Bench_change_sign d_Bench_change_sign ["self","k"] (aF fb)):
 au P w K mg base aD 4 f fd ["self","top","place"] (aF iu):=
 bS (N:=jw) F.fn gZ (fun cdv A outer s H E hr=>(aq (aS gZ.nd (aE.l 3) (mi (aE.nm 0) Q.bj.cl D_Bench_live_rows.me G_Bench_live_rows (hr.mono (by decide)) D_Bench_live_rows.bd (aa (aE.nm 1) (aa (aE.nm 2) aj))))
  (aq (xi (cO A9 (cw _) (dU ft (aa (aE.nm 3) aj) B.fq rfl eA (aE.d 0) (aE.g 0)) ax) (aq (aS gZ.nd (aE.l 4) (aV (aE.nm 3) (jY ax)))
  (aq (aS gZ.nd (aE.l 5) (aV (aE.nm 3) (jY ax)))
  (aq (jB (mi (aE.nm 0) Q.bj.cl D_Bench_take.me G_Bench_take (hr.mono (by decide)) D_Bench_take.bd (aa (aE.nm 4) (aa (aT D_nearest_quotient G_nearest_quotient (hr.mono (by decide)) (aa (aV (aV (dz Q.bj.cl Q.bQ (aE.nm 0)) (aE.nm 4)) (aE.nm 2)) (aa (aV (aV (dz Q.bj.cl Q.bQ (aE.nm 0)) (aE.nm 5)) (aE.nm 2)) aj)) (aE.d 1) (aE.g 1)) (aa (aE.nm 5) aj)))))
  (aC (aS gZ.nd (aE.l 3) (mi (aE.nm 0) Q.bj.cl D_Bench_live_rows.me G_Bench_live_rows (hr.mono (by decide)) D_Bench_live_rows.bd (aa (aE.nm 1) (aa (aE.nm 2) aj)))))))))
  (aq (e9 (cO (oy hr) (cw _) (dU ft (aa (aE.nm 3) aj) B.fq rfl eA (aE.d 0) (aE.g 0)) ax) (aC (bc qz)) eG)
  (aq (jB (mi (aE.nm 0) Q.bj.cl D_Bench_exchange.me G_Bench_exchange (hr.mono (by decide)) D_Bench_exchange.bd (aa (aE.nm 1) (aa (aV (aE.nm 3) ax) aj))))
  (aq (e9 (cO uI (cw _) (aV (aV (dz Q.bj.cl Q.bQ (aE.nm 0)) (aE.nm 1)) (aE.nm 2)) ax) (aC (jB (mi (aE.nm 0) Q.bj.cl D_Bench_change_sign.me G_Bench_change_sign (hr.mono (by decide)) D_Bench_change_sign.bd (aa (aE.nm 1) aj)))) eG)
  (aC (bc qz)))))))) tT
noncomputable abbrev cA:Stmt:=inClass (top 13) 6
theorem cn:VS (af cA) gJ ["range"]:=⟨by decide+kernel⟩
theorem fX:aU gJ ["self","top","place"] (af cA):=⟨rfl,rfl,rfl,by decide+kernel,rfl,by decide+kernel,by decide+kernel⟩
theorem pQ{f:Addr}{fd:FuncData}(B:Bl mg)(Q:Kl K mg)(F:MethAt K av "lower_above" "Bench.lower_above" cA ["self","top","place"] f fd){a_Bench_take:Addr}{d_Bench_take:FuncData}(D_Bench_take:MethAt K av "take" "Bench.take" dG ["self","k","times","other"] a_Bench_take d_Bench_take)(G_Bench_take:au P w K mg base aD 2 a_Bench_take d_Bench_take ["self","k","times","other"] (aF gB)):
 au P w K mg base aD 3 f fd ["self","top","place"] (aF e_):=
 bS (N:=gJ) F.fn fX (fun cdv A outer s H E hr=>(aC (fR (fe (cn.g 0) B.eW (aa (cn.nm 1) aj)) (dM fX.nd (by first|exact Or.inl rfl|exact Or.inr rfl) (by first|exact .inl rfl|exact .inr rfl)) (aC (jB (mi (cn.nm 0) Q.bj.cl D_Bench_take.me G_Bench_take (hr.mono (by decide)) D_Bench_take.bd (aa (cn.nm 3) (aa (bg (rl hr rfl fX.gen fX.co) (aV (aV (dz Q.bj.cl Q.bQ (cn.nm 0)) (cn.nm 3)) (cn.nm 2)) (aV (aV (dz Q.bj.cl Q.bQ (cn.nm 0)) (cn.nm 1)) (cn.nm 2))) (aa (cn.nm 1) aj))))))))) pB
noncomputable abbrev eR:Stmt:=top 14
theorem bo:VS (af eR) mX ["Bench","len","range","turned_over","as_rows"]:=⟨by decide+kernel⟩
theorem iY:aU mX ["rows"] (af eR):=⟨rfl,rfl,rfl,by decide+kernel,rfl,by decide+kernel,by decide+kernel⟩
theorem yA{f:Addr}{fd:FuncData}(B:Bl mg)(Q:Kl K mg)(F:aw K mg "standing" "standing" eR ["rows"] f fd){a_Bench___init__:Addr}{d_Bench___init__:FuncData}(D_Bench___init__:MethAt K av "__init__" "Bench.__init__" cp ["self","rows"] a_Bench___init__ d_Bench___init__)(G_Bench___init__:au P w K mg base aD 3 a_Bench___init__ d_Bench___init__ ["self","rows"] (aF gz)){a_Bench_gather:Addr}{d_Bench_gather:FuncData}(D_Bench_gather:MethAt K av "gather" "Bench.gather" dm ["self","top","place"] a_Bench_gather d_Bench_gather)(G_Bench_gather:au P w K mg base aD 4 a_Bench_gather d_Bench_gather ["self","top","place"] (aF iu)){a_Bench_lower_above:Addr}{d_Bench_lower_above:FuncData}(D_Bench_lower_above:MethAt K av "lower_above" "Bench.lower_above" cA ["self","top","place"] a_Bench_lower_above d_Bench_lower_above)(G_Bench_lower_above:au P w K mg base aD 3 a_Bench_lower_above d_Bench_lower_above ["self","top","place"] (aF e_)){a_turned_over:Addr}{d_turned_over:FuncData}(D_turned_over:aw K mg "turned_over" "turned_over" di ["rows","wide"] a_turned_over d_turned_over)(G_turned_over:au P w K mg base aD 2 a_turned_over d_turned_over ["rows","wide"] (aF iR)){a_as_rows:Addr}{d_as_rows:FuncData}(D_as_rows:aw K mg "as_rows" "as_rows" fy ["rows"] a_as_rows d_as_rows)(G_as_rows:au P w K mg base aD 1 a_as_rows d_as_rows ["rows"] (aF kn)):
 au P w K mg base aD 5 f fd ["rows"] (aF iD):=
 bS (N:=mX) F.fn iY (fun cdv A outer s H E hr=>(aq (aS iY.nd (bo.l 1) (I_ ⟨Q.bj.NH,D_Bench___init__.me.at_,D_Bench___init__.me.fn,Q.bj.kp⟩ G_Bench___init__ (hr.mono (by decide)) (bo.g 0) Q.bj.mg D_Bench___init__.bd (aa (bo.nm 0) aj) (bo.d 0)))
  (aq (aS iY.nd (bo.l 2) ax)
  (aq (fR (fe (bo.g 2) B.eW (aa (dU ft (aa (aV (bo.nm 0) ax) aj) B.fq rfl eA (bo.d 1) (bo.g 1)) aj)) (dM iY.nd (by first|exact Or.inl rfl|exact Or.inr rfl) (by first|exact .inl rfl|exact .inr rfl)) (aC (e9 (tU (mi (bo.nm 1) Q.bj.cl D_Bench_gather.me G_Bench_gather (hr.mono (by decide)) D_Bench_gather.bd (aa (bo.nm 2) (aa (bo.nm 3) aj)))) (aq (jB (mi (bo.nm 1) Q.bj.cl D_Bench_lower_above.me G_Bench_lower_above (hr.mono (by decide)) D_Bench_lower_above.bd (aa (bo.nm 2) (aa (bo.nm 3) aj))))
  (aC (Iv iY.nd (bo.l 2) ax Ir))) eG)))
  (aq (aS iY.nd (bo.l 4) (aT D_turned_over G_turned_over (hr.mono (by decide)) (aa (dz Q.bj.cl Q.bU (bo.nm 1)) (aa (dU ft (aa (bo.nm 0) aj) B.fq rfl eA (bo.d 1) (bo.g 1)) aj)) (bo.d 3) (bo.g 3)))
  (aC (bc (iI (aa (aT D_as_rows G_as_rows (hr.mono (by decide)) (aa (zI (dz Q.bj.cl Q.bQ (bo.nm 1)) y0 (zt (bo.nm 2))) aj) (bo.d 4) (bo.g 4)) (aa (aT D_as_rows G_as_rows (hr.mono (by decide)) (aa (dz Q.bj.cl Q.dF (bo.nm 1)) aj) (bo.d 4) (bo.g 4)) (aa (bo.nm 4) aj))))))))))) yC
noncomputable abbrev fv:Stmt:=top 15
theorem bH:VS (af fv) oa ["list","lead_of","added","tuple"]:=⟨by decide+kernel⟩
theorem iE:aU oa ["form","row"] (af fv):=⟨rfl,rfl,rfl,by decide+kernel,rfl,by decide+kernel,by decide+kernel⟩
theorem A5{f:Addr}{fd:FuncData}(B:Bl mg)(Q:Kl K mg)(F:aw K mg "weighed" "weighed" fv ["form","row"] f fd){a_lead_of:Addr}{d_lead_of:FuncData}(D_lead_of:aw K mg "lead_of" "lead_of" eJ ["row"] a_lead_of d_lead_of)(G_lead_of:au P w K mg base aD 1 a_lead_of d_lead_of ["row"] (aF eZ)){a_added:Addr}{d_added:FuncData}(D_added:aw K mg "added" "added" fB ["row","times","other"] a_added d_added)(G_added:au P w K mg base aD 1 a_added d_added ["row","times","other"] (aF gu)):
 au P w K mg base aD 2 f fd ["form","row"] (aF jq):=
 bS (N:=oa) F.fn iE (fun cdv A outer s H E hr=>(aq (aS iE.nd (bH.l 2) (AO aj))
  (aq (aS iE.nd (bH.l 3) (eg iQ (aa (bH.nm 1) aj) B.ir rfl gm (bH.d 0) (bH.g 0)))
  (aq (fR (gN (bH.nm 0)) (dM iE.nd (by first|exact Or.inl rfl|exact Or.inr rfl) (by first|exact .inl rfl|exact .inr rfl)) (aq (aS iE.nd (bH.l 5) (aT D_lead_of G_lead_of (hr.mono (by decide)) (aa (bH.nm 4) aj) (bH.d 1) (bH.g 1)))
  (aq (aS iE.nd (bH.l 6) (bg oZ (aV (bH.nm 3) (bH.nm 5)) (aV (bH.nm 4) (bH.nm 5))))
  (aq (jB (qv (bH.nm 2) (bH.nm 6)))
  (aC (aS iE.nd (bH.l 3) (aT D_added G_added (hr.mono (by decide)) (aa (bH.nm 3) (aa (jY (bH.nm 6)) (aa (bH.nm 4) aj))) (bH.d 2) (bH.g 2))))))))
  (aC (bc (iI (aa (eg dY (aa (bH.nm 2) aj) B.dN rfl de (bH.d 3) (bH.g 3)) (aa (eg dY (aa (bH.nm 3) aj) B.dN rfl de (bH.d 3) (bH.g 3)) aj))))))))) AU
noncomputable abbrev i0:Stmt:=top 16
theorem qU:VS (af i0) qO ["weighed"]:=⟨by decide+kernel⟩
theorem Dj:aU qO ["form","row"] (af i0):=⟨rfl,rfl,rfl,by decide+kernel,rfl,by decide+kernel,by decide+kernel⟩
theorem EB{f:Addr}{fd:FuncData}(B:Bl mg)(Q:Kl K mg)(F:aw K mg "falls" "falls" i0 ["form","row"] f fd){a_weighed:Addr}{d_weighed:FuncData}(D_weighed:aw K mg "weighed" "weighed" fv ["form","row"] a_weighed d_weighed)(G_weighed:au P w K mg base aD 2 a_weighed d_weighed ["form","row"] (aF jq)):
 au P w K mg base aD 3 f fd ["form","row"] (aF oQ):=
 bS (N:=qO) F.fn Dj (fun cdv A outer s H E hr=>(aC (bc (aV (aT D_weighed G_weighed (hr.mono (by decide)) (aa (qU.nm 0) (aa (qU.nm 1) aj)) (qU.d 0) (qU.g 0)) ax)))) Dn
noncomputable abbrev g6:Stmt:=top 18
theorem dE:VS (af g6) o8 ["abs"]:=⟨by decide+kernel⟩
theorem kc:aU o8 ["one","other"] (af g6):=⟨rfl,rfl,rfl,by decide+kernel,rfl,by decide+kernel,by decide+kernel⟩
theorem C4{f:Addr}{fd:FuncData}(B:Bl mg)(Q:Kl K mg)(F:aw K mg "common" "common" g6 ["one","other"] f fd):
 au P w K mg base aD 1 f fd ["one","other"] (aF nB):=
 bS (N:=o8) F.fn kc (fun cdv A outer s H E hr=>(aq (aS kc.nd (dE.l 2) (dU tF (aa (dE.nm 0) aj) B.t9 rfl qJ (dE.d 0) (dE.g 0)))
  (aq (aS kc.nd (dE.l 3) (dU tF (aa (dE.nm 1) aj) B.t9 rfl qJ (dE.d 0) (dE.g 0)))
  (aq (xi (cO Aj (cw _) (dE.nm 3) ax) (aq (aS kc.nd (dE.l 4) (bg og (dE.nm 2) (dE.nm 3)))
  (aq (aS kc.nd (dE.l 2) (dE.nm 3))
  (aC (aS kc.nd (dE.l 3) (dE.nm 4))))))
  (aC (bc (dE.nm 2))))))) Bm
noncomputable abbrev gY:Stmt:=top 19
theorem iO:VS (af gY) tL ["common"]:=⟨by decide+kernel⟩
theorem kP:aU tL ["top","bottom"] (af gY):=⟨rfl,rfl,rfl,by decide+kernel,rfl,by decide+kernel,by decide+kernel⟩
theorem Gy{f:Addr}{fd:FuncData}(B:Bl mg)(Q:Kl K mg)(F:aw K mg "part" "part" gY ["top","bottom"] f fd){a_common:Addr}{d_common:FuncData}(D_common:aw K mg "common" "common" g6 ["one","other"] a_common d_common)(G_common:au P w K mg base aD 1 a_common d_common ["one","other"] (aF nB)):
 au P w K mg base aD 2 f fd ["top","bottom"] (aF ie):=
 bS (N:=tL) F.fn kP (fun cdv A outer s H E hr=>(aq (aS kP.nd (iO.l 2) (aT D_common G_common (hr.mono (by decide)) (aa (iO.nm 0) (aa (iO.nm 1) aj)) (iO.d 0) (iO.g 0)))
  (aq (e9 (cO uI (cw _) (iO.nm 1) ax) (aC (aS kP.nd (iO.l 2) (jY (iO.nm 2)))) eG)
  (aC (bc (iI (aa (bg (rl hr rfl kP.gen kP.co) (iO.nm 0) (iO.nm 2)) (aa (bg (rl hr rfl kP.gen kP.co) (iO.nm 1) (iO.nm 2)) aj)))))))) Hw
noncomputable abbrev jM:Stmt:=top 20
theorem my:VS (af jM) tN ["part"]:=⟨by decide+kernel⟩
theorem Hu:aU tN ["one","other"] (af jM):=⟨rfl,rfl,rfl,by decide+kernel,rfl,by decide+kernel,by decide+kernel⟩
theorem Ge{f:Addr}{fd:FuncData}(B:Bl mg)(Q:Kl K mg)(F:aw K mg "plus" "plus" jM ["one","other"] f fd){a_part:Addr}{d_part:FuncData}(D_part:aw K mg "part" "part" gY ["top","bottom"] a_part d_part)(G_part:au P w K mg base aD 2 a_part d_part ["top","bottom"] (aF ie)):
 au P w K mg base aD 3 f fd ["one","other"] (aF qu):=
 bS (N:=tN) F.fn Hu (fun cdv A outer s H E hr=>(aC (bc (aT D_part G_part (hr.mono (by decide)) (aa (bg iK (bg cS (aV (my.nm 0) ax) (aV (my.nm 1) ax)) (bg cS (aV (my.nm 1) ax) (aV (my.nm 0) ax))) (aa (bg cS (aV (my.nm 0) ax) (aV (my.nm 1) ax)) aj)) (my.d 0) (my.g 0))))) Hx
noncomputable abbrev i3:Stmt:=top 21
theorem kg:VS (af i3) rf ["part"]:=⟨by decide+kernel⟩
theorem ED:aU rf ["one","other"] (af i3):=⟨rfl,rfl,rfl,by decide+kernel,rfl,by decide+kernel,by decide+kernel⟩
theorem DV{f:Addr}{fd:FuncData}(B:Bl mg)(Q:Kl K mg)(F:aw K mg "minus" "minus" i3 ["one","other"] f fd){a_part:Addr}{d_part:FuncData}(D_part:aw K mg "part" "part" gY ["top","bottom"] a_part d_part)(G_part:au P w K mg base aD 2 a_part d_part ["top","bottom"] (aF ie)):
 au P w K mg base aD 3 f fd ["one","other"] (aF oK):=
 bS (N:=rf) F.fn ED (fun cdv A outer s H E hr=>(aC (bc (aT D_part G_part (hr.mono (by decide)) (aa (bg om (bg cS (aV (kg.nm 0) ax) (aV (kg.nm 1) ax)) (bg cS (aV (kg.nm 1) ax) (aV (kg.nm 0) ax))) (aa (bg cS (aV (kg.nm 0) ax) (aV (kg.nm 1) ax)) aj)) (kg.d 0) (kg.g 0))))) EE
noncomputable abbrev iU:Stmt:=top 22
theorem m7:VS (af iU) rE ["part"]:=⟨by decide+kernel⟩
theorem Eo:aU rE ["one","other"] (af iU):=⟨rfl,rfl,rfl,by decide+kernel,rfl,by decide+kernel,by decide+kernel⟩
theorem DB{f:Addr}{fd:FuncData}(B:Bl mg)(Q:Kl K mg)(F:aw K mg "times" "times" iU ["one","other"] f fd){a_part:Addr}{d_part:FuncData}(D_part:aw K mg "part" "part" gY ["top","bottom"] a_part d_part)(G_part:au P w K mg base aD 2 a_part d_part ["top","bottom"] (aF ie)):
 au P w K mg base aD 3 f fd ["one","other"] (aF oO):=
 bS (N:=rE) F.fn Eo (fun cdv A outer s H E hr=>(aC (bc (aT D_part G_part (hr.mono (by decide)) (aa (bg cS (aV (m7.nm 0) ax) (aV (m7.nm 1) ax)) (aa (bg cS (aV (m7.nm 0) ax) (aV (m7.nm 1) ax)) aj)) (m7.d 0) (m7.g 0))))) DC
noncomputable abbrev jN:Stmt:=top 23
theorem oS:VS (af jN) uy ["part"]:=⟨by decide+kernel⟩
theorem Gk:aU uy ["one","other"] (af jN):=⟨rfl,rfl,rfl,by decide+kernel,rfl,by decide+kernel,by decide+kernel⟩
theorem Gz{f:Addr}{fd:FuncData}(B:Bl mg)(Q:Kl K mg)(F:aw K mg "over" "over" jN ["one","other"] f fd){a_part:Addr}{d_part:FuncData}(D_part:aw K mg "part" "part" gY ["top","bottom"] a_part d_part)(G_part:au P w K mg base aD 2 a_part d_part ["top","bottom"] (aF ie)):
 au P w K mg base aD 3 f fd ["one","other"] (aF qm):=
 bS (N:=uy) F.fn Gk (fun cdv A outer s H E hr=>(aC (bc (aT D_part G_part (hr.mono (by decide)) (aa (bg cS (aV (oS.nm 0) ax) (aV (oS.nm 1) ax)) (aa (bg cS (aV (oS.nm 0) ax) (aV (oS.nm 1) ax)) aj)) (oS.d 0) (oS.g 0))))) Hk
noncomputable abbrev ij:Stmt:=top 24
theorem HG:VS (af ij) qM []:=⟨by decide+kernel⟩
theorem De:aU qM ["n"] (af ij):=⟨rfl,rfl,rfl,by decide+kernel,rfl,by decide+kernel,by decide+kernel⟩
theorem Dr{f:Addr}{fd:FuncData}(B:Bl mg)(Q:Kl K mg)(F:aw K mg "whole" "whole" ij ["n"] f fd):
 au P w K mg base aD 1 f fd ["n"] (aF iS):=
 bS (N:=qM) F.fn De (fun cdv A outer s H E hr=>(aC (bc (iI (aa (HG.nm 0) (aa ax aj)))))) Ed
noncomputable abbrev gg:Stmt:=top 26
theorem qj:VS (af gg) oq ["standing"]:=⟨by decide+kernel⟩
theorem AK:aU oq ["rows"] (af gg):=⟨rfl,rfl,rfl,by decide+kernel,rfl,by decide+kernel,by decide+kernel⟩
theorem Ar{f:Addr}{fd:FuncData}(B:Bl mg)(Q:Kl K mg)(F:aw K mg "form_of" "form_of" gg ["rows"] f fd){a_standing:Addr}{d_standing:FuncData}(D_standing:aw K mg "standing" "standing" eR ["rows"] a_standing d_standing)(G_standing:au P w K mg base aD 5 a_standing d_standing ["rows"] (aF iD)):
 au P w K mg base aD 6 f fd ["rows"] (aF mz):=
 bS (N:=oq) F.fn AK (fun cdv A outer s H E hr=>(aC (bc (aV (aT D_standing G_standing (hr.mono (by decide)) (aa (qj.nm 0) aj) (qj.d 0) (qj.g 0)) ax)))) A7
noncomputable abbrev fh:Stmt:=top 27
theorem fW:VS (af fh) mQ ["added","form_of","falls"]:=⟨by decide+kernel⟩
theorem yP:aU mQ ["rows","one","other"] (af fh):=⟨rfl,rfl,rfl,by decide+kernel,rfl,by decide+kernel,by decide+kernel⟩
theorem yI{f:Addr}{fd:FuncData}(B:Bl mg)(Q:Kl K mg)(F:aw K mg "rest_sum" "rest_sum" fh ["rows","one","other"] f fd){a_added:Addr}{d_added:FuncData}(D_added:aw K mg "added" "added" fB ["row","times","other"] a_added d_added)(G_added:au P w K mg base aD 1 a_added d_added ["row","times","other"] (aF gu)){a_form_of:Addr}{d_form_of:FuncData}(D_form_of:aw K mg "form_of" "form_of" gg ["rows"] a_form_of d_form_of)(G_form_of:au P w K mg base aD 6 a_form_of d_form_of ["rows"] (aF mz)){a_falls:Addr}{d_falls:FuncData}(D_falls:aw K mg "falls" "falls" i0 ["form","row"] a_falls d_falls)(G_falls:au P w K mg base aD 3 a_falls d_falls ["form","row"] (aF oQ)):
 au P w K mg base aD 7 f fd ["rows","one","other"] (aF dA):=
 bS (N:=mQ) F.fn yP (fun cdv A outer s H E hr=>(aC (bc (aT D_falls G_falls (hr.mono (by decide)) (aa (aT D_form_of G_form_of (hr.mono (by decide)) (aa (fW.nm 0) aj) (fW.d 1) (fW.g 1)) (aa (aT D_added G_added (hr.mono (by decide)) (aa (fW.nm 1) (aa ax (aa (fW.nm 2) aj))) (fW.d 0) (fW.g 0)) aj)) (fW.d 2) (fW.g 2))))) yK
noncomputable abbrev eL:Stmt:=top 29
theorem cF:VS (af eL) md ["whole","zip","times","plus"]:=⟨by decide+kernel⟩
theorem kH:aU md ["parts","row"] (af eL):=⟨rfl,rfl,rfl,by decide+kernel,rfl,by decide+kernel,by decide+kernel⟩
theorem wJ{f:Addr}{fd:FuncData}(B:Bl mg)(Q:Kl K mg)(F:aw K mg "parts_dot" "parts_dot" eL ["parts","row"] f fd){a_whole:Addr}{d_whole:FuncData}(D_whole:aw K mg "whole" "whole" ij ["n"] a_whole d_whole)(G_whole:au P w K mg base aD 1 a_whole d_whole ["n"] (aF iS)){a_times:Addr}{d_times:FuncData}(D_times:aw K mg "times" "times" iU ["one","other"] a_times d_times)(G_times:au P w K mg base aD 3 a_times d_times ["one","other"] (aF oO)){a_plus:Addr}{d_plus:FuncData}(D_plus:aw K mg "plus" "plus" jM ["one","other"] a_plus d_plus)(G_plus:au P w K mg base aD 3 a_plus d_plus ["one","other"] (aF qu)):
 au P w K mg base aD 4 f fd ["parts","row"] (aF jP):=
 bS (N:=md) F.fn kH (fun cdv A outer s H E hr=>(aq (aS kH.nd (cF.l 2) (aT D_whole G_whole (hr.mono (by decide)) (aa ax aj) (cF.d 0) (cF.g 0)))
  (aq (fR (nZ (cF.g 1) B.nR (aa (cF.nm 0) (aa (cF.nm 1) aj))) (l_ rfl kH.nd (by first|exact Or.inl rfl|exact Or.inr rfl) (by first|exact .inl rfl|exact .inr rfl) (by first|exact Or.inl rfl|exact Or.inr rfl) (by first|exact .inl rfl|exact .inr rfl)) (aC (aS kH.nd (cF.l 2) (aT D_plus G_plus (hr.mono (by decide)) (aa (cF.nm 2) (aa (aT D_times G_times (hr.mono (by decide)) (aa (cF.nm 3) (aa (aT D_whole G_whole (hr.mono (by decide)) (aa (cF.nm 4) aj) (cF.d 0) (cF.g 0)) aj)) (cF.d 2) (cF.g 2)) aj)) (cF.d 3) (cF.g 3)))))
  (aC (bc (cF.nm 2)))))) yq
noncomputable abbrev eK:Stmt:=top 30
theorem d6:VS (af eK) lu ["lead_of","abs"]:=⟨by decide+kernel⟩
theorem qx:aU lu ["form","rest","place"] (af eK):=⟨rfl,rfl,rfl,by decide+kernel,rfl,by decide+kernel,by decide+kernel⟩
theorem xh{f:Addr}{fd:FuncData}(B:Bl mg)(Q:Kl K mg)(F:aw K mg "bottom_at" "bottom_at" eK ["form","rest","place"] f fd){a_lead_of:Addr}{d_lead_of:FuncData}(D_lead_of:aw K mg "lead_of" "lead_of" eJ ["row"] a_lead_of d_lead_of)(G_lead_of:au P w K mg base aD 1 a_lead_of d_lead_of ["row"] (aF eZ)):
 au P w K mg base aD 2 f fd ["form","rest","place"] (aF jQ):=
 bS (N:=lu) F.fn qx (fun cdv A outer s H E hr=>(aq (fR (gN (d6.nm 0)) (dM qx.nd (by first|exact Or.inl rfl|exact Or.inr rfl) (by first|exact .inl rfl|exact .inr rfl)) (aC (e9 (cO (oy hr) (cw _) (aT D_lead_of G_lead_of (hr.mono (by decide)) (aa (d6.nm 3) aj) (d6.d 0) (d6.g 0)) (d6.nm 2)) (aC (bc (aV (d6.nm 3) (d6.nm 2)))) eG)))
  (aC (bc (bg cS ax (dU tF (aa (aV (d6.nm 1) (d6.nm 2)) aj) B.t9 rfl qJ (d6.d 1) (d6.g 1))))))) xa
noncomputable abbrev cZ:Stmt:=top 31
theorem ao:VS (af cZ) i_ ["lead_of","whole","len","bottom_at","part","range","parts_dot","minus","over","tuple"]:=⟨by decide+kernel⟩
theorem fg:aU i_ ["form","rest"] (af cZ):=⟨rfl,rfl,rfl,by decide+kernel,rfl,by decide+kernel,by decide+kernel⟩
theorem sT{f:Addr}{fd:FuncData}(B:Bl mg)(Q:Kl K mg)(F:aw K mg "parts_against" "parts_against" cZ ["form","rest"] f fd){a_lead_of:Addr}{d_lead_of:FuncData}(D_lead_of:aw K mg "lead_of" "lead_of" eJ ["row"] a_lead_of d_lead_of)(G_lead_of:au P w K mg base aD 1 a_lead_of d_lead_of ["row"] (aF eZ)){a_whole:Addr}{d_whole:FuncData}(D_whole:aw K mg "whole" "whole" ij ["n"] a_whole d_whole)(G_whole:au P w K mg base aD 1 a_whole d_whole ["n"] (aF iS)){a_bottom_at:Addr}{d_bottom_at:FuncData}(D_bottom_at:aw K mg "bottom_at" "bottom_at" eK ["form","rest","place"] a_bottom_at d_bottom_at)(G_bottom_at:au P w K mg base aD 2 a_bottom_at d_bottom_at ["form","rest","place"] (aF jQ)){a_part:Addr}{d_part:FuncData}(D_part:aw K mg "part" "part" gY ["top","bottom"] a_part d_part)(G_part:au P w K mg base aD 2 a_part d_part ["top","bottom"] (aF ie)){a_parts_dot:Addr}{d_parts_dot:FuncData}(D_parts_dot:aw K mg "parts_dot" "parts_dot" eL ["parts","row"] a_parts_dot d_parts_dot)(G_parts_dot:au P w K mg base aD 4 a_parts_dot d_parts_dot ["parts","row"] (aF jP)){a_minus:Addr}{d_minus:FuncData}(D_minus:aw K mg "minus" "minus" i3 ["one","other"] a_minus d_minus)(G_minus:au P w K mg base aD 3 a_minus d_minus ["one","other"] (aF oK)){a_over:Addr}{d_over:FuncData}(D_over:aw K mg "over" "over" jN ["one","other"] a_over d_over)(G_over:au P w K mg base aD 3 a_over d_over ["one","other"] (aF qm)):
 au P w K mg base aD 5 f fd ["form","rest"] (aF gX):=
 bS (N:=i_) F.fn fg (fun cdv A outer s H E hr=>(aq (aS fg.nd (ao.l 2) (aT D_lead_of G_lead_of (hr.mono (by decide)) (aa (ao.nm 1) aj) (ao.d 0) (ao.g 0)))
  (aq (aS fg.nd (ao.l 3) (bg Ct (rg (aa (aT D_whole G_whole (hr.mono (by decide)) (aa ax aj) (ao.d 1) (ao.g 1)) aj)) (dU ft (aa (ao.nm 1) aj) B.fq rfl eA (ao.d 2) (ao.g 2))))
  (aq (ff (aT D_part G_part (hr.mono (by decide)) (aa ax (aa (aT D_bottom_at G_bottom_at (hr.mono (by decide)) (aa (ao.nm 0) (aa (ao.nm 1) (aa (ao.nm 2) aj))) (ao.d 3) (ao.g 3)) aj)) (ao.d 4) (ao.g 4)) (ao.nm 3) (ao.nm 2))
  (aq (fR (DY (ao.g 5) B.eW (aa (bg om (dU ft (aa (ao.nm 0) aj) B.fq rfl eA (ao.d 2) (ao.g 2)) ax) (aa (jY ax) (aa (jY ax) aj)))) (dM fg.nd (by first|exact Or.inl rfl|exact Or.inr rfl) (by first|exact .inl rfl|exact .inr rfl)) (aq (aS fg.nd (ao.l 5) (aT D_lead_of G_lead_of (hr.mono (by decide)) (aa (aV (ao.nm 0) (ao.nm 4)) aj) (ao.d 0) (ao.g 0)))
  (aC (e9 (cO uI (cw _) (ao.nm 5) (ao.nm 2)) (aq (aS fg.nd (ao.l 6) (aT D_minus G_minus (hr.mono (by decide)) (aa (aT D_whole G_whole (hr.mono (by decide)) (aa ax aj) (ao.d 1) (ao.g 1)) (aa (aT D_parts_dot G_parts_dot (hr.mono (by decide)) (aa (ao.nm 3) (aa (aV (ao.nm 0) (ao.nm 4)) aj)) (ao.d 6) (ao.g 6)) aj)) (ao.d 7) (ao.g 7)))
  (aC (ff (aT D_over G_over (hr.mono (by decide)) (aa (ao.nm 6) (aa (aT D_whole G_whole (hr.mono (by decide)) (aa (aV (aV (ao.nm 0) (ao.nm 4)) (ao.nm 5)) aj) (ao.d 1) (ao.g 1)) aj)) (ao.d 8) (ao.g 8)) (ao.nm 3) (ao.nm 5)))) eG))))
  (aC (bc (eg dY (aa (ao.nm 3) aj) B.dN rfl de (ao.d 9) (ao.g 9))))))))) sE
noncomputable abbrev g4:Stmt:=top 32
theorem cj:VS (af g4) o_ ["standing","weighed","lead_of","parts_against","len","sum_by"]:=⟨by decide+kernel⟩
theorem nY:aU o_ ["rows","row"] (af g4):=⟨rfl,rfl,rfl,by decide+kernel,rfl,by decide+kernel,by decide+kernel⟩
theorem BD{f:Addr}{fd:FuncData}(B:Bl mg)(Q:Kl K mg)(F:aw K mg "inside" "inside" g4 ["rows","row"] f fd){a_standing:Addr}{d_standing:FuncData}(D_standing:aw K mg "standing" "standing" eR ["rows"] a_standing d_standing)(G_standing:au P w K mg base aD 5 a_standing d_standing ["rows"] (aF iD)){a_weighed:Addr}{d_weighed:FuncData}(D_weighed:aw K mg "weighed" "weighed" fv ["form","row"] a_weighed d_weighed)(G_weighed:au P w K mg base aD 2 a_weighed d_weighed ["form","row"] (aF jq)){a_lead_of:Addr}{d_lead_of:FuncData}(D_lead_of:aw K mg "lead_of" "lead_of" eJ ["row"] a_lead_of d_lead_of)(G_lead_of:au P w K mg base aD 1 a_lead_of d_lead_of ["row"] (aF eZ)){a_parts_against:Addr}{d_parts_against:FuncData}(D_parts_against:aw K mg "parts_against" "parts_against" cZ ["form","rest"] a_parts_against d_parts_against)(G_parts_against:au P w K mg base aD 5 a_parts_against d_parts_against ["form","rest"] (aF gX)){a_sum_by:Addr}{d_sum_by:FuncData}(D_sum_by:aw K mg "sum_by" "sum_by" g0 ["weights","rows","wide"] a_sum_by d_sum_by)(G_sum_by:au P w K mg base aD 2 a_sum_by d_sum_by ["weights","rows","wide"] (aF nC)):
 au P w K mg base aD 6 f fd ["rows","row"] (aF nK):=
 bS (N:=o_) F.fn nY (fun cdv A outer s H E hr=>(aq (aS nY.nd (cj.l 2) (aT D_standing G_standing (hr.mono (by decide)) (aa (cj.nm 0) aj) (cj.d 0) (cj.g 0)))
  (aq (aS nY.nd (cj.l 3) (aV (cj.nm 2) ax))
  (aq (aS nY.nd (cj.l 4) (aT D_weighed G_weighed (hr.mono (by decide)) (aa (cj.nm 3) (aa (cj.nm 1) aj)) (cj.d 1) (cj.g 1)))
  (aq (e9 (cO Kc (cw _) (aT D_lead_of G_lead_of (hr.mono (by decide)) (aa (aV (cj.nm 4) ax) aj) (cj.d 2) (cj.g 2)) FF) (aC (bc (iI (aa zR (aa (aT D_parts_against G_parts_against (hr.mono (by decide)) (aa (cj.nm 3) (aa (aV (cj.nm 4) ax) aj)) (cj.d 3) (cj.g 3)) aj))))) eG)
  (aC (bc (iI (aa zR (aa (aT D_sum_by G_sum_by (hr.mono (by decide)) (aa (aV (cj.nm 4) ax) (aa (zI (aV (cj.nm 2) ax) y0 (zt (dU ft (aa (cj.nm 3) aj) B.fq rfl eA (cj.d 4) (cj.g 4)))) (aa (dU ft (aa (cj.nm 0) aj) B.fq rfl eA (cj.d 4) (cj.g 4)) aj))) (cj.d 5) (cj.g 5)) aj)))))))))) Cu
noncomputable abbrev d9:Stmt:=top 34
theorem cC:VS (af d9) kD ["len","int"]:=⟨by decide+kernel⟩
theorem mI:aU kD ["_law_script","_law_k"] (af d9):=⟨rfl,rfl,rfl,by decide+kernel,rfl,by decide+kernel,by decide+kernel⟩
theorem vO{f:Addr}{fd:FuncData}(B:Bl mg)(Q:Kl K mg)(F:aw K mg "_law_source" "_law_source" d9 ["_law_script","_law_k"] f fd):
 au P w K mg base aD 1 f fd ["_law_script","_law_k"] (aF js):=
 bS (N:=kD) F.fn mI (fun cdv A outer s H E hr=>(aq (aS mI.nd (cC.l 2) ax)
  (aq (e9 (cO A9 (cw _) (dU ft (aa (cC.nm 0) aj) B.fq rfl eA (cC.d 0) (cC.g 0)) ax) (aC (aS mI.nd (cC.l 2) (aV (cC.nm 0) (bg og (cC.nm 1) (dU ft (aa (cC.nm 0) aj) B.fq rfl eA (cC.d 0) (cC.g 0)))))) eG)
  (aC (bc (AO (aa (bg cS (cC.nm 2) (eg L8 (aa (wg MZ (cw _) (cC.nm 2) (bg qQ ax ax)) aj) B.Fi rfl CH (cC.d 1) (cC.g 1))) (aa (cC.nm 2) (aa (bg cS ax (cC.nm 1)) aj))))))))) vJ
noncomputable abbrev dh:Stmt:=top 35
theorem cE:VS (af dh) mT []:=⟨by decide+kernel⟩
theorem ma:aU mT ["_law_source_here","_law_many"] (af dh):=⟨rfl,rfl,rfl,by decide+kernel,rfl,by decide+kernel,by decide+kernel⟩
theorem yQ{f:Addr}{fd:FuncData}(B:Bl mg)(Q:Kl K mg)(F:aw K mg "_law_take" "_law_take" dh ["_law_source_here","_law_many"] f fd):
 au P w K mg base aD 1 f fd ["_law_source_here","_law_many"] (aF bD):=
 bS (N:=mT) F.fn ma (fun cdv A outer s H E hr=>(aq (e9 (cO A9 (cw _) (aV (cE.nm 0) ax) ax) (aq (aS ma.nd (cE.l 2) (bg og (aV (cE.nm 0) ax) (cE.nm 1)))
  (aq (ff (bg oZ (aV (cE.nm 0) ax) (cE.nm 1)) (cE.nm 0) ax)
  (aC (bc (cE.nm 2))))) eG)
  (aq (ff (bg iK (aV (cE.nm 0) ax) ax) (cE.nm 0) ax)
  (aq (aS ma.nd (cE.l 3) (bg og (bg cS (bg iK (bg iK (bg og (aV (cE.nm 0) ax) ax) (bg cS ax (aV (cE.nm 0) ax))) ax) ax) ax))
  (aq (aS ma.nd (cE.l 3) (bg iK (bg og (bg cS (cE.nm 3) (cE.nm 3)) ax) (bg cS ax (aV (cE.nm 0) ax))))
  (aC (bc (bg og (bg oZ (bg og (bg cS (cE.nm 3) ax) ax) ax) (cE.nm 1))))))))) yR
noncomputable abbrev d7:Stmt:=top 36
theorem bJ:VS (af d7) kq ["_law_take"]:=⟨by decide+kernel⟩
theorem pS:aU kq ["_law_source_here"] (af d7):=⟨rfl,rfl,rfl,by decide+kernel,rfl,by decide+kernel,by decide+kernel⟩
theorem vK{f:Addr}{fd:FuncData}(B:Bl mg)(Q:Kl K mg)(F:aw K mg "_law_number" "_law_number" d7 ["_law_source_here"] f fd){a_law_take:Addr}{d_law_take:FuncData}(D_law_take:aw K mg "_law_take" "_law_take" dh ["_law_source_here","_law_many"] a_law_take d_law_take)(G_law_take:au P w K mg base aD 1 a_law_take d_law_take ["_law_source_here","_law_many"] (aF bD)):
 au P w K mg base aD 2 f fd ["_law_source_here"] (aF jn):=
 bS (N:=kq) F.fn pS (fun cdv A outer s H E hr=>(aq (aS pS.nd (bJ.l 1) (aT D_law_take G_law_take (hr.mono (by decide)) (aa (bJ.nm 0) (aa ax aj)) (bJ.d 0) (bJ.g 0)))
  (aq (e9 (cO uI (cw _) (bJ.nm 1) ax) (aC (bc (bg om (aT D_law_take G_law_take (hr.mono (by decide)) (aa (bJ.nm 0) (aa ax aj)) (bJ.d 0) (bJ.g 0)) ax))) eG)
  (aq (e9 (cO uI (cw _) (bJ.nm 1) ax) (aC (bc (bg om (aT D_law_take G_law_take (hr.mono (by decide)) (aa (bJ.nm 0) (aa ax aj)) (bJ.d 0) (bJ.g 0)) ax))) eG)
  (aC (bc (bg cS (bg iK (bg cS (aT D_law_take G_law_take (hr.mono (by decide)) (aa (bJ.nm 0) (aa (bg qQ ax ax) aj)) (bJ.d 0) (bJ.g 0)) (bg qQ ax ax)) (aT D_law_take G_law_take (hr.mono (by decide)) (aa (bJ.nm 0) (aa (bg qQ ax ax) aj)) (bJ.d 0) (bJ.g 0))) (bg om ax (bg cS ax (aT D_law_take G_law_take (hr.mono (by decide)) (aa (bJ.nm 0) (aa ax aj)) (bJ.d 0) (bJ.g 0))))))))))) vL
noncomputable abbrev cP:Stmt:=top 37
theorem az:VS (af cP) kK ["_law_take","range","len","zip","tuple"]:=⟨by decide+kernel⟩
theorem fI:aU kK ["_law_source_here","_law_rows"] (af cP):=⟨rfl,rfl,rfl,by decide+kernel,rfl,by decide+kernel,by decide+kernel⟩
theorem vV{f:Addr}{fd:FuncData}(B:Bl mg)(Q:Kl K mg)(F:aw K mg "_law_turned" "_law_turned" cP ["_law_source_here","_law_rows"] f fd){a_law_take:Addr}{d_law_take:FuncData}(D_law_take:aw K mg "_law_take" "_law_take" dh ["_law_source_here","_law_many"] a_law_take d_law_take)(G_law_take:au P w K mg base aD 1 a_law_take d_law_take ["_law_source_here","_law_many"] (aF bD)):
 au P w K mg base aD 2 f fd ["_law_source_here","_law_rows"] (aF jr):=
 bS (N:=kK) F.fn fI (fun cdv A outer s H E hr=>(aq (Di fI.nd (az.l 2) (Nc:=["_law_row_here"]) (bI.look (af cP) ["_law_source_here","_law_rows","_law_made","_law_k","_law_i","_law_j","_law_how","_law_by"] (by decide+kernel)) (gN (az.nm 1)) (fun _ _ _ _=>(dM (show(["_law_row_here"]:List Str).Nodup by decide+kernel) (by first|exact Or.inl rfl|exact Or.inr rfl) (by first|exact .inl rfl|exact .inr rfl))) (fun _ _ _ _=>cK) (fun _ _ _ _=>(eg iQ (aa c_ aj) B.ir rfl gm (by decide+kernel) rfl)) cQ)
  (aq (fR (fe (az.g 1) B.eW (aa (aT D_law_take G_law_take (hr.mono (by decide)) (aa (az.nm 0) (aa ax aj)) (az.d 0) (az.g 0)) aj)) (dM fI.nd (by first|exact Or.inl rfl|exact Or.inr rfl) (by first|exact .inl rfl|exact .inr rfl)) (aq (aS fI.nd (az.l 4) (aT D_law_take G_law_take (hr.mono (by decide)) (aa (az.nm 0) (aa (dU ft (aa (az.nm 2) aj) B.fq rfl eA (az.d 2) (az.g 2)) aj)) (az.d 0) (az.g 0)))
  (aq (aS fI.nd (az.l 5) (aT D_law_take G_law_take (hr.mono (by decide)) (aa (az.nm 0) (aa (dU ft (aa (az.nm 2) aj) B.fq rfl eA (az.d 2) (az.g 2)) aj)) (az.d 0) (az.g 0)))
  (aq (aS fI.nd (az.l 6) (aT D_law_take G_law_take (hr.mono (by decide)) (aa (az.nm 0) (aa ax aj)) (az.d 0) (az.g 0)))
  (aC (e9 (cO (oy hr) (cw _) (az.nm 4) (az.nm 5)) (aC (vj (eH (Nc:=["_law_one"]) (bI.look (af cP) ["_law_source_here","_law_rows","_law_made","_law_k","_law_i","_law_j","_law_how","_law_by"] (by decide+kernel)) (gN (aV (az.nm 2) (az.nm 4))) (fun _ _ _ _=>(dM (show(["_law_one"]:List Str).Nodup by decide+kernel) (by first|exact Or.inl rfl|exact Or.inr rfl) (by first|exact .inl rfl|exact .inr rfl))) (fun _ _ _ _=>cK) (fun _ _ _ _=>(jY c_)) cQ) (az.nm 2) (az.nm 4))) (aC (e9 (cO (oy hr) (cw _) (az.nm 6) ax) (aC (Hj (az.nm 2) (az.nm 4) (az.nm 2) (az.nm 5) (iI (aa (aV (az.nm 2) (az.nm 5)) (aa (aV (az.nm 2) (az.nm 4)) aj))))) (aq (aS fI.nd (az.l 7) (aV (rg (aa ax (aa (jY ax) (aa ax (aa (jY ax) aj))))) (aT D_law_take G_law_take (hr.mono (by decide)) (aa (az.nm 0) (aa ax aj)) (az.d 0) (az.g 0))))
  (aC (vj (eH (Nc:=["_law_one","_law_other","_law_by"]) (bI.look (af cP) ["_law_source_here","_law_rows","_law_made","_law_k","_law_i","_law_j","_law_how","_law_by"] (by decide+kernel)) (nZ (az.g 3) B.nR (aa (aV (az.nm 2) (az.nm 4)) (aa (aV (az.nm 2) (az.nm 5)) aj))) (fun _ _ _ _=>(l_ rfl (show(["_law_one","_law_other","_law_by"]:List Str).Nodup by decide+kernel) (by first|exact Or.inl rfl|exact Or.inr rfl) (by first|exact .inl rfl|exact .inr rfl) (by first|exact Or.inl rfl|exact Or.inr rfl) (by first|exact .inl rfl|exact .inr rfl))) (fun _ _ _ _=>cK) (fun _ _ _ _=>(bg iK c_ (bg cS c_ c_))) m_) (az.nm 2) (az.nm 4))))))))))))
  (aC (bc (eg dY (aa (eH (Nc:=["_law_row_here"]) (bI.look (af cP) ["_law_source_here","_law_rows","_law_made","_law_k","_law_i","_law_j","_law_how","_law_by"] (by decide+kernel)) (gN (az.nm 2)) (fun _ _ _ _=>(dM (show(["_law_row_here"]:List Str).Nodup by decide+kernel) (by first|exact Or.inl rfl|exact Or.inr rfl) (by first|exact .inl rfl|exact .inr rfl))) (fun _ _ _ _=>cK) (fun _ _ _ _=>(eg dY (aa c_ aj) B.dN rfl de (by decide+kernel) rfl)) cQ) aj) B.dN rfl de (az.d 4) (az.g 4))))))) vQ
noncomputable abbrev fk:Stmt:=top 38
theorem bK:VS (af fk) mZ ["len","range","_law_take","tuple"]:=⟨by decide+kernel⟩
theorem jH:aU mZ ["_law_source_here","_law_leads_here"] (af fk):=⟨rfl,rfl,rfl,by decide+kernel,rfl,by decide+kernel,by decide+kernel⟩
theorem yT{f:Addr}{fd:FuncData}(B:Bl mg)(Q:Kl K mg)(F:aw K mg "_law_form" "_law_form" fk ["_law_source_here","_law_leads_here"] f fd){a_law_take:Addr}{d_law_take:FuncData}(D_law_take:aw K mg "_law_take" "_law_take" dh ["_law_source_here","_law_many"] a_law_take d_law_take)(G_law_take:au P w K mg base aD 1 a_law_take d_law_take ["_law_source_here","_law_many"] (aF bD)):
 au P w K mg base aD 2 f fd ["_law_source_here","_law_leads_here"] (aF kL):=
 bS (N:=mZ) F.fn jH (fun cdv A outer s H E hr=>(aq (aS jH.nd (bK.l 2) (AO aj))
  (aq (fR (fe (bK.g 1) B.eW (aa (dU ft (aa (bK.nm 1) aj) B.fq rfl eA (bK.d 0) (bK.g 0)) aj)) (dM jH.nd (by first|exact Or.inl rfl|exact Or.inr rfl) (by first|exact .inl rfl|exact .inr rfl)) (aq (aS jH.nd (bK.l 4) (bg KP (bg cS (rg (aa ax aj)) (bK.nm 3)) (rg (aa (aV (bK.nm 1) (bK.nm 3)) aj))))
  (aq (fR (w_ (bK.g 1) B.eW (aa (bg iK (bK.nm 3) ax) (aa (dU ft (aa (bK.nm 1) aj) B.fq rfl eA (bK.d 0) (bK.g 0)) aj))) (dM jH.nd (by first|exact Or.inl rfl|exact Or.inr rfl) (by first|exact .inl rfl|exact .inr rfl)) (aC (jB (qv (bK.nm 4) (aT D_law_take G_law_take (hr.mono (by decide)) (aa (bK.nm 0) (aa (aV (bK.nm 1) (bK.nm 5)) aj)) (bK.d 2) (bK.g 2))))))
  (aC (jB (qv (bK.nm 2) (eg dY (aa (bK.nm 4) aj) B.dN rfl de (bK.d 3) (bK.g 3))))))))
  (aC (bc (bK.nm 2)))))) yS
noncomputable abbrev eB:Stmt:=top 39
theorem ck:VS (af eB) m5 ["list","len","range","zip","tuple"]:=⟨by decide+kernel⟩
theorem iW:aU m5 ["_law_form_here","_law_row_here"] (af eB):=⟨rfl,rfl,rfl,by decide+kernel,rfl,by decide+kernel,by decide+kernel⟩
theorem yN{f:Addr}{fd:FuncData}(B:Bl mg)(Q:Kl K mg)(F:aw K mg "_law_fall" "_law_fall" eB ["_law_form_here","_law_row_here"] f fd):
 au P w K mg base aD 1 f fd ["_law_form_here","_law_row_here"] (aF jC):=
 bS (N:=m5) F.fn iW (fun cdv A outer s H E hr=>(aq (aS iW.nd (ck.l 2) (eg iQ (aa (ck.nm 1) aj) B.ir rfl gm (ck.d 0) (ck.g 0)))
  (aq (fR (gN (ck.nm 0)) (dM iW.nd (by first|exact Or.inl rfl|exact Or.inr rfl) (by first|exact .inl rfl|exact .inr rfl)) (aq (aS iW.nd (ck.l 4) (aV (eH (Nc:=["_law_k","_law_step"]) (bI.look (af eB) ["_law_form_here","_law_row_here","_law_rest","_law_step","_law_lead","_law_many"] (by decide+kernel)) (fe (ck.g 2) B.eW (aa (dU ft (aa (ck.nm 3) aj) B.fq rfl eA (ck.d 1) (ck.g 1)) aj)) (fun _ _ _ _=>(dM (show(["_law_k","_law_step"]:List Str).Nodup by decide+kernel) (by first|exact Or.inl rfl|exact Or.inr rfl) (by first|exact .inl rfl|exact .inr rfl))) (fun _ _ _ _=>(BW (cO Aj (cw _) (aV c_ c_) ax))) (fun _ _ _ _=>c_) cQ) ax))
  (aq (aS iW.nd (ck.l 5) (bg oZ (aV (ck.nm 2) (ck.nm 4)) (aV (ck.nm 3) (ck.nm 4))))
  (aC (uZ iW.nd (ck.l 2) (Nc:=["_law_one","_law_other","_law_many"]) (bI.look (af eB) ["_law_form_here","_law_row_here","_law_rest","_law_step","_law_lead","_law_many"] (by decide+kernel)) (nZ (ck.g 3) B.nR (aa (ck.nm 2) (aa (ck.nm 3) aj))) (fun _ _ _ _=>(l_ rfl (show(["_law_one","_law_other","_law_many"]:List Str).Nodup by decide+kernel) (by first|exact Or.inl rfl|exact Or.inr rfl) (by first|exact .inl rfl|exact .inr rfl) (by first|exact Or.inl rfl|exact Or.inr rfl) (by first|exact .inl rfl|exact .inr rfl))) (fun _ _ _ _=>cK) (fun _ _ _ _=>(bg om c_ (bg cS c_ c_))) m_)))))
  (aC (bc (eg dY (aa (ck.nm 2) aj) B.dN rfl de (ck.d 4) (ck.g 4))))))) yH
noncomputable abbrev eM:Stmt:=top 40
theorem aL:VS (af eM) lD ["_law_take","range","max","min"]:=⟨by decide+kernel⟩
theorem d8:aU lD ["_law_source_here","_law_most"] (af eM):=⟨rfl,rfl,rfl,by decide+kernel,rfl,by decide+kernel,by decide+kernel⟩
theorem wX{f:Addr}{fd:FuncData}(B:Bl mg)(Q:Kl K mg)(F:aw K mg "_law_leads" "_law_leads" eM ["_law_source_here","_law_most"] f fd){a_law_take:Addr}{d_law_take:FuncData}(D_law_take:aw K mg "_law_take" "_law_take" dh ["_law_source_here","_law_many"] a_law_take d_law_take)(G_law_take:au P w K mg base aD 1 a_law_take d_law_take ["_law_source_here","_law_many"] (aF bD)):
 au P w K mg base aD 2 f fd ["_law_source_here","_law_most"] (aF jI):=
 bS (N:=lD) F.fn d8 (fun cdv A outer s H E hr=>(aq (aS d8.nd (aL.l 2) (bg iK ax (aT D_law_take G_law_take (hr.mono (by decide)) (aa (aL.nm 0) (aa ax aj)) (aL.d 0) (aL.g 0))))
  (aq (e9 (cO (oy hr) (cw _) (aT D_law_take G_law_take (hr.mono (by decide)) (aa (aL.nm 0) (aa ax aj)) (aL.d 0) (aL.g 0)) ax) (aC (aS d8.nd (aL.l 2) (bg iK ax (aT D_law_take G_law_take (hr.mono (by decide)) (aa (aL.nm 0) (aa ax aj)) (aL.d 0) (aL.g 0))))) eG)
  (aq (aS d8.nd (aL.l 3) (bg Ct (rg (aa ax aj)) (aL.nm 2)))
  (aq (fR (fe (aL.g 1) B.eW (aa ax aj)) (dM d8.nd (by first|exact Or.inl rfl|exact Or.inr rfl) (by first|exact .inl rfl|exact .inr rfl)) (aq (aS d8.nd (aL.l 5) (aT D_law_take G_law_take (hr.mono (by decide)) (aa (aL.nm 0) (aa (aL.nm 2) aj)) (aL.d 0) (aL.g 0)))
  (aq (aS d8.nd (aL.l 6) (bg iK ax (aT D_law_take G_law_take (hr.mono (by decide)) (aa (aL.nm 0) (aa ax aj)) (aL.d 0) (aL.g 0))))
  (aq (aS d8.nd (aL.l 7) (aL.nm 1))
  (aq (fR (gN (aL.nm 3)) (dM d8.nd (by first|exact Or.inl rfl|exact Or.inr rfl) (by first|exact .inl rfl|exact .inr rfl)) (aC (aS d8.nd (aL.l 7) (bg oZ (aL.nm 7) (aL.nm 8)))))
  (aC (ff (bg cS (aV (aL.nm 3) (aL.nm 5)) (dU (LZ rfl) (aa (aL.nm 6) (aa (dU (Mg rfl) (aa ax (aa (aL.nm 7) aj)) B.La rfl J0 (aL.d 2) (aL.g 2)) aj)) B.Lh rfl Jh (aL.d 3) (aL.g 3))) (aL.nm 3) (aL.nm 5))))))))
  (aC (bc (aL.nm 3)))))))) wN
noncomputable abbrev dn:Stmt:=top 41
theorem aQ:VS (af dn) jx ["_law_leads","_law_form","range","_law_take","len","_law_turned"]:=⟨by decide+kernel⟩
theorem i8:aU jx ["_law_source_here","_law_most"] (af dn):=⟨rfl,rfl,rfl,by decide+kernel,rfl,by decide+kernel,by decide+kernel⟩
theorem uj{f:Addr}{fd:FuncData}(B:Bl mg)(Q:Kl K mg)(F:aw K mg "_law_standing" "_law_standing" dn ["_law_source_here","_law_most"] f fd){a_law_leads:Addr}{d_law_leads:FuncData}(D_law_leads:aw K mg "_law_leads" "_law_leads" eM ["_law_source_here","_law_most"] a_law_leads d_law_leads)(G_law_leads:au P w K mg base aD 2 a_law_leads d_law_leads ["_law_source_here","_law_most"] (aF jI)){a_law_form:Addr}{d_law_form:FuncData}(D_law_form:aw K mg "_law_form" "_law_form" fk ["_law_source_here","_law_leads_here"] a_law_form d_law_form)(G_law_form:au P w K mg base aD 2 a_law_form d_law_form ["_law_source_here","_law_leads_here"] (aF kL)){a_law_take:Addr}{d_law_take:FuncData}(D_law_take:aw K mg "_law_take" "_law_take" dh ["_law_source_here","_law_many"] a_law_take d_law_take)(G_law_take:au P w K mg base aD 1 a_law_take d_law_take ["_law_source_here","_law_many"] (aF bD)){a_law_turned:Addr}{d_law_turned:FuncData}(D_law_turned:aw K mg "_law_turned" "_law_turned" cP ["_law_source_here","_law_rows"] a_law_turned d_law_turned)(G_law_turned:au P w K mg base aD 2 a_law_turned d_law_turned ["_law_source_here","_law_rows"] (aF jr)):
 au P w K mg base aD 3 f fd ["_law_source_here","_law_most"] (aF ib):=
 bS (N:=jx) F.fn i8 (fun cdv A outer s H E hr=>(aq (aS i8.nd (aQ.l 2) (aT D_law_leads G_law_leads (hr.mono (by decide)) (aa (aQ.nm 0) (aa (aQ.nm 1) aj)) (aQ.d 0) (aQ.g 0)))
  (aq (aS i8.nd (aQ.l 3) (aT D_law_form G_law_form (hr.mono (by decide)) (aa (aQ.nm 0) (aa (aQ.nm 2) aj)) (aQ.d 1) (aQ.g 1)))
  (aq (fR (fe (aQ.g 2) B.eW (aa ax aj)) (dM i8.nd (by first|exact Or.inl rfl|exact Or.inr rfl) (by first|exact .inl rfl|exact .inr rfl)) (aC (e9 (tu (IY (cO (oy hr) (cw _) (aT D_law_take G_law_take (hr.mono (by decide)) (aa (aQ.nm 0) (aa ax aj)) (aQ.d 3) (aQ.g 3)) ax) (Gp (cO A9 (cw _) (dU ft (aa (aQ.nm 3) aj) B.fq rfl eA (aQ.d 4) (aQ.g 4)) ax)))) (aC (jB (Ia (aQ.nm 3) (aT D_law_take G_law_take (hr.mono (by decide)) (aa (aQ.nm 0) (aa (dU ft (aa (aQ.nm 3) aj) B.fq rfl eA (aQ.d 4) (aQ.g 4)) aj)) (aQ.d 3) (aQ.g 3))))) eG)))
  (aC (bc (iI (aa (aQ.nm 3) (aa (aT D_law_turned G_law_turned (hr.mono (by decide)) (aa (aQ.nm 0) (aa (aQ.nm 3) aj)) (aQ.d 5) (aQ.g 5)) aj))))))))) t7
noncomputable abbrev eY:Stmt:=top 42
theorem kh:VS (af eY) nW ["range","tuple"]:=⟨by decide+kernel⟩
theorem ug:aU nW ["_law_source_here","_law_wide"] (af eY):=⟨rfl,rfl,rfl,by decide+kernel,rfl,by decide+kernel,by decide+kernel⟩
theorem zT{f:Addr}{fd:FuncData}(B:Bl mg)(Q:Kl K mg)(F:aw K mg "_law_row" "_law_row" eY ["_law_source_here","_law_wide"] f fd){a_law_number:Addr}{d_law_number:FuncData}(D_law_number:aw K mg "_law_number" "_law_number" d7 ["_law_source_here"] a_law_number d_law_number)(G_law_number:au P w K mg base aD 2 a_law_number d_law_number ["_law_source_here"] (aF jn)):
 au P w K mg base aD 3 f fd ["_law_source_here","_law_wide"] (aF mn):=
 bS (N:=nW) F.fn ug (fun cdv A outer s H E hr=>(aq (uZ ug.nd (kh.l 2) (Nc:=["_law_j","_law_source_here"]) (bI.look (af eY) ["_law_source_here","_law_wide","_law_row_here"] (by decide+kernel)) (fe (kh.g 0) B.eW (aa (kh.nm 1) aj)) (fun _ _ _ _=>(dM (show(["_law_j","_law_source_here"]:List Str).Nodup by decide+kernel) (by first|exact Or.inl rfl|exact Or.inr rfl) (by first|exact .inl rfl|exact .inr rfl))) (fun _ _ _ _=>cK) (fun _ _ _ _=>(aT D_law_number G_law_number (hr.mono (by decide)) (aa c_ aj) (by decide+kernel) rfl)) cQ)
  (aC (bc (eg dY (aa (eH (Nc:=["_law_one"]) (bI.look (af eY) ["_law_source_here","_law_wide","_law_row_here"] (by decide+kernel)) (gN (kh.nm 2)) (fun _ _ _ _=>(dM (show(["_law_one"]:List Str).Nodup by decide+kernel) (by first|exact Or.inl rfl|exact Or.inr rfl) (by first|exact .inl rfl|exact .inr rfl))) (fun _ _ _ _=>cK) (fun _ _ _ _=>(E9 (cO uI (cw _) (dU tF (aa c_ aj) B.t9 rfl qJ (by decide+kernel) rfl) (bg qQ ax ax)) c_ (bg oZ c_ ax))) cQ) aj) B.dN rfl de (kh.d 1) (kh.g 1)))))) As
noncomputable abbrev dZ:Stmt:=top 43
theorem jJ:VS (af dZ) lI ["zip","tuple"]:=⟨by decide+kernel⟩
theorem wZ:aU lI ["_law_one","_law_other"] (af dZ):=⟨rfl,rfl,rfl,by decide+kernel,rfl,by decide+kernel,by decide+kernel⟩
theorem wW{f:Addr}{fd:FuncData}(B:Bl mg)(Q:Kl K mg)(F:aw K mg "_law_added" "_law_added" dZ ["_law_one","_law_other"] f fd):
 au P w K mg base aD 1 f fd ["_law_one","_law_other"] (aF g8):=
 bS (N:=lI) F.fn wZ (fun cdv A outer s H E hr=>(aC (bc (eg dY (aa (eH (Nc:=["_law_a","_law_b"]) (bI.look (af dZ) ["_law_one","_law_other"] (by decide+kernel)) (nZ (jJ.g 0) B.nR (aa (jJ.nm 0) (aa (jJ.nm 1) aj))) (fun _ _ _ _=>(l_ rfl (show(["_law_a","_law_b"]:List Str).Nodup by decide+kernel) (by first|exact Or.inl rfl|exact Or.inr rfl) (by first|exact .inl rfl|exact .inr rfl) (by first|exact Or.inl rfl|exact Or.inr rfl) (by first|exact .inl rfl|exact .inr rfl))) (fun _ _ _ _=>cK) (fun _ _ _ _=>(bg iK c_ c_)) m_) aj) B.dN rfl de (jJ.d 1) (jJ.g 1))))) xy
noncomputable abbrev d4:Stmt:=top 44
theorem cY:VS (af d4) lK ["_law_take","zip","tuple"]:=⟨by decide+kernel⟩
theorem jc:aU lK ["_law_source_here","_law_form_here","_law_wide"] (af d4):=⟨rfl,rfl,rfl,by decide+kernel,rfl,by decide+kernel,by decide+kernel⟩
theorem xt{f:Addr}{fd:FuncData}(B:Bl mg)(Q:Kl K mg)(F:aw K mg "_law_inner" "_law_inner" d4 ["_law_source_here","_law_form_here","_law_wide"] f fd){a_law_take:Addr}{d_law_take:FuncData}(D_law_take:aw K mg "_law_take" "_law_take" dh ["_law_source_here","_law_many"] a_law_take d_law_take)(G_law_take:au P w K mg base aD 1 a_law_take d_law_take ["_law_source_here","_law_many"] (aF bD)):
 au P w K mg base aD 2 f fd ["_law_source_here","_law_form_here","_law_wide"] (aF jO):=
 bS (N:=lK) F.fn jc (fun cdv A outer s H E hr=>(aq (aS jc.nd (cY.l 3) (bg cS (iI (aa ax aj)) (cY.nm 2)))
  (aq (fR (gN (cY.nm 1)) (dM jc.nd (by first|exact Or.inl rfl|exact Or.inr rfl) (by first|exact .inl rfl|exact .inr rfl)) (aq (aS jc.nd (cY.l 5) (bg om (aT D_law_take G_law_take (hr.mono (by decide)) (aa (cY.nm 0) (aa ax aj)) (cY.d 0) (cY.g 0)) ax))
  (aC (aS jc.nd (cY.l 3) (eg dY (aa (eH (Nc:=["_law_a","_law_b","_law_many"]) (bI.look (af d4) ["_law_source_here","_law_form_here","_law_wide","_law_row_here","_law_step","_law_many"] (by decide+kernel)) (nZ (cY.g 1) B.nR (aa (cY.nm 3) (aa (cY.nm 4) aj))) (fun _ _ _ _=>(l_ rfl (show(["_law_a","_law_b","_law_many"]:List Str).Nodup by decide+kernel) (by first|exact Or.inl rfl|exact Or.inr rfl) (by first|exact .inl rfl|exact .inr rfl) (by first|exact Or.inl rfl|exact Or.inr rfl) (by first|exact .inl rfl|exact .inr rfl))) (fun _ _ _ _=>cK) (fun _ _ _ _=>(bg iK c_ (bg cS c_ c_))) m_) aj) B.dN rfl de (cY.d 2) (cY.g 2))))))
  (aC (bc (cY.nm 3)))))) wR
noncomputable abbrev eQ:Stmt:=top 45
theorem fm:VS (af eQ) mY ["tuple","isinstance","all"]:=⟨by decide+kernel⟩
theorem yO:aU mY ["_law_found","_law_due"] (af eQ):=⟨rfl,rfl,rfl,by decide+kernel,rfl,by decide+kernel,by decide+kernel⟩
theorem yX{f:Addr}{fd:FuncData}(B:Bl mg)(Q:Kl K mg)(F:aw K mg "_law_same" "_law_same" eQ ["_law_found","_law_due"] f fd):
 au P w K mg base aD 1 f fd ["_law_found","_law_due"] (aF jD):=
 bS (N:=mY) F.fn yO (fun cdv A outer s H E hr=>(aq (e9 (tu (v9 (xX (tU (dU AE (aa (fm.nm 0) (aa (D_ B.dN rfl de (fm.d 0) (fm.g 0)) aj)) B.nF rfl mN (fm.d 1) (fm.g 1)))) (tO (cO (pK hr) (cw _) (fm.nm 0) (fm.nm 1))))) (aC (bc qz)) eG)
  (aC (bc (dU (Fx rfl) (aa (eH (Nc:=["_law_one"]) (bI.look (af eQ) ["_law_found","_law_due"] (by decide+kernel)) (gN (fm.nm 0)) (fun _ _ _ _=>(dM (show(["_law_one"]:List Str).Nodup by decide+kernel) (by first|exact Or.inl rfl|exact Or.inr rfl) (by first|exact .inl rfl|exact .inr rfl))) (fun _ _ _ _=>cK) (fun _ _ _ _=>(LL (dU AE (aa c_ (aa (D_ B.Fi rfl CH (by decide+kernel) rfl) aj)) B.nF rfl mN (by decide+kernel) rfl) (KW (Lv (dU AE (aa c_ (aa (D_ B.KO rfl Hb (by decide+kernel) rfl) aj)) B.nF rfl mN (by decide+kernel) rfl))))) cQ) aj) B.Fp rfl CP (fm.d 2) (fm.g 2)))))) yw
noncomputable abbrev cX:Stmt:=top 46
theorem ag:VS (af cX) lh ["_law_standing","len","range","_law_inner","_law_added","_law_fall","list","rest_sum","_law_same","zip","tuple","inside"]:=⟨by decide+kernel⟩
theorem dH:aU lh ["_law_source_here"] (af cX):=⟨rfl,rfl,rfl,by decide+kernel,rfl,by decide+kernel,by decide+kernel⟩
theorem wO{f:Addr}{fd:FuncData}(B:Bl mg)(Q:Kl K mg)(F:aw K mg "_law_right" "_law_right" cX ["_law_source_here"] f fd){a_law_standing:Addr}{d_law_standing:FuncData}(D_law_standing:aw K mg "_law_standing" "_law_standing" dn ["_law_source_here","_law_most"] a_law_standing d_law_standing)(G_law_standing:au P w K mg base aD 3 a_law_standing d_law_standing ["_law_source_here","_law_most"] (aF ib)){a_law_row:Addr}{d_law_row:FuncData}(D_law_row:aw K mg "_law_row" "_law_row" eY ["_law_source_here","_law_wide"] a_law_row d_law_row)(G_law_row:au P w K mg base aD 3 a_law_row d_law_row ["_law_source_here","_law_wide"] (aF mn)){a_law_inner:Addr}{d_law_inner:FuncData}(D_law_inner:aw K mg "_law_inner" "_law_inner" d4 ["_law_source_here","_law_form_here","_law_wide"] a_law_inner d_law_inner)(G_law_inner:au P w K mg base aD 2 a_law_inner d_law_inner ["_law_source_here","_law_form_here","_law_wide"] (aF jO)){a_law_added:Addr}{d_law_added:FuncData}(D_law_added:aw K mg "_law_added" "_law_added" dZ ["_law_one","_law_other"] a_law_added d_law_added)(G_law_added:au P w K mg base aD 1 a_law_added d_law_added ["_law_one","_law_other"] (aF g8)){a_law_fall:Addr}{d_law_fall:FuncData}(D_law_fall:aw K mg "_law_fall" "_law_fall" eB ["_law_form_here","_law_row_here"] a_law_fall d_law_fall)(G_law_fall:au P w K mg base aD 1 a_law_fall d_law_fall ["_law_form_here","_law_row_here"] (aF jC)){a_rest_sum:Addr}{d_rest_sum:FuncData}(D_rest_sum:aw K mg "rest_sum" "rest_sum" fh ["rows","one","other"] a_rest_sum d_rest_sum)(G_rest_sum:au P w K mg base aD 7 a_rest_sum d_rest_sum ["rows","one","other"] (aF dA)){a_law_same:Addr}{d_law_same:FuncData}(D_law_same:aw K mg "_law_same" "_law_same" eQ ["_law_found","_law_due"] a_law_same d_law_same)(G_law_same:au P w K mg base aD 1 a_law_same d_law_same ["_law_found","_law_due"] (aF jD)){a_inside:Addr}{d_inside:FuncData}(D_inside:aw K mg "inside" "inside" g4 ["rows","row"] a_inside d_inside)(G_inside:au P w K mg base aD 6 a_inside d_inside ["rows","row"] (aF nK)):
 au P w K mg base aD 8 f fd ["_law_source_here"] (aF jS):=
 bS (N:=lh) F.fn dH (fun cdv A outer s H E hr=>(aq (C5 (aT D_law_standing G_law_standing (hr.mono (by decide)) (aa (ag.nm 0) (aa (bg qQ ax ax) aj)) (ag.d 0) (ag.g 0)) (l_ rfl dH.nd (by first|exact Or.inl rfl|exact Or.inr rfl) (by first|exact .inl rfl|exact .inr rfl) (by first|exact Or.inl rfl|exact Or.inr rfl) (by first|exact .inl rfl|exact .inr rfl)))
  (aq (aS dH.nd (ag.l 3) (dU ft (aa (aV (ag.nm 1) ax) aj) B.fq rfl eA (ag.d 1) (ag.g 1)))
  (aq (C5 (eH (Nc:=["_law_k","_law_source_here","_law_wide"]) (bI.look (af cX) ["_law_source_here","_law_form_here","_law_rows","_law_wide","_law_one","_law_other","_law_third","_law_inner_here","_law_due","_law_handed","_law_found","_law_own","_law_like","_law_apart"] (by decide+kernel)) (fe (ag.g 2) B.eW (aa ax aj)) (fun _ _ _ _=>(dM (show(["_law_k","_law_source_here","_law_wide"]:List Str).Nodup by decide+kernel) (by first|exact Or.inl rfl|exact Or.inr rfl) (by first|exact .inl rfl|exact .inr rfl))) (fun _ _ _ _=>cK) (fun _ _ _ _=>(aT D_law_row G_law_row (hr.mono (by decide)) (aa c_ (aa c_ aj)) (by decide+kernel) rfl)) cQ) (Ib rfl dH.nd (by first|exact Or.inl rfl|exact Or.inr rfl) (by first|exact .inl rfl|exact .inr rfl) (by first|exact Or.inl rfl|exact Or.inr rfl) (by first|exact .inl rfl|exact .inr rfl) (by first|exact Or.inl rfl|exact Or.inr rfl) (by first|exact .inl rfl|exact .inr rfl)))
  (aq (aS dH.nd (ag.l 7) (aT D_law_inner G_law_inner (hr.mono (by decide)) (aa (ag.nm 0) (aa (ag.nm 1) (aa (ag.nm 3) aj))) (ag.d 3) (ag.g 3)))
  (aq (aS dH.nd (ag.l 8) (aT D_law_fall G_law_fall (hr.mono (by decide)) (aa (ag.nm 1) (aa (aT D_law_added G_law_added (hr.mono (by decide)) (aa (ag.nm 4) (aa (ag.nm 5) aj)) (ag.d 4) (ag.g 4)) aj)) (ag.d 5) (ag.g 5)))
  (aq (aS dH.nd (ag.l 9) (iI (aa (eH (Nc:=["_law_row_here"]) (bI.look (af cX) ["_law_source_here","_law_form_here","_law_rows","_law_wide","_law_one","_law_other","_law_third","_law_inner_here","_law_due","_law_handed","_law_found","_law_own","_law_like","_law_apart"] (by decide+kernel)) (gN (ag.nm 2)) (fun _ _ _ _=>(dM (show(["_law_row_here"]:List Str).Nodup by decide+kernel) (by first|exact Or.inl rfl|exact Or.inr rfl) (by first|exact .inl rfl|exact .inr rfl))) (fun _ _ _ _=>cK) (fun _ _ _ _=>(eg iQ (aa c_ aj) B.ir rfl gm (by decide+kernel) rfl)) cQ) (aa (eg iQ (aa (ag.nm 4) aj) B.ir rfl gm (ag.d 6) (ag.g 6)) (aa (eg iQ (aa (ag.nm 5) aj) B.ir rfl gm (ag.d 6) (ag.g 6)) aj)))))
  (aq (aS dH.nd (ag.l 10) (aT D_rest_sum G_rest_sum (hr.mono (by decide)) (aa (aV (ag.nm 9) ax) (aa (aV (ag.nm 9) ax) (aa (aV (ag.nm 9) ax) aj))) (ag.d 7) (ag.g 7)))
  (aq (e9 (tu (v9 (xX (tU (aT D_law_same G_law_same (hr.mono (by decide)) (aa (ag.nm 10) (aa (ag.nm 8) aj)) (ag.d 8) (ag.g 8)))) (tO (cO (pK hr) (cw _) (ag.nm 9) (iI (aa (eH (Nc:=["_law_row_here"]) (bI.look (af cX) ["_law_source_here","_law_form_here","_law_rows","_law_wide","_law_one","_law_other","_law_third","_law_inner_here","_law_due","_law_handed","_law_found","_law_own","_law_like","_law_apart"] (by decide+kernel)) (gN (ag.nm 2)) (fun _ _ _ _=>(dM (show(["_law_row_here"]:List Str).Nodup by decide+kernel) (by first|exact Or.inl rfl|exact Or.inr rfl) (by first|exact .inl rfl|exact .inr rfl))) (fun _ _ _ _=>cK) (fun _ _ _ _=>(eg iQ (aa c_ aj) B.ir rfl gm (by decide+kernel) rfl)) cQ) (aa (eg iQ (aa (ag.nm 4) aj) B.ir rfl gm (ag.d 6) (ag.g 6)) (aa (eg iQ (aa (ag.nm 5) aj) B.ir rfl gm (ag.d 6) (ag.g 6)) aj)))))))) (aC (bc qz)) eG)
  (aq (e9 (tu (v9 (cO (pK hr) (cw _) (aT D_rest_sum G_rest_sum (hr.mono (by decide)) (aa (ag.nm 2) (aa (ag.nm 5) (aa (ag.nm 4) aj))) (ag.d 7) (ag.g 7)) (ag.nm 8)) (tO (cO (pK hr) (cw _) (aT D_rest_sum G_rest_sum (hr.mono (by decide)) (aa (ag.nm 2) (aa (aT D_law_added G_law_added (hr.mono (by decide)) (aa (ag.nm 4) (aa (ag.nm 7) aj)) (ag.d 4) (ag.g 4)) (aa (ag.nm 5) aj))) (ag.d 7) (ag.g 7)) (ag.nm 8))))) (aC (bc qz)) eG)
  (aq (aS dH.nd (ag.l 11) (aT D_rest_sum G_rest_sum (hr.mono (by decide)) (aa (ag.nm 2) (aa (ag.nm 4) (aa (bg cS (iI (aa ax aj)) (ag.nm 3)) aj))) (ag.d 7) (ag.g 7)))
  (aq (e9 (tu (v9 (cO (pK hr) (cw _) (ag.nm 11) (aT D_law_fall G_law_fall (hr.mono (by decide)) (aa (ag.nm 1) (aa (ag.nm 4) aj)) (ag.d 5) (ag.g 5))) (tO (cO (pK hr) (cw _) (aT D_rest_sum G_rest_sum (hr.mono (by decide)) (aa (ag.nm 2) (aa (ag.nm 5) (aa (ag.nm 11) aj))) (ag.d 7) (ag.g 7)) (ag.nm 8))))) (aC (bc qz)) eG)
  (aq (e9 (cO (pK hr) (cw _) (aT D_rest_sum G_rest_sum (hr.mono (by decide)) (aa (ag.nm 2) (aa (ag.nm 10) (aa (ag.nm 6) aj))) (ag.d 7) (ag.g 7)) (aT D_rest_sum G_rest_sum (hr.mono (by decide)) (aa (ag.nm 2) (aa (ag.nm 4) (aa (aT D_rest_sum G_rest_sum (hr.mono (by decide)) (aa (ag.nm 2) (aa (ag.nm 5) (aa (ag.nm 6) aj))) (ag.d 7) (ag.g 7)) aj))) (ag.d 7) (ag.g 7))) (aC (bc qz)) eG)
  (aq (e9 (xX (tU (aT D_law_same G_law_same (hr.mono (by decide)) (aa (aT D_rest_sum G_rest_sum (hr.mono (by decide)) (aa (iI (aa (bg cS (iI (aa ax aj)) (ag.nm 3)) aj)) (aa (ag.nm 4) (aa (ag.nm 5) aj))) (ag.d 7) (ag.g 7)) (aa (aT D_law_added G_law_added (hr.mono (by decide)) (aa (ag.nm 4) (aa (ag.nm 5) aj)) (ag.d 4) (ag.g 4)) aj)) (ag.d 8) (ag.g 8)))) (aC (bc qz)) eG)
  (aq (aS dH.nd (ag.l 12) (wg (oy hr) (cw _) (aT D_rest_sum G_rest_sum (hr.mono (by decide)) (aa (ag.nm 2) (aa (ag.nm 5) (aa (bg cS (iI (aa ax aj)) (ag.nm 3)) aj))) (ag.d 7) (ag.g 7)) (ag.nm 11)))
  (aq (aS dH.nd (ag.l 13) (eg dY (aa (eH (Nc:=["_law_a","_law_b"]) (bI.look (af cX) ["_law_source_here","_law_form_here","_law_rows","_law_wide","_law_one","_law_other","_law_third","_law_inner_here","_law_due","_law_handed","_law_found","_law_own","_law_like","_law_apart"] (by decide+kernel)) (nZ (ag.g 9) B.nR (aa (ag.nm 4) (aa (ag.nm 5) aj))) (fun _ _ _ _=>(l_ rfl (show(["_law_a","_law_b"]:List Str).Nodup by decide+kernel) (by first|exact Or.inl rfl|exact Or.inr rfl) (by first|exact .inl rfl|exact .inr rfl) (by first|exact Or.inl rfl|exact Or.inr rfl) (by first|exact .inl rfl|exact .inr rfl))) (fun _ _ _ _=>cK) (fun _ _ _ _=>(bg om c_ c_)) m_) aj) B.dN rfl de (ag.d 10) (ag.g 10)))
  (aC (bc (wg (oy hr) (cw _) (ag.nm 12) (wg (oy hr) (cw _) (aV (aT D_inside G_inside (hr.mono (by decide)) (aa (ag.nm 2) (aa (ag.nm 13) aj)) (ag.d 11) (ag.g 11)) ax) zR)))))))))))))))))))) yi
noncomputable abbrev jz:Stmt:=top 47
theorem AS:VS (af jz) we ["range","all"]:=⟨by decide+kernel⟩
theorem Kn:aU we ["_law_script"] (af jz):=⟨rfl,rfl,rfl,by decide+kernel,rfl,by decide+kernel,by decide+kernel⟩
theorem IH{f:Addr}{fd:FuncData}(B:Bl mg)(Q:Kl K mg)(F:aw K mg "law" "law" jz ["_law_script"] f fd){a_law_source:Addr}{d_law_source:FuncData}(D_law_source:aw K mg "_law_source" "_law_source" d9 ["_law_script","_law_k"] a_law_source d_law_source)(G_law_source:au P w K mg base aD 1 a_law_source d_law_source ["_law_script","_law_k"] (aF js)){a_law_right:Addr}{d_law_right:FuncData}(D_law_right:aw K mg "_law_right" "_law_right" cX ["_law_source_here"] a_law_right d_law_right)(G_law_right:au P w K mg base aD 8 a_law_right d_law_right ["_law_source_here"] (aF jS)):
 au P w K mg base aD 9 f fd ["_law_script"] (aF Bc):=
 bS (N:=we) F.fn Kn (fun cdv A outer s H E hr=>(aC (bc (dU (Fx rfl) (aa (eH (Nc:=["_law_k","_law_script"]) (bI.look (af jz) ["_law_script"] (by decide+kernel)) (fe (AS.g 0) B.eW (aa ax aj)) (fun _ _ _ _=>(dM (show(["_law_k","_law_script"]:List Str).Nodup by decide+kernel) (by first|exact Or.inl rfl|exact Or.inr rfl) (by first|exact .inl rfl|exact .inr rfl))) (fun _ _ _ _=>cK) (fun _ _ _ _=>(aT D_law_right G_law_right (hr.mono (by decide)) (aa (aT D_law_source G_law_source (hr.mono (by decide)) (aa c_ (aa c_ aj)) (by decide+kernel) rfl) aj) (by decide+kernel) rfl)) cQ) aj) B.Fp rfl CP (AS.d 1) (AS.g 1))))) IX
end
theorem all_mk{l:PySem.W.OpenLaw}{w:World}{K:PySem.W.Frag}{h:Heap}{mg:Str→Option Value}{fa:Addr}(X:K.In h)(G:h.Ns mainGlobals mg)(hfa:mg "law"=some (.ref fa))
 {od0 an0:Option Addr} {sl0:Array (Option Value)} {oc0 kV0 dc0 pm0 cd0 ct0:Value} {f0:Addr}
 {od1 an1:Option Addr} {sl1:Array (Option Value)} {oc1 kV1 dc1 pm1 cd1 ct1:Value} {f1:Addr}
 {od2 an2:Option Addr} {sl2:Array (Option Value)} {oc2 kV2 dc2 pm2 cd2 ct2:Value} {f2:Addr}
 {od3 an3:Option Addr} {sl3:Array (Option Value)} {oc3 kV3 dc3 pm3 cd3 ct3:Value} {f3:Addr}
 {od4 an4:Option Addr} {sl4:Array (Option Value)} {oc4 kV4 dc4 pm4 cd4 ct4:Value} {f4:Addr}
 {od5 an5:Option Addr} {sl5:Array (Option Value)} {oc5 kV5 dc5 pm5 cd5 ct5:Value} {f5:Addr}
 {od6 an6:Option Addr} {sl6:Array (Option Value)} {oc6 kV6 dc6 pm6 cd6 ct6:Value} {f6:Addr}
 {od7 an7:Option Addr} {sl7:Array (Option Value)} {oc7 kV7 dc7 pm7 cd7 ct7:Value} {f7:Addr}
 {od8 an8:Option Addr} {sl8:Array (Option Value)} {oc8 kV8 dc8 pm8 cd8 ct8:Value} {f8:Addr}
 {od9 an9:Option Addr} {sl9:Array (Option Value)} {oc9 kV9 dc9 pm9 cd9 ct9:Value} {f9:Addr}
 {od10 an10:Option Addr} {sl10:Array (Option Value)} {oc10 kV10 dc10 pm10 cd10 ct10:Value} {f10:Addr}
 {od11 an11:Option Addr} {sl11:Array (Option Value)} {oc11 kV11 dc11 pm11 cd11 ct11:Value} {f11:Addr}
 {od12 an12:Option Addr} {sl12:Array (Option Value)} {oc12 kV12 dc12 pm12 cd12 ct12:Value} {f12:Addr}
 {od13 an13:Option Addr} {sl13:Array (Option Value)} {oc13 kV13 dc13 pm13 cd13 ct13:Value} {f13:Addr}
 {od14 an14:Option Addr} {sl14:Array (Option Value)} {oc14 kV14 dc14 pm14 cd14 ct14:Value} {f14:Addr}
 {od15 an15:Option Addr} {sl15:Array (Option Value)} {oc15 kV15 dc15 pm15 ct15:Value} {f15:Addr}
 {od16 an16:Option Addr} {sl16:Array (Option Value)} {oc16 kV16 dc16 pm16 cd16 ct16:Value} {f16:Addr}
 {od17 an17:Option Addr} {sl17:Array (Option Value)} {oc17 kV17 dc17 pm17 cd17 ct17:Value} {f17:Addr}
 {od18 an18:Option Addr} {sl18:Array (Option Value)} {oc18 kV18 dc18 pm18 cd18 ct18:Value} {f18:Addr}
 {od19 an19:Option Addr} {sl19:Array (Option Value)} {oc19 kV19 dc19 pm19 cd19 ct19:Value} {f19:Addr}
 {od20 an20:Option Addr} {sl20:Array (Option Value)} {oc20 kV20 dc20 pm20 cd20 ct20:Value} {f20:Addr}
 {od21 an21:Option Addr} {sl21:Array (Option Value)} {oc21 kV21 dc21 pm21 cd21 ct21:Value} {f21:Addr}
 {od22 an22:Option Addr} {sl22:Array (Option Value)} {oc22 kV22 dc22 pm22 cd22 ct22:Value} {f22:Addr}
 {od23 an23:Option Addr} {sl23:Array (Option Value)} {oc23 kV23 dc23 pm23 cd23 ct23:Value} {f23:Addr}
 {od24 an24:Option Addr} {sl24:Array (Option Value)} {oc24 kV24 dc24 pm24 cd24 ct24:Value} {f24:Addr}
 {od25 an25:Option Addr} {sl25:Array (Option Value)} {oc25 kV25 dc25 pm25 cd25 ct25:Value} {f25:Addr}
 {od26 an26:Option Addr} {sl26:Array (Option Value)} {oc26 kV26 dc26 pm26 cd26 ct26:Value} {f26:Addr}
 {od27 an27:Option Addr} {sl27:Array (Option Value)} {oc27 kV27 dc27 pm27 cd27 ct27:Value} {f27:Addr}
 {od28 an28:Option Addr} {sl28:Array (Option Value)} {oc28 kV28 dc28 pm28 cd28 ct28:Value} {f28:Addr}
 {od29 an29:Option Addr} {sl29:Array (Option Value)} {oc29 kV29 dc29 pm29 cd29 ct29:Value} {f29:Addr}
 {od30 an30:Option Addr} {sl30:Array (Option Value)} {oc30 kV30 dc30 pm30 cd30 ct30:Value} {f30:Addr}
 {od31 an31:Option Addr} {sl31:Array (Option Value)} {oc31 kV31 dc31 pm31 cd31 ct31:Value} {f31:Addr}
 {od32 an32:Option Addr} {sl32:Array (Option Value)} {oc32 kV32 dc32 pm32 cd32 ct32:Value} {f32:Addr}
 {od33 an33:Option Addr} {sl33:Array (Option Value)} {oc33 kV33 dc33 pm33 cd33 ct33:Value} {f33:Addr}
 {od34 an34:Option Addr} {sl34:Array (Option Value)} {oc34 kV34 dc34 pm34 cd34 ct34:Value} {f34:Addr}
 {od35 an35:Option Addr} {sl35:Array (Option Value)} {oc35 kV35 dc35 pm35 cd35 ct35:Value} {f35:Addr}
 {od36 an36:Option Addr} {sl36:Array (Option Value)} {oc36 kV36 dc36 pm36 cd36 ct36:Value} {f36:Addr}
 {od37 an37:Option Addr} {sl37:Array (Option Value)} {oc37 kV37 dc37 pm37 cd37 ct37:Value} {f37:Addr}
 {od38 an38:Option Addr} {sl38:Array (Option Value)} {oc38 kV38 dc38 pm38 cd38 ct38:Value} {f38:Addr}
 {od39 an39:Option Addr} {sl39:Array (Option Value)} {oc39 kV39 dc39 pm39 cd39 ct39:Value} {f39:Addr}
 {od40 an40:Option Addr} {sl40:Array (Option Value)} {oc40 kV40 dc40 pm40 cd40 ct40:Value} {f40:Addr}
 {od41 an41:Option Addr} {sl41:Array (Option Value)} {oc41 kV41 dc41 pm41 cd41 ct41:Value} {f41:Addr}
 {od42 an42:Option Addr} {sl42:Array (Option Value)} {oc42 kV42 dc42 pm42 cd42 ct42:Value} {f42:Addr}
 {od43 an43:Option Addr} {sl43:Array (Option Value)} {oc43 kV43 dc43 pm43 cd43 ct43:Value} {f43:Addr}
 {od44 an44:Option Addr} {sl44:Array (Option Value)} {oc44 kV44 dc44 pm44 cd44 ct44:Value} {f44:Addr}
 {od45 an45:Option Addr} {sl45:Array (Option Value)} {oc45 kV45 dc45 pm45 cd45 ct45:Value} {f45:Addr}
 {od46 an46:Option Addr} {sl46:Array (Option Value)} {oc46 kV46 dc46 pm46 cd46 ct46:Value} {f46:Addr}
 {od47 an47:Option Addr} {sl47:Array (Option Value)} {oc47 kV47 dc47 pm47 cd47 ct47:Value} {f47:Addr}
 (a0:PySem.W.nsIn K mainGlobals "as_rows"=some (some (.ref f0))) (l0:K.lookup f0=some ⟨oc0,od0,.func (PySem.W.fnOf "as_rows" "as_rows" (aR fy) (aN fy) (af fy) .none kV0 dc0 pm0 an0 cd0 ct0),sl0⟩) (c0:PySem.W.codeIn K cd0 "as_rows"=true) (k0:PySem.W.keepIn K (.ref f0)=true)
 (a1:PySem.W.nsIn K mainGlobals "added"=some (some (.ref f1))) (l1:K.lookup f1=some ⟨oc1,od1,.func (PySem.W.fnOf "added" "added" (aR fB) (aN fB) (af fB) .none kV1 dc1 pm1 an1 cd1 ct1),sl1⟩) (c1:PySem.W.codeIn K cd1 "added"=true) (k1:PySem.W.keepIn K (.ref f1)=true)
 (a2:PySem.W.nsIn K mainGlobals "sum_by"=some (some (.ref f2))) (l2:K.lookup f2=some ⟨oc2,od2,.func (PySem.W.fnOf "sum_by" "sum_by" (aR g0) (aN g0) (af g0) .none kV2 dc2 pm2 an2 cd2 ct2),sl2⟩) (c2:PySem.W.codeIn K cd2 "sum_by"=true) (k2:PySem.W.keepIn K (.ref f2)=true)
 (a3:PySem.W.nsIn K mainGlobals "column"=some (some (.ref f3))) (l3:K.lookup f3=some ⟨oc3,od3,.func (PySem.W.fnOf "column" "column" (aR gF) (aN gF) (af gF) .none kV3 dc3 pm3 an3 cd3 ct3),sl3⟩) (c3:PySem.W.codeIn K cd3 "column"=true) (k3:PySem.W.keepIn K (.ref f3)=true)
 (a4:PySem.W.nsIn K mainGlobals "turned_over"=some (some (.ref f4))) (l4:K.lookup f4=some ⟨oc4,od4,.func (PySem.W.fnOf "turned_over" "turned_over" (aR di) (aN di) (af di) .none kV4 dc4 pm4 an4 cd4 ct4),sl4⟩) (c4:PySem.W.codeIn K cd4 "turned_over"=true) (k4:PySem.W.keepIn K (.ref f4)=true)
 (a5:PySem.W.nsIn K mainGlobals "unit_row"=some (some (.ref f5))) (l5:K.lookup f5=some ⟨oc5,od5,.func (PySem.W.fnOf "unit_row" "unit_row" (aR eP) (aN eP) (af eP) .none kV5 dc5 pm5 an5 cd5 ct5),sl5⟩) (c5:PySem.W.codeIn K cd5 "unit_row"=true) (k5:PySem.W.keepIn K (.ref f5)=true)
 (a6:PySem.W.nsIn K mainGlobals "unit_rows"=some (some (.ref f6))) (l6:K.lookup f6=some ⟨oc6,od6,.func (PySem.W.fnOf "unit_rows" "unit_rows" (aR d5) (aN d5) (af d5) .none kV6 dc6 pm6 an6 cd6 ct6),sl6⟩) (c6:PySem.W.codeIn K cd6 "unit_rows"=true) (k6:PySem.W.keepIn K (.ref f6)=true)
 (a7:PySem.W.nsIn K mainGlobals "lead_of"=some (some (.ref f7))) (l7:K.lookup f7=some ⟨oc7,od7,.func (PySem.W.fnOf "lead_of" "lead_of" (aR eJ) (aN eJ) (af eJ) .none kV7 dc7 pm7 an7 cd7 ct7),sl7⟩) (c7:PySem.W.codeIn K cd7 "lead_of"=true) (k7:PySem.W.keepIn K (.ref f7)=true)
 (a8:PySem.W.nsIn K mainGlobals "nearest_quotient"=some (some (.ref f8))) (l8:K.lookup f8=some ⟨oc8,od8,.func (PySem.W.fnOf "nearest_quotient" "nearest_quotient" (aR cH) (aN cH) (af cH) .none kV8 dc8 pm8 an8 cd8 ct8),sl8⟩) (c8:PySem.W.codeIn K cd8 "nearest_quotient"=true) (k8:PySem.W.keepIn K (.ref f8)=true)
 (a9:PySem.W.nsIn K mainGlobals "exchanged"=some (some (.ref f9))) (l9:K.lookup f9=some ⟨oc9,od9,.func (PySem.W.fnOf "exchanged" "exchanged" (aR eN) (aN eN) (af eN) .none kV9 dc9 pm9 an9 cd9 ct9),sl9⟩) (c9:PySem.W.codeIn K cd9 "exchanged"=true) (k9:PySem.W.keepIn K (.ref f9)=true)
 (a10:PySem.W.nsIn K mainGlobals "negated"=some (some (.ref f10))) (l10:K.lookup f10=some ⟨oc10,od10,.func (PySem.W.fnOf "negated" "negated" (aR fx) (aN fx) (af fx) .none kV10 dc10 pm10 an10 cd10 ct10),sl10⟩) (c10:PySem.W.codeIn K cd10 "negated"=true) (k10:PySem.W.keepIn K (.ref f10)=true)
 (a11:PySem.W.findIn K (.ref av) "__init__"=some (some (.ref f11))) (i11:PySem.W.isFn K (.ref f11)=true) (l11:K.lookup f11=some ⟨oc11,od11,.func (PySem.W.fnOf "__init__" "Bench.__init__" (aR cp) (aN cp) (af cp) .none kV11 dc11 pm11 an11 cd11 ct11),sl11⟩) (c11:PySem.W.codeIn K cd11 "Bench.__init__"=true) (k11:PySem.W.keepIn K (.ref f11)=true)
 (a12:PySem.W.findIn K (.ref av) "take"=some (some (.ref f12))) (i12:PySem.W.isFn K (.ref f12)=true) (l12:K.lookup f12=some ⟨oc12,od12,.func (PySem.W.fnOf "take" "Bench.take" (aR dG) (aN dG) (af dG) .none kV12 dc12 pm12 an12 cd12 ct12),sl12⟩) (c12:PySem.W.codeIn K cd12 "Bench.take"=true) (k12:PySem.W.keepIn K (.ref f12)=true)
 (a13:PySem.W.findIn K (.ref av) "exchange"=some (some (.ref f13))) (i13:PySem.W.isFn K (.ref f13)=true) (l13:K.lookup f13=some ⟨oc13,od13,.func (PySem.W.fnOf "exchange" "Bench.exchange" (aR cR) (aN cR) (af cR) .none kV13 dc13 pm13 an13 cd13 ct13),sl13⟩) (c13:PySem.W.codeIn K cd13 "Bench.exchange"=true) (k13:PySem.W.keepIn K (.ref f13)=true)
 (a14:PySem.W.findIn K (.ref av) "change_sign"=some (some (.ref f14))) (i14:PySem.W.isFn K (.ref f14)=true) (l14:K.lookup f14=some ⟨oc14,od14,.func (PySem.W.fnOf "change_sign" "Bench.change_sign" (aR cB) (aN cB) (af cB) .none kV14 dc14 pm14 an14 cd14 ct14),sl14⟩) (c14:PySem.W.codeIn K cd14 "Bench.change_sign"=true) (k14:PySem.W.keepIn K (.ref f14)=true)
 (a15:PySem.W.findIn K (.ref av) "live_rows"=some (some (.ref f15))) (i15:PySem.W.isFn K (.ref f15)=true) (l15:K.lookup f15=some ⟨oc15,od15,.func (PySem.W.fnOf "live_rows" "Bench.live_rows" (aR bZ) (aN bZ) (af bZ) .none kV15 dc15 pm15 an15 (.ref 114) ct15),sl15⟩) (c15:PySem.W.codeIn K (.ref 114) "Bench.live_rows"=true) (k15:PySem.W.keepIn K (.ref f15)=true)
 (hC15:PySem.W.codeHdIn K 114 112=true)
 (a16:PySem.W.findIn K (.ref av) "gather"=some (some (.ref f16))) (i16:PySem.W.isFn K (.ref f16)=true) (l16:K.lookup f16=some ⟨oc16,od16,.func (PySem.W.fnOf "gather" "Bench.gather" (aR dm) (aN dm) (af dm) .none kV16 dc16 pm16 an16 cd16 ct16),sl16⟩) (c16:PySem.W.codeIn K cd16 "Bench.gather"=true) (k16:PySem.W.keepIn K (.ref f16)=true)
 (a17:PySem.W.findIn K (.ref av) "lower_above"=some (some (.ref f17))) (i17:PySem.W.isFn K (.ref f17)=true) (l17:K.lookup f17=some ⟨oc17,od17,.func (PySem.W.fnOf "lower_above" "Bench.lower_above" (aR cA) (aN cA) (af cA) .none kV17 dc17 pm17 an17 cd17 ct17),sl17⟩) (c17:PySem.W.codeIn K cd17 "Bench.lower_above"=true) (k17:PySem.W.keepIn K (.ref f17)=true)
 (a18:PySem.W.nsIn K mainGlobals "standing"=some (some (.ref f18))) (l18:K.lookup f18=some ⟨oc18,od18,.func (PySem.W.fnOf "standing" "standing" (aR eR) (aN eR) (af eR) .none kV18 dc18 pm18 an18 cd18 ct18),sl18⟩) (c18:PySem.W.codeIn K cd18 "standing"=true) (k18:PySem.W.keepIn K (.ref f18)=true)
 (a19:PySem.W.nsIn K mainGlobals "weighed"=some (some (.ref f19))) (l19:K.lookup f19=some ⟨oc19,od19,.func (PySem.W.fnOf "weighed" "weighed" (aR fv) (aN fv) (af fv) .none kV19 dc19 pm19 an19 cd19 ct19),sl19⟩) (c19:PySem.W.codeIn K cd19 "weighed"=true) (k19:PySem.W.keepIn K (.ref f19)=true)
 (a20:PySem.W.nsIn K mainGlobals "falls"=some (some (.ref f20))) (l20:K.lookup f20=some ⟨oc20,od20,.func (PySem.W.fnOf "falls" "falls" (aR i0) (aN i0) (af i0) .none kV20 dc20 pm20 an20 cd20 ct20),sl20⟩) (c20:PySem.W.codeIn K cd20 "falls"=true) (k20:PySem.W.keepIn K (.ref f20)=true)
 (a21:PySem.W.nsIn K mainGlobals "common"=some (some (.ref f21))) (l21:K.lookup f21=some ⟨oc21,od21,.func (PySem.W.fnOf "common" "common" (aR g6) (aN g6) (af g6) .none kV21 dc21 pm21 an21 cd21 ct21),sl21⟩) (c21:PySem.W.codeIn K cd21 "common"=true) (k21:PySem.W.keepIn K (.ref f21)=true)
 (a22:PySem.W.nsIn K mainGlobals "part"=some (some (.ref f22))) (l22:K.lookup f22=some ⟨oc22,od22,.func (PySem.W.fnOf "part" "part" (aR gY) (aN gY) (af gY) .none kV22 dc22 pm22 an22 cd22 ct22),sl22⟩) (c22:PySem.W.codeIn K cd22 "part"=true) (k22:PySem.W.keepIn K (.ref f22)=true)
 (a23:PySem.W.nsIn K mainGlobals "plus"=some (some (.ref f23))) (l23:K.lookup f23=some ⟨oc23,od23,.func (PySem.W.fnOf "plus" "plus" (aR jM) (aN jM) (af jM) .none kV23 dc23 pm23 an23 cd23 ct23),sl23⟩) (c23:PySem.W.codeIn K cd23 "plus"=true) (k23:PySem.W.keepIn K (.ref f23)=true)
 (a24:PySem.W.nsIn K mainGlobals "minus"=some (some (.ref f24))) (l24:K.lookup f24=some ⟨oc24,od24,.func (PySem.W.fnOf "minus" "minus" (aR i3) (aN i3) (af i3) .none kV24 dc24 pm24 an24 cd24 ct24),sl24⟩) (c24:PySem.W.codeIn K cd24 "minus"=true) (k24:PySem.W.keepIn K (.ref f24)=true)
 (a25:PySem.W.nsIn K mainGlobals "times"=some (some (.ref f25))) (l25:K.lookup f25=some ⟨oc25,od25,.func (PySem.W.fnOf "times" "times" (aR iU) (aN iU) (af iU) .none kV25 dc25 pm25 an25 cd25 ct25),sl25⟩) (c25:PySem.W.codeIn K cd25 "times"=true) (k25:PySem.W.keepIn K (.ref f25)=true)
 (a26:PySem.W.nsIn K mainGlobals "over"=some (some (.ref f26))) (l26:K.lookup f26=some ⟨oc26,od26,.func (PySem.W.fnOf "over" "over" (aR jN) (aN jN) (af jN) .none kV26 dc26 pm26 an26 cd26 ct26),sl26⟩) (c26:PySem.W.codeIn K cd26 "over"=true) (k26:PySem.W.keepIn K (.ref f26)=true)
 (a27:PySem.W.nsIn K mainGlobals "whole"=some (some (.ref f27))) (l27:K.lookup f27=some ⟨oc27,od27,.func (PySem.W.fnOf "whole" "whole" (aR ij) (aN ij) (af ij) .none kV27 dc27 pm27 an27 cd27 ct27),sl27⟩) (c27:PySem.W.codeIn K cd27 "whole"=true) (k27:PySem.W.keepIn K (.ref f27)=true)
 (a28:PySem.W.nsIn K mainGlobals "form_of"=some (some (.ref f28))) (l28:K.lookup f28=some ⟨oc28,od28,.func (PySem.W.fnOf "form_of" "form_of" (aR gg) (aN gg) (af gg) .none kV28 dc28 pm28 an28 cd28 ct28),sl28⟩) (c28:PySem.W.codeIn K cd28 "form_of"=true) (k28:PySem.W.keepIn K (.ref f28)=true)
 (a29:PySem.W.nsIn K mainGlobals "rest_sum"=some (some (.ref f29))) (l29:K.lookup f29=some ⟨oc29,od29,.func (PySem.W.fnOf "rest_sum" "rest_sum" (aR fh) (aN fh) (af fh) .none kV29 dc29 pm29 an29 cd29 ct29),sl29⟩) (c29:PySem.W.codeIn K cd29 "rest_sum"=true) (k29:PySem.W.keepIn K (.ref f29)=true)
 (a30:PySem.W.nsIn K mainGlobals "parts_dot"=some (some (.ref f30))) (l30:K.lookup f30=some ⟨oc30,od30,.func (PySem.W.fnOf "parts_dot" "parts_dot" (aR eL) (aN eL) (af eL) .none kV30 dc30 pm30 an30 cd30 ct30),sl30⟩) (c30:PySem.W.codeIn K cd30 "parts_dot"=true) (k30:PySem.W.keepIn K (.ref f30)=true)
 (a31:PySem.W.nsIn K mainGlobals "bottom_at"=some (some (.ref f31))) (l31:K.lookup f31=some ⟨oc31,od31,.func (PySem.W.fnOf "bottom_at" "bottom_at" (aR eK) (aN eK) (af eK) .none kV31 dc31 pm31 an31 cd31 ct31),sl31⟩) (c31:PySem.W.codeIn K cd31 "bottom_at"=true) (k31:PySem.W.keepIn K (.ref f31)=true)
 (a32:PySem.W.nsIn K mainGlobals "parts_against"=some (some (.ref f32))) (l32:K.lookup f32=some ⟨oc32,od32,.func (PySem.W.fnOf "parts_against" "parts_against" (aR cZ) (aN cZ) (af cZ) .none kV32 dc32 pm32 an32 cd32 ct32),sl32⟩) (c32:PySem.W.codeIn K cd32 "parts_against"=true) (k32:PySem.W.keepIn K (.ref f32)=true)
 (a33:PySem.W.nsIn K mainGlobals "inside"=some (some (.ref f33))) (l33:K.lookup f33=some ⟨oc33,od33,.func (PySem.W.fnOf "inside" "inside" (aR g4) (aN g4) (af g4) .none kV33 dc33 pm33 an33 cd33 ct33),sl33⟩) (c33:PySem.W.codeIn K cd33 "inside"=true) (k33:PySem.W.keepIn K (.ref f33)=true)
 (a34:PySem.W.nsIn K mainGlobals "_law_source"=some (some (.ref f34))) (l34:K.lookup f34=some ⟨oc34,od34,.func (PySem.W.fnOf "_law_source" "_law_source" (aR d9) (aN d9) (af d9) .none kV34 dc34 pm34 an34 cd34 ct34),sl34⟩) (c34:PySem.W.codeIn K cd34 "_law_source"=true) (k34:PySem.W.keepIn K (.ref f34)=true)
 (a35:PySem.W.nsIn K mainGlobals "_law_take"=some (some (.ref f35))) (l35:K.lookup f35=some ⟨oc35,od35,.func (PySem.W.fnOf "_law_take" "_law_take" (aR dh) (aN dh) (af dh) .none kV35 dc35 pm35 an35 cd35 ct35),sl35⟩) (c35:PySem.W.codeIn K cd35 "_law_take"=true) (k35:PySem.W.keepIn K (.ref f35)=true)
 (a36:PySem.W.nsIn K mainGlobals "_law_number"=some (some (.ref f36))) (l36:K.lookup f36=some ⟨oc36,od36,.func (PySem.W.fnOf "_law_number" "_law_number" (aR d7) (aN d7) (af d7) .none kV36 dc36 pm36 an36 cd36 ct36),sl36⟩) (c36:PySem.W.codeIn K cd36 "_law_number"=true) (k36:PySem.W.keepIn K (.ref f36)=true)
 (a37:PySem.W.nsIn K mainGlobals "_law_turned"=some (some (.ref f37))) (l37:K.lookup f37=some ⟨oc37,od37,.func (PySem.W.fnOf "_law_turned" "_law_turned" (aR cP) (aN cP) (af cP) .none kV37 dc37 pm37 an37 cd37 ct37),sl37⟩) (c37:PySem.W.codeIn K cd37 "_law_turned"=true) (k37:PySem.W.keepIn K (.ref f37)=true)
 (a38:PySem.W.nsIn K mainGlobals "_law_form"=some (some (.ref f38))) (l38:K.lookup f38=some ⟨oc38,od38,.func (PySem.W.fnOf "_law_form" "_law_form" (aR fk) (aN fk) (af fk) .none kV38 dc38 pm38 an38 cd38 ct38),sl38⟩) (c38:PySem.W.codeIn K cd38 "_law_form"=true) (k38:PySem.W.keepIn K (.ref f38)=true)
 (a39:PySem.W.nsIn K mainGlobals "_law_fall"=some (some (.ref f39))) (l39:K.lookup f39=some ⟨oc39,od39,.func (PySem.W.fnOf "_law_fall" "_law_fall" (aR eB) (aN eB) (af eB) .none kV39 dc39 pm39 an39 cd39 ct39),sl39⟩) (c39:PySem.W.codeIn K cd39 "_law_fall"=true) (k39:PySem.W.keepIn K (.ref f39)=true)
 (a40:PySem.W.nsIn K mainGlobals "_law_leads"=some (some (.ref f40))) (l40:K.lookup f40=some ⟨oc40,od40,.func (PySem.W.fnOf "_law_leads" "_law_leads" (aR eM) (aN eM) (af eM) .none kV40 dc40 pm40 an40 cd40 ct40),sl40⟩) (c40:PySem.W.codeIn K cd40 "_law_leads"=true) (k40:PySem.W.keepIn K (.ref f40)=true)
 (a41:PySem.W.nsIn K mainGlobals "_law_standing"=some (some (.ref f41))) (l41:K.lookup f41=some ⟨oc41,od41,.func (PySem.W.fnOf "_law_standing" "_law_standing" (aR dn) (aN dn) (af dn) .none kV41 dc41 pm41 an41 cd41 ct41),sl41⟩) (c41:PySem.W.codeIn K cd41 "_law_standing"=true) (k41:PySem.W.keepIn K (.ref f41)=true)
 (a42:PySem.W.nsIn K mainGlobals "_law_row"=some (some (.ref f42))) (l42:K.lookup f42=some ⟨oc42,od42,.func (PySem.W.fnOf "_law_row" "_law_row" (aR eY) (aN eY) (af eY) .none kV42 dc42 pm42 an42 cd42 ct42),sl42⟩) (c42:PySem.W.codeIn K cd42 "_law_row"=true) (k42:PySem.W.keepIn K (.ref f42)=true)
 (a43:PySem.W.nsIn K mainGlobals "_law_added"=some (some (.ref f43))) (l43:K.lookup f43=some ⟨oc43,od43,.func (PySem.W.fnOf "_law_added" "_law_added" (aR dZ) (aN dZ) (af dZ) .none kV43 dc43 pm43 an43 cd43 ct43),sl43⟩) (c43:PySem.W.codeIn K cd43 "_law_added"=true) (k43:PySem.W.keepIn K (.ref f43)=true)
 (a44:PySem.W.nsIn K mainGlobals "_law_inner"=some (some (.ref f44))) (l44:K.lookup f44=some ⟨oc44,od44,.func (PySem.W.fnOf "_law_inner" "_law_inner" (aR d4) (aN d4) (af d4) .none kV44 dc44 pm44 an44 cd44 ct44),sl44⟩) (c44:PySem.W.codeIn K cd44 "_law_inner"=true) (k44:PySem.W.keepIn K (.ref f44)=true)
 (a45:PySem.W.nsIn K mainGlobals "_law_same"=some (some (.ref f45))) (l45:K.lookup f45=some ⟨oc45,od45,.func (PySem.W.fnOf "_law_same" "_law_same" (aR eQ) (aN eQ) (af eQ) .none kV45 dc45 pm45 an45 cd45 ct45),sl45⟩) (c45:PySem.W.codeIn K cd45 "_law_same"=true) (k45:PySem.W.keepIn K (.ref f45)=true)
 (a46:PySem.W.nsIn K mainGlobals "_law_right"=some (some (.ref f46))) (l46:K.lookup f46=some ⟨oc46,od46,.func (PySem.W.fnOf "_law_right" "_law_right" (aR cX) (aN cX) (af cX) .none kV46 dc46 pm46 an46 cd46 ct46),sl46⟩) (c46:PySem.W.codeIn K cd46 "_law_right"=true) (k46:PySem.W.keepIn K (.ref f46)=true)
 (a47:PySem.W.nsIn K mainGlobals "law"=some (some (.ref f47))) (l47:K.lookup f47=some ⟨oc47,od47,.func (PySem.W.fnOf "law" "law" (aR jz) (aN jz) (af jz) .none kV47 dc47 pm47 an47 cd47 ct47),sl47⟩) (c47:PySem.W.codeIn K cd47 "law"=true) (k47:PySem.W.keepIn K (.ref f47)=true)
 (z_tuple:PySem.W.nsIn K mainGlobals "tuple"=some none)
 (z_zip:PySem.W.nsIn K mainGlobals "zip"=some none)
 (z_range:PySem.W.nsIn K mainGlobals "range"=some none)
 (z_enumerate:PySem.W.nsIn K mainGlobals "enumerate"=some none)
 (z_list:PySem.W.nsIn K mainGlobals "list"=some none)
 (z_len:PySem.W.nsIn K mainGlobals "len"=some none)
 (z_abs:PySem.W.nsIn K mainGlobals "abs"=some none)
 (z_sorted:PySem.W.nsIn K mainGlobals "sorted"=some none)
 (z_int:PySem.W.nsIn K mainGlobals "int"=some none)
 (z_max:PySem.W.nsIn K mainGlobals "max"=some none)
 (z_min:PySem.W.nsIn K mainGlobals "min"=some none)
 (z_isinstance:PySem.W.nsIn K mainGlobals "isinstance"=some none)
 (z_bool:PySem.W.nsIn K mainGlobals "bool"=some none)
 (z_all:PySem.W.nsIn K mainGlobals "all"=some none)
 (ca_Bench:PySem.W.nsIn K mainGlobals "Bench"=some (some (.ref av))) (cb_Bench:PySem.W.plainGet K av Str.empty=true) (cc_Bench:PySem.W.hasDictIn K av=true) (cd_Bench:PySem.W.plainOver K av=true) (ce_Bench:PySem.W.findIn K (.ref av) "__setattr__"=some (some (.builtin "object.__setattr__"))) (cf_Bench:PySem.W.makesIn K av=true) (cg_Bench:PySem.W.keepIn K (.ref av)=true)
 (bQ:PySem.W.findIn K (.ref av) "body"=some none)
 (dF:PySem.W.findIn K (.ref av) "turn"=some none)
 (bU:PySem.W.findIn K (.ref av) "back_columns"=some none)
 (nl:xf K=true):
 ∃fd:FuncData,(∀(s:Shared) (v:Value),BindsTo s fd ⟨[v],[]⟩ [("_law_script",v)])∧∀base:Heap,K.In base→base.Ns mainGlobals mg→au l.prog w K mg base aD 9 fa fd ["_law_script"] (ue K [(114,112)]):=by
 have e:=hfa.symm.trans (PySem.W.mg_of X G a47)
 cases e
 have B:Bl mg:=⟨PySem.W.mg_none_of X G z_tuple,PySem.W.mg_none_of X G z_zip,PySem.W.mg_none_of X G z_range,PySem.W.mg_none_of X G z_enumerate,PySem.W.mg_none_of X G z_list,PySem.W.mg_none_of X G z_len,PySem.W.mg_none_of X G z_abs,PySem.W.mg_none_of X G z_sorted,PySem.W.mg_none_of X G z_int,PySem.W.mg_none_of X G z_max,PySem.W.mg_none_of X G z_min,PySem.W.mg_none_of X G z_isinstance,PySem.W.mg_none_of X G z_bool,PySem.W.mg_none_of X G z_all⟩
 have Q:Kl K mg:=⟨⟨⟨cb_Bench,cc_Bench,cd_Bench,ce_Bench⟩,PySem.W.mg_of X G ca_Bench,cf_Bench,cg_Bench⟩,bQ,dF,bU⟩
 have F0:=bF (st:=fy) l0 c0 k0
 have D0:aw K mg "as_rows" "as_rows" fy ["rows"] f0 _:=⟨F0,PySem.W.mg_of X G a0,sh F0 fun _ _ _ _ _ _ _=>rfl⟩
 have F1:=bF (st:=fB) l1 c1 k1
 have D1:aw K mg "added" "added" fB ["row","times","other"] f1 _:=⟨F1,PySem.W.mg_of X G a1,rZ F1 fun _ _ _ _ _ _ _ _ _=>rfl⟩
 have F2:=bF (st:=g0) l2 c2 k2
 have D2:aw K mg "sum_by" "sum_by" g0 ["weights","rows","wide"] f2 _:=⟨F2,PySem.W.mg_of X G a2,rZ F2 fun _ _ _ _ _ _ _ _ _=>rfl⟩
 have F3:=bF (st:=gF) l3 c3 k3
 have D3:aw K mg "column" "column" gF ["rows","place"] f3 _:=⟨F3,PySem.W.mg_of X G a3,h9 F3 fun _ _ _ _ _ _ _ _=>rfl⟩
 have F4:=bF (st:=di) l4 c4 k4
 have D4:aw K mg "turned_over" "turned_over" di ["rows","wide"] f4 _:=⟨F4,PySem.W.mg_of X G a4,h9 F4 fun _ _ _ _ _ _ _ _=>rfl⟩
 have F5:=bF (st:=eP) l5 c5 k5
 have D5:aw K mg "unit_row" "unit_row" eP ["n","place"] f5 _:=⟨F5,PySem.W.mg_of X G a5,h9 F5 fun _ _ _ _ _ _ _ _=>rfl⟩
 have F6:=bF (st:=d5) l6 c6 k6
 have D6:aw K mg "unit_rows" "unit_rows" d5 ["n"] f6 _:=⟨F6,PySem.W.mg_of X G a6,sh F6 fun _ _ _ _ _ _ _=>rfl⟩
 have F7:=bF (st:=eJ) l7 c7 k7
 have D7:aw K mg "lead_of" "lead_of" eJ ["row"] f7 _:=⟨F7,PySem.W.mg_of X G a7,sh F7 fun _ _ _ _ _ _ _=>rfl⟩
 have F8:=bF (st:=cH) l8 c8 k8
 have D8:aw K mg "nearest_quotient" "nearest_quotient" cH ["top","bottom"] f8 _:=⟨F8,PySem.W.mg_of X G a8,h9 F8 fun _ _ _ _ _ _ _ _=>rfl⟩
 have F9:=bF (st:=eN) l9 c9 k9
 have D9:aw K mg "exchanged" "exchanged" eN ["rows","k","other"] f9 _:=⟨F9,PySem.W.mg_of X G a9,rZ F9 fun _ _ _ _ _ _ _ _ _=>rfl⟩
 have F10:=bF (st:=fx) l10 c10 k10
 have D10:aw K mg "negated" "negated" fx ["row"] f10 _:=⟨F10,PySem.W.mg_of X G a10,sh F10 fun _ _ _ _ _ _ _=>rfl⟩
 have F11:=bF (st:=cp) l11 c11 k11
 have D11:MethAt K av "__init__" "Bench.__init__" cp ["self","rows"] f11 _:=⟨F11,⟨a11,i11,k11⟩,h9 F11 fun _ _ _ _ _ _ _ _=>rfl⟩
 have F12:=bF (st:=dG) l12 c12 k12
 have D12:MethAt K av "take" "Bench.take" dG ["self","k","times","other"] f12 _:=⟨F12,⟨a12,i12,k12⟩,NG F12 fun _ _ _ _ _ _ _ _ _ _=>rfl⟩
 have F13:=bF (st:=cR) l13 c13 k13
 have D13:MethAt K av "exchange" "Bench.exchange" cR ["self","k","other"] f13 _:=⟨F13,⟨a13,i13,k13⟩,rZ F13 fun _ _ _ _ _ _ _ _ _=>rfl⟩
 have F14:=bF (st:=cB) l14 c14 k14
 have D14:MethAt K av "change_sign" "Bench.change_sign" cB ["self","k"] f14 _:=⟨F14,⟨a14,i14,k14⟩,h9 F14 fun _ _ _ _ _ _ _ _=>rfl⟩
 have F15:=bF (st:=bZ) l15 c15 k15
 have D15:MethAt K av "live_rows" "Bench.live_rows" bZ ["self","top","place"] f15 _:=⟨F15,⟨a15,i15,k15⟩,rZ F15 fun _ _ _ _ _ _ _ _ _=>rfl⟩
 have F16:=bF (st:=dm) l16 c16 k16
 have D16:MethAt K av "gather" "Bench.gather" dm ["self","top","place"] f16 _:=⟨F16,⟨a16,i16,k16⟩,rZ F16 fun _ _ _ _ _ _ _ _ _=>rfl⟩
 have F17:=bF (st:=cA) l17 c17 k17
 have D17:MethAt K av "lower_above" "Bench.lower_above" cA ["self","top","place"] f17 _:=⟨F17,⟨a17,i17,k17⟩,rZ F17 fun _ _ _ _ _ _ _ _ _=>rfl⟩
 have F18:=bF (st:=eR) l18 c18 k18
 have D18:aw K mg "standing" "standing" eR ["rows"] f18 _:=⟨F18,PySem.W.mg_of X G a18,sh F18 fun _ _ _ _ _ _ _=>rfl⟩
 have F19:=bF (st:=fv) l19 c19 k19
 have D19:aw K mg "weighed" "weighed" fv ["form","row"] f19 _:=⟨F19,PySem.W.mg_of X G a19,h9 F19 fun _ _ _ _ _ _ _ _=>rfl⟩
 have F20:=bF (st:=i0) l20 c20 k20
 have D20:aw K mg "falls" "falls" i0 ["form","row"] f20 _:=⟨F20,PySem.W.mg_of X G a20,h9 F20 fun _ _ _ _ _ _ _ _=>rfl⟩
 have F21:=bF (st:=g6) l21 c21 k21
 have D21:aw K mg "common" "common" g6 ["one","other"] f21 _:=⟨F21,PySem.W.mg_of X G a21,h9 F21 fun _ _ _ _ _ _ _ _=>rfl⟩
 have F22:=bF (st:=gY) l22 c22 k22
 have D22:aw K mg "part" "part" gY ["top","bottom"] f22 _:=⟨F22,PySem.W.mg_of X G a22,h9 F22 fun _ _ _ _ _ _ _ _=>rfl⟩
 have F23:=bF (st:=jM) l23 c23 k23
 have D23:aw K mg "plus" "plus" jM ["one","other"] f23 _:=⟨F23,PySem.W.mg_of X G a23,h9 F23 fun _ _ _ _ _ _ _ _=>rfl⟩
 have F24:=bF (st:=i3) l24 c24 k24
 have D24:aw K mg "minus" "minus" i3 ["one","other"] f24 _:=⟨F24,PySem.W.mg_of X G a24,h9 F24 fun _ _ _ _ _ _ _ _=>rfl⟩
 have F25:=bF (st:=iU) l25 c25 k25
 have D25:aw K mg "times" "times" iU ["one","other"] f25 _:=⟨F25,PySem.W.mg_of X G a25,h9 F25 fun _ _ _ _ _ _ _ _=>rfl⟩
 have F26:=bF (st:=jN) l26 c26 k26
 have D26:aw K mg "over" "over" jN ["one","other"] f26 _:=⟨F26,PySem.W.mg_of X G a26,h9 F26 fun _ _ _ _ _ _ _ _=>rfl⟩
 have F27:=bF (st:=ij) l27 c27 k27
 have D27:aw K mg "whole" "whole" ij ["n"] f27 _:=⟨F27,PySem.W.mg_of X G a27,sh F27 fun _ _ _ _ _ _ _=>rfl⟩
 have F28:=bF (st:=gg) l28 c28 k28
 have D28:aw K mg "form_of" "form_of" gg ["rows"] f28 _:=⟨F28,PySem.W.mg_of X G a28,sh F28 fun _ _ _ _ _ _ _=>rfl⟩
 have F29:=bF (st:=fh) l29 c29 k29
 have D29:aw K mg "rest_sum" "rest_sum" fh ["rows","one","other"] f29 _:=⟨F29,PySem.W.mg_of X G a29,rZ F29 fun _ _ _ _ _ _ _ _ _=>rfl⟩
 have F30:=bF (st:=eL) l30 c30 k30
 have D30:aw K mg "parts_dot" "parts_dot" eL ["parts","row"] f30 _:=⟨F30,PySem.W.mg_of X G a30,h9 F30 fun _ _ _ _ _ _ _ _=>rfl⟩
 have F31:=bF (st:=eK) l31 c31 k31
 have D31:aw K mg "bottom_at" "bottom_at" eK ["form","rest","place"] f31 _:=⟨F31,PySem.W.mg_of X G a31,rZ F31 fun _ _ _ _ _ _ _ _ _=>rfl⟩
 have F32:=bF (st:=cZ) l32 c32 k32
 have D32:aw K mg "parts_against" "parts_against" cZ ["form","rest"] f32 _:=⟨F32,PySem.W.mg_of X G a32,h9 F32 fun _ _ _ _ _ _ _ _=>rfl⟩
 have F33:=bF (st:=g4) l33 c33 k33
 have D33:aw K mg "inside" "inside" g4 ["rows","row"] f33 _:=⟨F33,PySem.W.mg_of X G a33,h9 F33 fun _ _ _ _ _ _ _ _=>rfl⟩
 have F34:=bF (st:=d9) l34 c34 k34
 have D34:aw K mg "_law_source" "_law_source" d9 ["_law_script","_law_k"] f34 _:=⟨F34,PySem.W.mg_of X G a34,h9 F34 fun _ _ _ _ _ _ _ _=>rfl⟩
 have F35:=bF (st:=dh) l35 c35 k35
 have D35:aw K mg "_law_take" "_law_take" dh ["_law_source_here","_law_many"] f35 _:=⟨F35,PySem.W.mg_of X G a35,h9 F35 fun _ _ _ _ _ _ _ _=>rfl⟩
 have F36:=bF (st:=d7) l36 c36 k36
 have D36:aw K mg "_law_number" "_law_number" d7 ["_law_source_here"] f36 _:=⟨F36,PySem.W.mg_of X G a36,sh F36 fun _ _ _ _ _ _ _=>rfl⟩
 have F37:=bF (st:=cP) l37 c37 k37
 have D37:aw K mg "_law_turned" "_law_turned" cP ["_law_source_here","_law_rows"] f37 _:=⟨F37,PySem.W.mg_of X G a37,h9 F37 fun _ _ _ _ _ _ _ _=>rfl⟩
 have F38:=bF (st:=fk) l38 c38 k38
 have D38:aw K mg "_law_form" "_law_form" fk ["_law_source_here","_law_leads_here"] f38 _:=⟨F38,PySem.W.mg_of X G a38,h9 F38 fun _ _ _ _ _ _ _ _=>rfl⟩
 have F39:=bF (st:=eB) l39 c39 k39
 have D39:aw K mg "_law_fall" "_law_fall" eB ["_law_form_here","_law_row_here"] f39 _:=⟨F39,PySem.W.mg_of X G a39,h9 F39 fun _ _ _ _ _ _ _ _=>rfl⟩
 have F40:=bF (st:=eM) l40 c40 k40
 have D40:aw K mg "_law_leads" "_law_leads" eM ["_law_source_here","_law_most"] f40 _:=⟨F40,PySem.W.mg_of X G a40,h9 F40 fun _ _ _ _ _ _ _ _=>rfl⟩
 have F41:=bF (st:=dn) l41 c41 k41
 have D41:aw K mg "_law_standing" "_law_standing" dn ["_law_source_here","_law_most"] f41 _:=⟨F41,PySem.W.mg_of X G a41,h9 F41 fun _ _ _ _ _ _ _ _=>rfl⟩
 have F42:=bF (st:=eY) l42 c42 k42
 have D42:aw K mg "_law_row" "_law_row" eY ["_law_source_here","_law_wide"] f42 _:=⟨F42,PySem.W.mg_of X G a42,h9 F42 fun _ _ _ _ _ _ _ _=>rfl⟩
 have F43:=bF (st:=dZ) l43 c43 k43
 have D43:aw K mg "_law_added" "_law_added" dZ ["_law_one","_law_other"] f43 _:=⟨F43,PySem.W.mg_of X G a43,h9 F43 fun _ _ _ _ _ _ _ _=>rfl⟩
 have F44:=bF (st:=d4) l44 c44 k44
 have D44:aw K mg "_law_inner" "_law_inner" d4 ["_law_source_here","_law_form_here","_law_wide"] f44 _:=⟨F44,PySem.W.mg_of X G a44,rZ F44 fun _ _ _ _ _ _ _ _ _=>rfl⟩
 have F45:=bF (st:=eQ) l45 c45 k45
 have D45:aw K mg "_law_same" "_law_same" eQ ["_law_found","_law_due"] f45 _:=⟨F45,PySem.W.mg_of X G a45,h9 F45 fun _ _ _ _ _ _ _ _=>rfl⟩
 have F46:=bF (st:=cX) l46 c46 k46
 have D46:aw K mg "_law_right" "_law_right" cX ["_law_source_here"] f46 _:=⟨F46,PySem.W.mg_of X G a46,sh F46 fun _ _ _ _ _ _ _=>rfl⟩
 have F47:=bF (st:=jz) l47 c47 k47
 have D47:aw K mg "law" "law" jz ["_law_script"] fa _:=⟨F47,PySem.W.mg_of X G a47,sh F47 fun _ _ _ _ _ _ _=>rfl⟩
 refine⟨PySem.W.fnOf "law" "law" (aR jz) (aN jz) (af jz) .none kV47 dc47 pm47 an47 cd47 ct47,fun s v=> .of_eq rfl,fun base _ _=>?_⟩
 have G0:au l.prog w K mg base aD 1 f0 _ ["rows"] (aF kn):=Ac B Q D0
 have G1:au l.prog w K mg base aD 1 f1 _ ["row","times","other"] (aF gu):=Dy B Q D1
 have G2:au l.prog w K mg base aD 2 f2 _ ["weights","rows","wide"] (aF nC):=Bs B Q D2 D1 G1
 have G3:au l.prog w K mg base aD 1 f3 _ ["rows","place"] (aF nI):=CM B Q D3
 have G4:au l.prog w K mg base aD 2 f4 _ ["rows","wide"] (aF iR):=vb B Q D4 D3 G3
 have G5:au l.prog w K mg base aD 1 f5 _ ["n","place"] (aF kF):=yL B Q D5
 have G6:au l.prog w K mg base aD 2 f6 _ ["n"] (aF iV):=wD B Q D6 D5 G5
 have G7:au l.prog w K mg base aD 1 f7 _ ["row"] (aF eZ):=zX B Q D7
 have G8:au l.prog w K mg base aD 1 f8 _ ["top","bottom"] (aF fA):=pY B Q D8
 have G9:au l.prog w K mg base aD 1 f9 _ ["rows","k","other"] (aF g5):=xF B Q D9
 have G10:au l.prog w K mg base aD 1 f10 _ ["row"] (aF jb):=zO B Q D10
 have G11:au l.prog w K mg base aD 3 f11 _ ["self","rows"] (aF gz):=rS B Q D11 D6 G6
 have G12:au l.prog w K mg base aD 2 f12 _ ["self","k","times","other"] (aF gB):=vU B Q D12 D1 G1
 have G13:au l.prog w K mg base aD 2 f13 _ ["self","k","other"] (aF gy):=rL B Q D13 D9 G9
 have G14:au l.prog w K mg base aD 2 f14 _ ["self","k"] (aF fb):=o5 B Q D14 D10 G10
 have G15:au l.prog w K mg base aD 3 f15 _ ["self","top","place"] (aF eX):=qH B Q D15 ⟨⟨_,_,_,_,_,_,_,_,rfl,l15,c15⟩⟩ hC15
 have G16:au l.prog w K mg base aD 4 f16 _ ["self","top","place"] (aF iu):=ui B Q D16 D15 G15 D8 G8 D12 G12 D13 G13 D14 G14
 have G17:au l.prog w K mg base aD 3 f17 _ ["self","top","place"] (aF e_):=pQ B Q D17 D12 G12
 have G18:au l.prog w K mg base aD 5 f18 _ ["rows"] (aF iD):=yA B Q D18 D11 G11 D16 G16 D17 G17 D4 G4 D0 G0
 have G19:au l.prog w K mg base aD 2 f19 _ ["form","row"] (aF jq):=A5 B Q D19 D7 G7 D1 G1
 have G20:au l.prog w K mg base aD 3 f20 _ ["form","row"] (aF oQ):=EB B Q D20 D19 G19
 have G21:au l.prog w K mg base aD 1 f21 _ ["one","other"] (aF nB):=C4 B Q D21
 have G22:au l.prog w K mg base aD 2 f22 _ ["top","bottom"] (aF ie):=Gy B Q D22 D21 G21
 have G23:au l.prog w K mg base aD 3 f23 _ ["one","other"] (aF qu):=Ge B Q D23 D22 G22
 have G24:au l.prog w K mg base aD 3 f24 _ ["one","other"] (aF oK):=DV B Q D24 D22 G22
 have G25:au l.prog w K mg base aD 3 f25 _ ["one","other"] (aF oO):=DB B Q D25 D22 G22
 have G26:au l.prog w K mg base aD 3 f26 _ ["one","other"] (aF qm):=Gz B Q D26 D22 G22
 have G27:au l.prog w K mg base aD 1 f27 _ ["n"] (aF iS):=Dr B Q D27
 have G28:au l.prog w K mg base aD 6 f28 _ ["rows"] (aF mz):=Ar B Q D28 D18 G18
 have G29:au l.prog w K mg base aD 7 f29 _ ["rows","one","other"] (aF dA):=yI B Q D29 D1 G1 D28 G28 D20 G20
 have G30:au l.prog w K mg base aD 4 f30 _ ["parts","row"] (aF jP):=wJ B Q D30 D27 G27 D25 G25 D23 G23
 have G31:au l.prog w K mg base aD 2 f31 _ ["form","rest","place"] (aF jQ):=xh B Q D31 D7 G7
 have G32:au l.prog w K mg base aD 5 f32 _ ["form","rest"] (aF gX):=sT B Q D32 D7 G7 D27 G27 D31 G31 D22 G22 D30 G30 D24 G24 D26 G26
 have G33:au l.prog w K mg base aD 6 f33 _ ["rows","row"] (aF nK):=BD B Q D33 D18 G18 D19 G19 D7 G7 D32 G32 D2 G2
 have G34:au l.prog w K mg base aD 1 f34 _ ["_law_script","_law_k"] (aF js):=vO B Q D34
 have G35:au l.prog w K mg base aD 1 f35 _ ["_law_source_here","_law_many"] (aF bD):=yQ B Q D35
 have G36:au l.prog w K mg base aD 2 f36 _ ["_law_source_here"] (aF jn):=vK B Q D36 D35 G35
 have G37:au l.prog w K mg base aD 2 f37 _ ["_law_source_here","_law_rows"] (aF jr):=vV B Q D37 D35 G35
 have G38:au l.prog w K mg base aD 2 f38 _ ["_law_source_here","_law_leads_here"] (aF kL):=yT B Q D38 D35 G35
 have G39:au l.prog w K mg base aD 1 f39 _ ["_law_form_here","_law_row_here"] (aF jC):=yN B Q D39
 have G40:au l.prog w K mg base aD 2 f40 _ ["_law_source_here","_law_most"] (aF jI):=wX B Q D40 D35 G35
 have G41:au l.prog w K mg base aD 3 f41 _ ["_law_source_here","_law_most"] (aF ib):=uj B Q D41 D40 G40 D38 G38 D35 G35 D37 G37
 have G42:au l.prog w K mg base aD 3 f42 _ ["_law_source_here","_law_wide"] (aF mn):=zT B Q D42 D36 G36
 have G43:au l.prog w K mg base aD 1 f43 _ ["_law_one","_law_other"] (aF g8):=wW B Q D43
 have G44:au l.prog w K mg base aD 2 f44 _ ["_law_source_here","_law_form_here","_law_wide"] (aF jO):=xt B Q D44 D35 G35
 have G45:au l.prog w K mg base aD 1 f45 _ ["_law_found","_law_due"] (aF jD):=yX B Q D45
 have G46:au l.prog w K mg base aD 8 f46 _ ["_law_source_here"] (aF jS):=wO B Q D46 D41 G41 D42 G42 D44 G44 D43 G43 D39 G39 D29 G29 D45 G45 D33 G33
 have G47:au l.prog w K mg base aD 9 fa _ ["_law_script"] (aF Bc):=IH B Q D47 D34 G34 D46 G46
 exact G47.imp fun vs H Q E h=>Bi (tl:=[(112,⟨58,32,58,66⟩,"Bench.live_rows.<locals>.<lambda>")]) nl rfl (by decide) h
theorem walk{l:PySem.W.OpenLaw}{q:Program}{loose:List Str}{XP:(Str→Option Value)→Heap→Prop}{YP:World→Heap→Prop}{d:DefRec}{K:Params→PySem.W.Frag}(hn:l.most=some 63)(hdf:d.params.defaults=[])(hq:importsNone q=true)(hgt:l.prog.given.tree=none)
 (hY:∀(w:World) (h:Heap),YP w h→(K w.params).In h∧EJ (K w.params) [(114,112)] h)
 (F:∀(w:World) (mg:Str→Option Value) (fa:Addr) (h:Heap),(K w.params).In h→h.Ns mainGlobals mg→mg d.name=some (.ref fa)→
   ∃fd:FuncData,(∀(s:Shared) (u:Value),BindsTo s fd ⟨[u],[]⟩ [("_law_script",u)])∧∀base:Heap,(K w.params).In base→base.Ns mainGlobals mg→au l.prog w (K w.params) mg base aD 9 fa fd ["_law_script"] (ue (K w.params) [(114,112)])):
 PySem.W.WalkO q loose XP YP l.row.toRowW d [] (fun f vs=>PySem.call f vs):=
 L2.LW (n:=63) (k:=9) (x:="_law_script") (ts:=[(114,112)]) (sp:=fun w=>ue (K w.params) [(114,112)]) hn (by decide) hdf ⟨rfl,by decide,by decide⟩ hq hgt hY F fun _ _ a ns hl hE=>⟨a,ns,rfl,hE,hl,fun _=>rfl⟩
end Row
open PySem PySem.W PyProof.Rows
noncomputable def Row.KX(P:Params):PySem.W.Frag:=[Hd.k 3 (Hd.no P 51 [Hd.e "__name__" 165 (.str "law_latticeworks_k27_sums_of_rests" 514),Hd.e "__doc__" 166 .none,Hd.e "__package__" 167 .none,Hd.e "__loader__" 168 (.builtin "__main__.__loader__#opaque"),Hd.e "__spec__" 169 .none,Hd.e "__annotations__" 170 (.ref 6),Hd.e "__builtins__" 171 (.ref 4),Hd.e "__file__" 173 (.str "/claim/cut.py" 172),Hd.e "__cached__" 174 .none,Hd.e "as_rows" 194 (.ref 19),Hd.e "added" 200 (.ref 24),Hd.e "sum_by" 212 (.ref 31),Hd.e "column" 218 (.ref 36),Hd.e "turned_over" 224 (.ref 41),Hd.e "unit_row" 230 (.ref 46),Hd.e "unit_rows" 236 (.ref 51),Hd.e "lead_of" 247 (.ref 58),Hd.e "nearest_quotient" 255 (.ref 65),Hd.e "exchanged" 265 (.ref 72),Hd.e "negated" 271 (.ref 77),Hd.e "Bench" 355 (.ref 132),Hd.e "standing" 366 (.ref 143),Hd.e "weighed" 379 (.ref 150),Hd.e "falls" 387 (.ref 157),Hd.e "common" 400 (.ref 164),Hd.e "part" 409 (.ref 171),Hd.e "plus" 417 (.ref 178),Hd.e "minus" 425 (.ref 185),Hd.e "times" 433 (.ref 192),Hd.e "over" 441 (.ref 199),Hd.e "whole" 448 (.ref 206),Hd.e "form_of" 457 (.ref 213),Hd.e "rest_sum" 466 (.ref 220),Hd.e "parts_dot" 479 (.ref 227),Hd.e "bottom_at" 489 (.ref 234),Hd.e "parts_against" 502 (.ref 241),Hd.e "inside" 513 (.ref 248),Hd.e "_law_source" 524 (.ref 255),Hd.e "_law_take" 534 (.ref 262),Hd.e "_law_number" 542 (.ref 269),Hd.e "_law_turned" 548 (.ref 274),Hd.e "_law_form" 560 (.ref 281),Hd.e "_law_fall" 566 (.ref 286),Hd.e "_law_leads" 581 (.ref 293),Hd.e "_law_standing" 592 (.ref 300),Hd.e "_law_row" 598 (.ref 305),Hd.e "_law_added" 604 (.ref 310),Hd.e "_law_inner" 610 (.ref 315),Hd.e "_law_same" 616 (.ref 320),Hd.e "_law_right" 622 (.ref 325),Hd.e "law" 628 (.ref 330)]),
 Hd.k 18 (⟨(.type "code"),none,(.fields #[(.str "as_rows" 189),(.str "as_rows" 190),(.str "/claim/cut.py" 191),(.int (2) 0),(.int (1) 0),(.int (0) 0),(.int (0) 0),(.int (3) 0),(.ref 15),(.bool true),(.int (181) 0),(.ref 16),.none,.none,.none,(.ref 17),(.int (192) 0),(.int (2) 0),(.str "/claim/cut.py" 193)]),#[]⟩),
 Hd.k 19 (Hd.fo Row.fy "as_rows" "as_rows" (.str "latticeworks.rows" 187) (.ref 18)),
 Hd.k 23 (⟨(.type "code"),none,(.fields #[(.str "added" 195),(.str "added" 196),(.str "/claim/cut.py" 197),(.int (4) 0),(.int (3) 0),(.int (0) 0),(.int (0) 0),(.int (3) 0),(.ref 20),(.bool true),(.int (181) 0),(.ref 21),.none,.none,.none,(.ref 22),(.int (198) 0),(.int (4) 0),(.str "/claim/cut.py" 199)]),#[]⟩),
 Hd.k 24 (Hd.fo Row.fB "added" "added" (.str "latticeworks.rows" 187) (.ref 23)),
 Hd.k 30 (⟨(.type "code"),none,(.fields #[(.str "sum_by" 201),(.str "sum_by" 202),(.str "/claim/cut.py" 203),(.int (6) 0),(.int (3) 0),(.int (0) 0),(.int (0) 0),(.int (3) 0),(.ref 25),(.bool true),(.int (181) 0),(.ref 26),.none,(.ref 27),(.ref 28),(.ref 29),(.int (210) 0),(.int (6) 0),(.str "/claim/cut.py" 211)]),#[]⟩),
 Hd.k 31 (Hd.fo Row.g0 "sum_by" "sum_by" (.str "latticeworks.rows" 187) (.ref 30)),
 Hd.k 35 (⟨(.type "code"),none,(.fields #[(.str "column" 213),(.str "column" 214),(.str "/claim/cut.py" 215),(.int (11) 0),(.int (2) 0),(.int (0) 0),(.int (0) 0),(.int (3) 0),(.ref 32),(.bool true),(.int (181) 0),(.ref 33),.none,.none,.none,(.ref 34),(.int (216) 0),(.int (11) 0),(.str "/claim/cut.py" 217)]),#[]⟩),
 Hd.k 36 (Hd.fo Row.gF "column" "column" (.str "latticeworks.rows" 187) (.ref 35)),
 Hd.k 40 (⟨(.type "code"),none,(.fields #[(.str "turned_over" 219),(.str "turned_over" 220),(.str "/claim/cut.py" 221),(.int (13) 0),(.int (2) 0),(.int (0) 0),(.int (0) 0),(.int (3) 0),(.ref 37),(.bool true),(.int (181) 0),(.ref 38),.none,.none,.none,(.ref 39),(.int (222) 0),(.int (13) 0),(.str "/claim/cut.py" 223)]),#[]⟩),
 Hd.k 41 (Hd.fo Row.di "turned_over" "turned_over" (.str "latticeworks.rows" 187) (.ref 40)),
 Hd.k 45 (⟨(.type "code"),none,(.fields #[(.str "unit_row" 225),(.str "unit_row" 226),(.str "/claim/cut.py" 227),(.int (15) 0),(.int (2) 0),(.int (0) 0),(.int (0) 0),(.int (3) 0),(.ref 42),(.bool true),(.int (181) 0),(.ref 43),.none,.none,.none,(.ref 44),(.int (228) 0),(.int (15) 0),(.str "/claim/cut.py" 229)]),#[]⟩),
 Hd.k 46 (Hd.fo Row.eP "unit_row" "unit_row" (.str "latticeworks.rows" 187) (.ref 45)),
 Hd.k 50 (⟨(.type "code"),none,(.fields #[(.str "unit_rows" 231),(.str "unit_rows" 232),(.str "/claim/cut.py" 233),(.int (17) 0),(.int (1) 0),(.int (0) 0),(.int (0) 0),(.int (3) 0),(.ref 47),(.bool true),(.int (181) 0),(.ref 48),.none,.none,.none,(.ref 49),(.int (234) 0),(.int (17) 0),(.str "/claim/cut.py" 235)]),#[]⟩),
 Hd.k 51 (Hd.fo Row.d5 "unit_rows" "unit_rows" (.str "latticeworks.rows" 187) (.ref 50)),
 Hd.k 57 (⟨(.type "code"),none,(.fields #[(.str "lead_of" 239),(.str "lead_of" 240),(.str "/claim/cut.py" 241),(.int (20) 0),(.int (1) 0),(.int (0) 0),(.int (0) 0),(.int (3) 0),(.ref 52),(.bool true),(.int (181) 0),(.ref 53),.none,(.ref 54),(.ref 55),(.ref 56),(.int (245) 0),(.int (20) 0),(.str "/claim/cut.py" 246)]),#[]⟩),
 Hd.k 58 (Hd.fo Row.eJ "lead_of" "lead_of" (.str "latticeworks.standing" 237) (.ref 57)),
 Hd.k 64 (⟨(.type "code"),none,(.fields #[(.str "nearest_quotient" 248),(.str "nearest_quotient" 249),(.str "/claim/cut.py" 250),(.int (25) 0),(.int (2) 0),(.int (0) 0),(.int (0) 0),(.int (3) 0),(.ref 59),(.bool true),(.int (181) 0),(.ref 60),.none,(.ref 61),(.ref 62),(.ref 63),(.int (253) 0),(.int (25) 0),(.str "/claim/cut.py" 254)]),#[]⟩),
 Hd.k 65 (Hd.fo Row.cH "nearest_quotient" "nearest_quotient" (.str "latticeworks.standing" 237) (.ref 64)),
 Hd.k 71 (⟨(.type "code"),none,(.fields #[(.str "exchanged" 256),(.str "exchanged" 257),(.str "/claim/cut.py" 258),(.int (27) 0),(.int (3) 0),(.int (0) 0),(.int (0) 0),(.int (3) 0),(.ref 66),(.bool true),(.int (181) 0),(.ref 67),.none,(.ref 68),(.ref 69),(.ref 70),(.int (263) 0),(.int (27) 0),(.str "/claim/cut.py" 264)]),#[]⟩),
 Hd.k 72 (Hd.fo Row.eN "exchanged" "exchanged" (.str "latticeworks.standing" 237) (.ref 71)),
 Hd.k 76 (⟨(.type "code"),none,(.fields #[(.str "negated" 266),(.str "negated" 267),(.str "/claim/cut.py" 268),(.int (32) 0),(.int (1) 0),(.int (0) 0),(.int (0) 0),(.int (3) 0),(.ref 73),(.bool true),(.int (181) 0),(.ref 74),.none,.none,.none,(.ref 75),(.int (269) 0),(.int (32) 0),(.str "/claim/cut.py" 270)]),#[]⟩),
 Hd.k 77 (Hd.fo Row.fx "negated" "negated" (.str "latticeworks.standing" 237) (.ref 76)),
 Hd.k 88 (⟨(.type "code"),none,(.fields #[(.str "__init__" 284),(.str "Bench.__init__" 285),(.str "/claim/cut.py" 286),(.int (36) 0),(.int (2) 0),(.int (0) 0),(.int (0) 0),(.int (3) 0),(.ref 85),(.bool true),(.int (181) 0),(.ref 86),.none,.none,.none,(.ref 87),(.int (287) 0),(.int (36) 0),(.str "/claim/cut.py" 288)]),#[]⟩),
 Hd.k 89 (Hd.fo Row.cp "__init__" "Bench.__init__" (.str "latticeworks.standing" 237) (.ref 88)),
 Hd.k 95 (⟨(.type "code"),none,(.fields #[(.str "take" 290),(.str "Bench.take" 291),(.str "/claim/cut.py" 292),(.int (41) 0),(.int (4) 0),(.int (0) 0),(.int (0) 0),(.int (3) 0),(.ref 90),(.bool true),(.int (181) 0),(.ref 91),.none,(.ref 92),(.ref 93),(.ref 94),(.int (297) 0),(.int (41) 0),(.str "/claim/cut.py" 298)]),#[]⟩),
 Hd.k 96 (Hd.fo Row.dG "take" "Bench.take" (.str "latticeworks.standing" 237) (.ref 95)),
 Hd.k 102 (⟨(.type "code"),none,(.fields #[(.str "exchange" 300),(.str "Bench.exchange" 301),(.str "/claim/cut.py" 302),(.int (46) 0),(.int (3) 0),(.int (0) 0),(.int (0) 0),(.int (3) 0),(.ref 97),(.bool true),(.int (181) 0),(.ref 98),.none,(.ref 99),(.ref 100),(.ref 101),(.int (306) 0),(.int (46) 0),(.str "/claim/cut.py" 307)]),#[]⟩),
 Hd.k 103 (Hd.fo Row.cR "exchange" "Bench.exchange" (.str "latticeworks.standing" 237) (.ref 102)),
 Hd.k 109 (⟨(.type "code"),none,(.fields #[(.str "change_sign" 309),(.str "Bench.change_sign" 310),(.str "/claim/cut.py" 311),(.int (51) 0),(.int (2) 0),(.int (0) 0),(.int (0) 0),(.int (3) 0),(.ref 104),(.bool true),(.int (181) 0),(.ref 105),.none,(.ref 106),(.ref 107),(.ref 108),(.int (314) 0),(.int (51) 0),(.str "/claim/cut.py" 315)]),#[]⟩),
 Hd.k 110 (Hd.fo Row.cB "change_sign" "Bench.change_sign" (.str "latticeworks.standing" 237) (.ref 109)),
 Hd.k 114 (⟨(.type "code"),none,(.fields #[(.str "live_rows" 317),(.str "Bench.live_rows" 318),(.str "/claim/cut.py" 319),(.int (56) 0),(.int (3) 0),(.int (0) 0),(.int (0) 0),(.int (3) 0),(.ref 111),(.bool true),(.int (181) 0),(.ref 112),.none,.none,.none,(.ref 113),(.int (320) 0),(.int (56) 0),(.str "/claim/cut.py" 321)]),#[]⟩),
 Hd.k 115 (Hd.fo Row.bZ "live_rows" "Bench.live_rows" (.str "latticeworks.standing" 237) (.ref 114)),
 Hd.k 121 (⟨(.type "code"),none,(.fields #[(.str "gather" 323),(.str "Bench.gather" 324),(.str "/claim/cut.py" 325),(.int (60) 0),(.int (3) 0),(.int (0) 0),(.int (0) 0),(.int (3) 0),(.ref 116),(.bool true),(.int (181) 0),(.ref 117),.none,(.ref 118),(.ref 119),(.ref 120),(.int (332) 0),(.int (60) 0),(.str "/claim/cut.py" 333)]),#[]⟩),
 Hd.k 122 (Hd.fo Row.dm "gather" "Bench.gather" (.str "latticeworks.standing" 237) (.ref 121)),
 Hd.k 128 (⟨(.type "code"),none,(.fields #[(.str "lower_above" 335),(.str "Bench.lower_above" 336),(.str "/claim/cut.py" 337),(.int (74) 0),(.int (3) 0),(.int (0) 0),(.int (0) 0),(.int (3) 0),(.ref 123),(.bool true),(.int (181) 0),(.ref 124),.none,(.ref 125),(.ref 126),(.ref 127),(.int (342) 0),(.int (74) 0),(.str "/claim/cut.py" 343)]),#[]⟩),
 Hd.k 129 (Hd.fo Row.cA "lower_above" "Bench.lower_above" (.str "latticeworks.standing" 237) (.ref 128)),
 Hd.k 131 (Hd.no P 4 [Hd.e "__module__" 279 (.str "latticeworks.standing" 237),Hd.e "__firstlineno__" 283 (.int (34) 282),Hd.e "__init__" 289 (.ref 89),Hd.e "take" 299 (.ref 96),Hd.e "exchange" 308 (.ref 103),Hd.e "change_sign" 316 (.ref 110),Hd.e "live_rows" 322 (.ref 115),Hd.e "gather" 334 (.ref 122),Hd.e "lower_above" 344 (.ref 129),Hd.e "__static_attributes__" 348 (.ref 130),Hd.e "__dict__" 350 (.ref 133),Hd.e "__weakref__" 352 (.ref 134),Hd.e "__doc__" 353 .none]),
 Hd.k 132 (⟨(.type "type"),none,.cls {name:="Bench",bases:=[(.type "object")],mro:=[(.ref 132),(.type "object")],ns:=131,qualname:="Bench",hasDict:=true,subclasses:=[],abstract:=false,hasDel:=false},#[none,none,(some (.str "Bench" 272)),(some (.str "Bench" 280)),(some (.builtin "object.__new__")),(some (.bool true))]⟩),
 Hd.k 142 (⟨(.type "code"),none,(.fields #[(.str "standing" 356),(.str "standing" 357),(.str "/claim/cut.py" 358),(.int (77) 0),(.int (1) 0),(.int (0) 0),(.int (0) 0),(.int (3) 0),(.ref 137),(.bool true),(.int (181) 0),(.ref 138),.none,(.ref 139),(.ref 140),(.ref 141),(.int (364) 0),(.int (77) 0),(.str "/claim/cut.py" 365)]),#[]⟩),
 Hd.k 143 (Hd.fo Row.eR "standing" "standing" (.str "latticeworks.standing" 237) (.ref 142)),
 Hd.k 149 (⟨(.type "code"),none,(.fields #[(.str "weighed" 367),(.str "weighed" 368),(.str "/claim/cut.py" 369),(.int (86) 0),(.int (2) 0),(.int (0) 0),(.int (0) 0),(.int (3) 0),(.ref 144),(.bool true),(.int (181) 0),(.ref 145),.none,(.ref 146),(.ref 147),(.ref 148),(.int (377) 0),(.int (86) 0),(.str "/claim/cut.py" 378)]),#[]⟩),
 Hd.k 150 (Hd.fo Row.fv "weighed" "weighed" (.str "latticeworks.standing" 237) (.ref 149)),
 Hd.k 156 (⟨(.type "code"),none,(.fields #[(.str "falls" 380),(.str "falls" 381),(.str "/claim/cut.py" 382),(.int (95) 0),(.int (2) 0),(.int (0) 0),(.int (0) 0),(.int (3) 0),(.ref 151),(.bool true),(.int (181) 0),(.ref 152),.none,(.ref 153),(.ref 154),(.ref 155),(.int (385) 0),(.int (95) 0),(.str "/claim/cut.py" 386)]),#[]⟩),
 Hd.k 157 (Hd.fo Row.i0 "falls" "falls" (.str "latticeworks.standing" 237) (.ref 156)),
 Hd.k 163 (⟨(.type "code"),none,(.fields #[(.str "common" 390),(.str "common" 391),(.str "/claim/cut.py" 392),(.int (98) 0),(.int (2) 0),(.int (0) 0),(.int (0) 0),(.int (3) 0),(.ref 158),(.bool true),(.int (181) 0),(.ref 159),.none,(.ref 160),(.ref 161),(.ref 162),(.int (398) 0),(.int (98) 0),(.str "/claim/cut.py" 399)]),#[]⟩),
 Hd.k 164 (Hd.fo Row.g6 "common" "common" (.str "latticeworks.fractions" 388) (.ref 163)),
 Hd.k 170 (⟨(.type "code"),none,(.fields #[(.str "part" 401),(.str "part" 402),(.str "/claim/cut.py" 403),(.int (106) 0),(.int (2) 0),(.int (0) 0),(.int (0) 0),(.int (3) 0),(.ref 165),(.bool true),(.int (181) 0),(.ref 166),.none,(.ref 167),(.ref 168),(.ref 169),(.int (407) 0),(.int (106) 0),(.str "/claim/cut.py" 408)]),#[]⟩),
 Hd.k 171 (Hd.fo Row.gY "part" "part" (.str "latticeworks.fractions" 388) (.ref 170)),
 Hd.k 177 (⟨(.type "code"),none,(.fields #[(.str "plus" 410),(.str "plus" 411),(.str "/claim/cut.py" 412),(.int (111) 0),(.int (2) 0),(.int (0) 0),(.int (0) 0),(.int (3) 0),(.ref 172),(.bool true),(.int (181) 0),(.ref 173),.none,(.ref 174),(.ref 175),(.ref 176),(.int (415) 0),(.int (111) 0),(.str "/claim/cut.py" 416)]),#[]⟩),
 Hd.k 178 (Hd.fo Row.jM "plus" "plus" (.str "latticeworks.fractions" 388) (.ref 177)),
 Hd.k 184 (⟨(.type "code"),none,(.fields #[(.str "minus" 418),(.str "minus" 419),(.str "/claim/cut.py" 420),(.int (113) 0),(.int (2) 0),(.int (0) 0),(.int (0) 0),(.int (3) 0),(.ref 179),(.bool true),(.int (181) 0),(.ref 180),.none,(.ref 181),(.ref 182),(.ref 183),(.int (423) 0),(.int (113) 0),(.str "/claim/cut.py" 424)]),#[]⟩),
 Hd.k 185 (Hd.fo Row.i3 "minus" "minus" (.str "latticeworks.fractions" 388) (.ref 184)),
 Hd.k 191 (⟨(.type "code"),none,(.fields #[(.str "times" 426),(.str "times" 427),(.str "/claim/cut.py" 428),(.int (115) 0),(.int (2) 0),(.int (0) 0),(.int (0) 0),(.int (3) 0),(.ref 186),(.bool true),(.int (181) 0),(.ref 187),.none,(.ref 188),(.ref 189),(.ref 190),(.int (431) 0),(.int (115) 0),(.str "/claim/cut.py" 432)]),#[]⟩),
 Hd.k 192 (Hd.fo Row.iU "times" "times" (.str "latticeworks.fractions" 388) (.ref 191)),
 Hd.k 198 (⟨(.type "code"),none,(.fields #[(.str "over" 434),(.str "over" 435),(.str "/claim/cut.py" 436),(.int (117) 0),(.int (2) 0),(.int (0) 0),(.int (0) 0),(.int (3) 0),(.ref 193),(.bool true),(.int (181) 0),(.ref 194),.none,(.ref 195),(.ref 196),(.ref 197),(.int (439) 0),(.int (117) 0),(.str "/claim/cut.py" 440)]),#[]⟩),
 Hd.k 199 (Hd.fo Row.jN "over" "over" (.str "latticeworks.fractions" 388) (.ref 198)),
 Hd.k 205 (⟨(.type "code"),none,(.fields #[(.str "whole" 442),(.str "whole" 443),(.str "/claim/cut.py" 444),(.int (119) 0),(.int (1) 0),(.int (0) 0),(.int (0) 0),(.int (3) 0),(.ref 200),(.bool true),(.int (181) 0),(.ref 201),.none,(.ref 202),(.ref 203),(.ref 204),(.int (446) 0),(.int (119) 0),(.str "/claim/cut.py" 447)]),#[]⟩),
 Hd.k 206 (Hd.fo Row.ij "whole" "whole" (.str "latticeworks.fractions" 388) (.ref 205)),
 Hd.k 212 (⟨(.type "code"),none,(.fields #[(.str "form_of" 451),(.str "form_of" 452),(.str "/claim/cut.py" 453),(.int (122) 0),(.int (1) 0),(.int (0) 0),(.int (0) 0),(.int (3) 0),(.ref 207),(.bool true),(.int (181) 0),(.ref 208),.none,(.ref 209),(.ref 210),(.ref 211),(.int (455) 0),(.int (122) 0),(.str "/claim/cut.py" 456)]),#[]⟩),
 Hd.k 213 (Hd.fo Row.gg "form_of" "form_of" (.str "latticeworks.rests" 449) (.ref 212)),
 Hd.k 219 (⟨(.type "code"),none,(.fields #[(.str "rest_sum" 458),(.str "rest_sum" 459),(.str "/claim/cut.py" 460),(.int (124) 0),(.int (3) 0),(.int (0) 0),(.int (0) 0),(.int (3) 0),(.ref 214),(.bool true),(.int (181) 0),(.ref 215),.none,(.ref 216),(.ref 217),(.ref 218),(.int (464) 0),(.int (124) 0),(.str "/claim/cut.py" 465)]),#[]⟩),
 Hd.k 220 (Hd.fo Row.fh "rest_sum" "rest_sum" (.str "latticeworks.rests" 449) (.ref 219)),
 Hd.k 226 (⟨(.type "code"),none,(.fields #[(.str "parts_dot" 469),(.str "parts_dot" 470),(.str "/claim/cut.py" 471),(.int (127) 0),(.int (2) 0),(.int (0) 0),(.int (0) 0),(.int (3) 0),(.ref 221),(.bool true),(.int (181) 0),(.ref 222),.none,(.ref 223),(.ref 224),(.ref 225),(.int (477) 0),(.int (127) 0),(.str "/claim/cut.py" 478)]),#[]⟩),
 Hd.k 227 (Hd.fo Row.eL "parts_dot" "parts_dot" (.str "latticeworks.inside" 467) (.ref 226)),
 Hd.k 233 (⟨(.type "code"),none,(.fields #[(.str "bottom_at" 480),(.str "bottom_at" 481),(.str "/claim/cut.py" 482),(.int (132) 0),(.int (3) 0),(.int (0) 0),(.int (0) 0),(.int (3) 0),(.ref 228),(.bool true),(.int (181) 0),(.ref 229),.none,(.ref 230),(.ref 231),(.ref 232),(.int (487) 0),(.int (132) 0),(.str "/claim/cut.py" 488)]),#[]⟩),
 Hd.k 234 (Hd.fo Row.eK "bottom_at" "bottom_at" (.str "latticeworks.inside" 467) (.ref 233)),
 Hd.k 240 (⟨(.type "code"),none,(.fields #[(.str "parts_against" 490),(.str "parts_against" 491),(.str "/claim/cut.py" 492),(.int (137) 0),(.int (2) 0),(.int (0) 0),(.int (0) 0),(.int (3) 0),(.ref 235),(.bool true),(.int (181) 0),(.ref 236),.none,(.ref 237),(.ref 238),(.ref 239),(.int (500) 0),(.int (137) 0),(.str "/claim/cut.py" 501)]),#[]⟩),
 Hd.k 241 (Hd.fo Row.cZ "parts_against" "parts_against" (.str "latticeworks.inside" 467) (.ref 240)),
 Hd.k 247 (⟨(.type "code"),none,(.fields #[(.str "inside" 503),(.str "inside" 504),(.str "/claim/cut.py" 505),(.int (147) 0),(.int (2) 0),(.int (0) 0),(.int (0) 0),(.int (3) 0),(.ref 242),(.bool true),(.int (181) 0),(.ref 243),.none,(.ref 244),(.ref 245),(.ref 246),(.int (511) 0),(.int (147) 0),(.str "/claim/cut.py" 512)]),#[]⟩),
 Hd.k 248 (Hd.fo Row.g4 "inside" "inside" (.str "latticeworks.inside" 467) (.ref 247)),
 Hd.k 254 (⟨(.type "code"),none,(.fields #[(.str "_law_source" 516),(.str "_law_source" 517),(.str "/claim/cut.py" 518),(.int (155) 0),(.int (2) 0),(.int (0) 0),(.int (0) 0),(.int (3) 0),(.ref 249),(.bool true),(.int (181) 0),(.ref 250),.none,(.ref 251),(.ref 252),(.ref 253),(.int (522) 0),(.int (155) 0),(.str "/claim/cut.py" 523)]),#[]⟩),
 Hd.k 255 (Hd.fo Row.d9 "_law_source" "_law_source" (.str "law_latticeworks_k27_sums_of_rests" 514) (.ref 254)),
 Hd.k 261 (⟨(.type "code"),none,(.fields #[(.str "_law_take" 525),(.str "_law_take" 526),(.str "/claim/cut.py" 527),(.int (160) 0),(.int (2) 0),(.int (0) 0),(.int (0) 0),(.int (3) 0),(.ref 256),(.bool true),(.int (181) 0),(.ref 257),.none,(.ref 258),(.ref 259),(.ref 260),(.int (532) 0),(.int (160) 0),(.str "/claim/cut.py" 533)]),#[]⟩),
 Hd.k 262 (Hd.fo Row.dh "_law_take" "_law_take" (.str "law_latticeworks_k27_sums_of_rests" 514) (.ref 261)),
 Hd.k 268 (⟨(.type "code"),none,(.fields #[(.str "_law_number" 535),(.str "_law_number" 536),(.str "/claim/cut.py" 537),(.int (169) 0),(.int (1) 0),(.int (0) 0),(.int (0) 0),(.int (3) 0),(.ref 263),(.bool true),(.int (181) 0),(.ref 264),.none,(.ref 265),(.ref 266),(.ref 267),(.int (540) 0),(.int (169) 0),(.str "/claim/cut.py" 541)]),#[]⟩),
 Hd.k 269 (Hd.fo Row.d7 "_law_number" "_law_number" (.str "law_latticeworks_k27_sums_of_rests" 514) (.ref 268)),
 Hd.k 273 (⟨(.type "code"),none,(.fields #[(.str "_law_turned" 543),(.str "_law_turned" 544),(.str "/claim/cut.py" 545),(.int (176) 0),(.int (2) 0),(.int (0) 0),(.int (0) 0),(.int (3) 0),(.ref 270),(.bool true),(.int (181) 0),(.ref 271),.none,.none,.none,(.ref 272),(.int (546) 0),(.int (176) 0),(.str "/claim/cut.py" 547)]),#[]⟩),
 Hd.k 274 (Hd.fo Row.cP "_law_turned" "_law_turned" (.str "law_latticeworks_k27_sums_of_rests" 514) (.ref 273)),
 Hd.k 280 (⟨(.type "code"),none,(.fields #[(.str "_law_form" 549),(.str "_law_form" 550),(.str "/claim/cut.py" 551),(.int (190) 0),(.int (2) 0),(.int (0) 0),(.int (0) 0),(.int (3) 0),(.ref 275),(.bool true),(.int (181) 0),(.ref 276),.none,(.ref 277),(.ref 278),(.ref 279),(.int (558) 0),(.int (190) 0),(.str "/claim/cut.py" 559)]),#[]⟩),
 Hd.k 281 (Hd.fo Row.fk "_law_form" "_law_form" (.str "law_latticeworks_k27_sums_of_rests" 514) (.ref 280)),
 Hd.k 285 (⟨(.type "code"),none,(.fields #[(.str "_law_fall" 561),(.str "_law_fall" 562),(.str "/claim/cut.py" 563),(.int (198) 0),(.int (2) 0),(.int (0) 0),(.int (0) 0),(.int (3) 0),(.ref 282),(.bool true),(.int (181) 0),(.ref 283),.none,.none,.none,(.ref 284),(.int (564) 0),(.int (198) 0),(.str "/claim/cut.py" 565)]),#[]⟩),
 Hd.k 286 (Hd.fo Row.eB "_law_fall" "_law_fall" (.str "law_latticeworks_k27_sums_of_rests" 514) (.ref 285)),
 Hd.k 292 (⟨(.type "code"),none,(.fields #[(.str "_law_leads" 567),(.str "_law_leads" 568),(.str "/claim/cut.py" 569),(.int (205) 0),(.int (2) 0),(.int (0) 0),(.int (0) 0),(.int (3) 0),(.ref 287),(.bool true),(.int (181) 0),(.ref 288),.none,(.ref 289),(.ref 290),(.ref 291),(.int (579) 0),(.int (205) 0),(.str "/claim/cut.py" 580)]),#[]⟩),
 Hd.k 293 (Hd.fo Row.eM "_law_leads" "_law_leads" (.str "law_latticeworks_k27_sums_of_rests" 514) (.ref 292)),
 Hd.k 299 (⟨(.type "code"),none,(.fields #[(.str "_law_standing" 582),(.str "_law_standing" 583),(.str "/claim/cut.py" 584),(.int (218) 0),(.int (2) 0),(.int (0) 0),(.int (0) 0),(.int (3) 0),(.ref 294),(.bool true),(.int (181) 0),(.ref 295),.none,(.ref 296),(.ref 297),(.ref 298),(.int (590) 0),(.int (218) 0),(.str "/claim/cut.py" 591)]),#[]⟩),
 Hd.k 300 (Hd.fo Row.dn "_law_standing" "_law_standing" (.str "law_latticeworks_k27_sums_of_rests" 514) (.ref 299)),
 Hd.k 304 (⟨(.type "code"),none,(.fields #[(.str "_law_row" 593),(.str "_law_row" 594),(.str "/claim/cut.py" 595),(.int (225) 0),(.int (2) 0),(.int (0) 0),(.int (0) 0),(.int (3) 0),(.ref 301),(.bool true),(.int (181) 0),(.ref 302),.none,.none,.none,(.ref 303),(.int (596) 0),(.int (225) 0),(.str "/claim/cut.py" 597)]),#[]⟩),
 Hd.k 305 (Hd.fo Row.eY "_law_row" "_law_row" (.str "law_latticeworks_k27_sums_of_rests" 514) (.ref 304)),
 Hd.k 309 (⟨(.type "code"),none,(.fields #[(.str "_law_added" 599),(.str "_law_added" 600),(.str "/claim/cut.py" 601),(.int (228) 0),(.int (2) 0),(.int (0) 0),(.int (0) 0),(.int (3) 0),(.ref 306),(.bool true),(.int (181) 0),(.ref 307),.none,.none,.none,(.ref 308),(.int (602) 0),(.int (228) 0),(.str "/claim/cut.py" 603)]),#[]⟩),
 Hd.k 310 (Hd.fo Row.dZ "_law_added" "_law_added" (.str "law_latticeworks_k27_sums_of_rests" 514) (.ref 309)),
 Hd.k 314 (⟨(.type "code"),none,(.fields #[(.str "_law_inner" 605),(.str "_law_inner" 606),(.str "/claim/cut.py" 607),(.int (230) 0),(.int (3) 0),(.int (0) 0),(.int (0) 0),(.int (3) 0),(.ref 311),(.bool true),(.int (181) 0),(.ref 312),.none,.none,.none,(.ref 313),(.int (608) 0),(.int (230) 0),(.str "/claim/cut.py" 609)]),#[]⟩),
 Hd.k 315 (Hd.fo Row.d4 "_law_inner" "_law_inner" (.str "law_latticeworks_k27_sums_of_rests" 514) (.ref 314)),
 Hd.k 319 (⟨(.type "code"),none,(.fields #[(.str "_law_same" 611),(.str "_law_same" 612),(.str "/claim/cut.py" 613),(.int (236) 0),(.int (2) 0),(.int (0) 0),(.int (0) 0),(.int (3) 0),(.ref 316),(.bool true),(.int (181) 0),(.ref 317),.none,.none,.none,(.ref 318),(.int (614) 0),(.int (236) 0),(.str "/claim/cut.py" 615)]),#[]⟩),
 Hd.k 320 (Hd.fo Row.eQ "_law_same" "_law_same" (.str "law_latticeworks_k27_sums_of_rests" 514) (.ref 319)),
 Hd.k 324 (⟨(.type "code"),none,(.fields #[(.str "_law_right" 617),(.str "_law_right" 618),(.str "/claim/cut.py" 619),(.int (240) 0),(.int (1) 0),(.int (0) 0),(.int (0) 0),(.int (3) 0),(.ref 321),(.bool true),(.int (181) 0),(.ref 322),.none,.none,.none,(.ref 323),(.int (620) 0),(.int (240) 0),(.str "/claim/cut.py" 621)]),#[]⟩),
 Hd.k 325 (Hd.fo Row.cX "_law_right" "_law_right" (.str "law_latticeworks_k27_sums_of_rests" 514) (.ref 324)),
 Hd.k 329 (⟨(.type "code"),none,(.fields #[(.str "law" 623),(.str "law" 624),(.str "/claim/cut.py" 625),(.int (262) 0),(.int (1) 0),(.int (0) 0),(.int (0) 0),(.int (3) 0),(.ref 326),(.bool true),(.int (181) 0),(.ref 327),.none,.none,.none,(.ref 328),(.int (626) 0),(.int (262) 0),(.str "/claim/cut.py" 627)]),#[]⟩),
 Hd.k 330 (Hd.fo Row.jz "law" "law" (.str "law_latticeworks_k27_sums_of_rests" 514) (.ref 329))]
noncomputable def Row.KA:List Addr:=[3,18,19,23,24,30,31,35,36,40,41,45,46,50,51,57,58,64,65,71,72,76,77,88,89,95,96,102,103,109,110,114,115,121,122,128,129,131,132,142,143,149,150,156,157,163,164,170,171,177,178,184,185,191,192,198,199,205,206,212,213,219,220,226,227,233,234,240,241,247,248,254,255,261,262,268,269,273,274,280,281,285,286,292,293,299,300,304,305,309,310,314,315,319,320,324,325,329,330]
noncomputable def Row.dL:DefRec:=match Row.top 47 with
 | .FunctionDef n a b _ _ _ sc _ _ pos=>⟨n,a,b,sc,pos⟩
 |_=>⟨"",L2.aR (.Pass ⟨0,0,0,0⟩),[],L2.af (.Pass ⟨0,0,0,0⟩),⟨0,0,0,0⟩⟩
theorem Row.EV:PySem.Challenge.rw_latticeworks_k27_sums_of_rests.wellSaid=true:=by decide+kernel
set_option maxRecDepth 100000 in
set_option maxHeartbeats 0 in
theorem Row.left:PySem.W.LeftO PySem.Challenge.pw_latticeworks_k27_sums_of_rests (PySem.W.view PySem.Challenge.pw_latticeworks_k27_sums_of_rests [1,2,3,4,5,6,7,9,10,11,12,13,14,15,16,18,19,20,21,22,23,24,26,27,29,30,31,32,34,35,36,37,38,39,40,41,42,43,44,45,46,47]) [] (fun _=>true) (PySem.W.kmHook Row.KX Row.KA (fun _=>rfl) [112]).obs (PySem.W.kmHook Row.KX Row.KA (fun _=>rfl) [112]).val 3504:=
 Hd.left (by kernel_rfl) (fun s=>by kernel_rfl) rfl fun w os=>by kernel_rfl
set_option maxRecDepth 100000 in
set_option maxHeartbeats 0 in
theorem PySem.Challenge.cw_latticeworks_k27_sums_of_rests_holds : PySem.Challenge.rw_latticeworks_k27_sums_of_rests.Holds := by
 refine PySem.W.holds_law Row.EV fun EV=>?_
 refine PySem.W.holds_open (r:=PySem.Challenge.rw_latticeworks_k27_sums_of_rests.row) (q:=PySem.W.view PySem.Challenge.pw_latticeworks_k27_sums_of_rests [1,2,3,4,5,6,7,9,10,11,12,13,14,15,16,18,19,20,21,22,23,24,26,27,29,30,31,32,34,35,36,37,38,39,40,41,42,43,44,45,46,47]) (loose:=[]) (Xt:=fun _=>true) (XP:=fun _ _=>True) (YP:=(PySem.W.kmHook Row.KX Row.KA (fun _=>rfl) [112]).says) (d:=Row.dL) (kwd:=[]) Row.left ((PySem.W.kmHook Row.KX Row.KA (fun _=>rfl) [112]).of) ((PySem.W.kmHook Row.KX Row.KA (fun _=>rfl) [112]).keeps) (fun _ _=>trivial) (fun _ _ _ _ _=>trivial) (by kernel_rfl) (by kernel_rfl) (by kernel_rfl) (fun s _=>PySem.W.recFacts_of (R:=[]) rfl) (by kernel_rfl) EV (by decide+kernel) ⟨rfl,rfl,rfl,rfl,rfl,by decide+kernel⟩ ?hw ?hc
 case hw=>w_witness2
 refine Row.walk (l:=PySem.Challenge.rw_latticeworks_k27_sums_of_rests) (K:=Row.KX) rfl (by kernel_rfl) (by kernel_rfl) rfl (fun w h Y=>⟨PySem.W.km_in_of Y,⟨(fun q hq=>by rcases List.mem_cons.mp hq with rfl|hq;kernel_rfl;cases hq),(fun q hq=>by rcases List.mem_cons.mp hq with rfl|hq;kernel_rfl;cases hq),fun q hq=>PySem.W.km_tabs_of Y _ (List.mem_map_of_mem (f:=Prod.snd) hq)⟩⟩) ?F
 case F=>
  intro w mg fa h KX G hmg
  exact Row.all_mk (f0:=19) (oc0:= .type "function") (od0:=none) (sl0:= #[]) (kV0:= .none) (dc0:= .none) (pm0:=(.str "latticeworks.rows" 187)) (an0:=none) (cd0:=(.ref 18)) (ct0:= .none) (f1:=24) (oc1:= .type "function") (od1:=none) (sl1:= #[]) (kV1:= .none) (dc1:= .none) (pm1:=(.str "latticeworks.rows" 187)) (an1:=none) (cd1:=(.ref 23)) (ct1:= .none) (f2:=31) (oc2:= .type "function") (od2:=none) (sl2:= #[]) (kV2:= .none) (dc2:= .none) (pm2:=(.str "latticeworks.rows" 187)) (an2:=none) (cd2:=(.ref 30)) (ct2:= .none) (f3:=36) (oc3:= .type "function") (od3:=none) (sl3:= #[]) (kV3:= .none) (dc3:= .none) (pm3:=(.str "latticeworks.rows" 187)) (an3:=none) (cd3:=(.ref 35)) (ct3:= .none) (f4:=41) (oc4:= .type "function") (od4:=none) (sl4:= #[]) (kV4:= .none) (dc4:= .none) (pm4:=(.str "latticeworks.rows" 187)) (an4:=none) (cd4:=(.ref 40)) (ct4:= .none) (f5:=46) (oc5:= .type "function") (od5:=none) (sl5:= #[]) (kV5:= .none) (dc5:= .none) (pm5:=(.str "latticeworks.rows" 187)) (an5:=none) (cd5:=(.ref 45)) (ct5:= .none) (f6:=51) (oc6:= .type "function") (od6:=none) (sl6:= #[]) (kV6:= .none) (dc6:= .none) (pm6:=(.str "latticeworks.rows" 187)) (an6:=none) (cd6:=(.ref 50)) (ct6:= .none) (f7:=58) (oc7:= .type "function") (od7:=none) (sl7:= #[]) (kV7:= .none) (dc7:= .none) (pm7:=(.str "latticeworks.standing" 237)) (an7:=none) (cd7:=(.ref 57)) (ct7:= .none) (f8:=65) (oc8:= .type "function") (od8:=none) (sl8:= #[]) (kV8:= .none) (dc8:= .none) (pm8:=(.str "latticeworks.standing" 237)) (an8:=none) (cd8:=(.ref 64)) (ct8:= .none) (f9:=72) (oc9:= .type "function") (od9:=none) (sl9:= #[]) (kV9:= .none) (dc9:= .none) (pm9:=(.str "latticeworks.standing" 237)) (an9:=none) (cd9:=(.ref 71)) (ct9:= .none) (f10:=77) (oc10:= .type "function") (od10:=none) (sl10:= #[]) (kV10:= .none) (dc10:= .none) (pm10:=(.str "latticeworks.standing" 237)) (an10:=none) (cd10:=(.ref 76)) (ct10:= .none) (f11:=89) (oc11:= .type "function") (od11:=none) (sl11:= #[]) (kV11:= .none) (dc11:= .none) (pm11:=(.str "latticeworks.standing" 237)) (an11:=none) (cd11:=(.ref 88)) (ct11:= .none) (f12:=96) (oc12:= .type "function") (od12:=none) (sl12:= #[]) (kV12:= .none) (dc12:= .none) (pm12:=(.str "latticeworks.standing" 237)) (an12:=none) (cd12:=(.ref 95)) (ct12:= .none) (f13:=103) (oc13:= .type "function") (od13:=none) (sl13:= #[]) (kV13:= .none) (dc13:= .none) (pm13:=(.str "latticeworks.standing" 237)) (an13:=none) (cd13:=(.ref 102)) (ct13:= .none) (f14:=110) (oc14:= .type "function") (od14:=none) (sl14:= #[]) (kV14:= .none) (dc14:= .none) (pm14:=(.str "latticeworks.standing" 237)) (an14:=none) (cd14:=(.ref 109)) (ct14:= .none) (f15:=115) (oc15:= .type "function") (od15:=none) (sl15:= #[]) (kV15:= .none) (dc15:= .none) (pm15:=(.str "latticeworks.standing" 237)) (an15:=none) (ct15:= .none) (f16:=122) (oc16:= .type "function") (od16:=none) (sl16:= #[]) (kV16:= .none) (dc16:= .none) (pm16:=(.str "latticeworks.standing" 237)) (an16:=none) (cd16:=(.ref 121)) (ct16:= .none) (f17:=129) (oc17:= .type "function") (od17:=none) (sl17:= #[]) (kV17:= .none) (dc17:= .none) (pm17:=(.str "latticeworks.standing" 237)) (an17:=none) (cd17:=(.ref 128)) (ct17:= .none) (f18:=143) (oc18:= .type "function") (od18:=none) (sl18:= #[]) (kV18:= .none) (dc18:= .none) (pm18:=(.str "latticeworks.standing" 237)) (an18:=none) (cd18:=(.ref 142)) (ct18:= .none) (f19:=150) (oc19:= .type "function") (od19:=none) (sl19:= #[]) (kV19:= .none) (dc19:= .none) (pm19:=(.str "latticeworks.standing" 237)) (an19:=none) (cd19:=(.ref 149)) (ct19:= .none) (f20:=157) (oc20:= .type "function") (od20:=none) (sl20:= #[]) (kV20:= .none) (dc20:= .none) (pm20:=(.str "latticeworks.standing" 237)) (an20:=none) (cd20:=(.ref 156)) (ct20:= .none) (f21:=164) (oc21:= .type "function") (od21:=none) (sl21:= #[]) (kV21:= .none) (dc21:= .none) (pm21:=(.str "latticeworks.fractions" 388)) (an21:=none) (cd21:=(.ref 163)) (ct21:= .none) (f22:=171) (oc22:= .type "function") (od22:=none) (sl22:= #[]) (kV22:= .none) (dc22:= .none) (pm22:=(.str "latticeworks.fractions" 388)) (an22:=none) (cd22:=(.ref 170)) (ct22:= .none) (f23:=178) (oc23:= .type "function") (od23:=none) (sl23:= #[]) (kV23:= .none) (dc23:= .none) (pm23:=(.str "latticeworks.fractions" 388)) (an23:=none) (cd23:=(.ref 177)) (ct23:= .none) (f24:=185) (oc24:= .type "function") (od24:=none) (sl24:= #[]) (kV24:= .none) (dc24:= .none) (pm24:=(.str "latticeworks.fractions" 388)) (an24:=none) (cd24:=(.ref 184)) (ct24:= .none) (f25:=192) (oc25:= .type "function") (od25:=none) (sl25:= #[]) (kV25:= .none) (dc25:= .none) (pm25:=(.str "latticeworks.fractions" 388)) (an25:=none) (cd25:=(.ref 191)) (ct25:= .none) (f26:=199) (oc26:= .type "function") (od26:=none) (sl26:= #[]) (kV26:= .none) (dc26:= .none) (pm26:=(.str "latticeworks.fractions" 388)) (an26:=none) (cd26:=(.ref 198)) (ct26:= .none) (f27:=206) (oc27:= .type "function") (od27:=none) (sl27:= #[]) (kV27:= .none) (dc27:= .none) (pm27:=(.str "latticeworks.fractions" 388)) (an27:=none) (cd27:=(.ref 205)) (ct27:= .none) (f28:=213) (oc28:= .type "function") (od28:=none) (sl28:= #[]) (kV28:= .none) (dc28:= .none) (pm28:=(.str "latticeworks.rests" 449)) (an28:=none) (cd28:=(.ref 212)) (ct28:= .none) (f29:=220) (oc29:= .type "function") (od29:=none) (sl29:= #[]) (kV29:= .none) (dc29:= .none) (pm29:=(.str "latticeworks.rests" 449)) (an29:=none) (cd29:=(.ref 219)) (ct29:= .none) (f30:=227) (oc30:= .type "function") (od30:=none) (sl30:= #[]) (kV30:= .none) (dc30:= .none) (pm30:=(.str "latticeworks.inside" 467)) (an30:=none) (cd30:=(.ref 226)) (ct30:= .none) (f31:=234) (oc31:= .type "function") (od31:=none) (sl31:= #[]) (kV31:= .none) (dc31:= .none) (pm31:=(.str "latticeworks.inside" 467)) (an31:=none) (cd31:=(.ref 233)) (ct31:= .none) (f32:=241) (oc32:= .type "function") (od32:=none) (sl32:= #[]) (kV32:= .none) (dc32:= .none) (pm32:=(.str "latticeworks.inside" 467)) (an32:=none) (cd32:=(.ref 240)) (ct32:= .none) (f33:=248) (oc33:= .type "function") (od33:=none) (sl33:= #[]) (kV33:= .none) (dc33:= .none) (pm33:=(.str "latticeworks.inside" 467)) (an33:=none) (cd33:=(.ref 247)) (ct33:= .none) (f34:=255) (oc34:= .type "function") (od34:=none) (sl34:= #[]) (kV34:= .none) (dc34:= .none) (pm34:=(.str "law_latticeworks_k27_sums_of_rests" 514)) (an34:=none) (cd34:=(.ref 254)) (ct34:= .none) (f35:=262) (oc35:= .type "function") (od35:=none) (sl35:= #[]) (kV35:= .none) (dc35:= .none) (pm35:=(.str "law_latticeworks_k27_sums_of_rests" 514)) (an35:=none) (cd35:=(.ref 261)) (ct35:= .none) (f36:=269) (oc36:= .type "function") (od36:=none) (sl36:= #[]) (kV36:= .none) (dc36:= .none) (pm36:=(.str "law_latticeworks_k27_sums_of_rests" 514)) (an36:=none) (cd36:=(.ref 268)) (ct36:= .none) (f37:=274) (oc37:= .type "function") (od37:=none) (sl37:= #[]) (kV37:= .none) (dc37:= .none) (pm37:=(.str "law_latticeworks_k27_sums_of_rests" 514)) (an37:=none) (cd37:=(.ref 273)) (ct37:= .none) (f38:=281) (oc38:= .type "function") (od38:=none) (sl38:= #[]) (kV38:= .none) (dc38:= .none) (pm38:=(.str "law_latticeworks_k27_sums_of_rests" 514)) (an38:=none) (cd38:=(.ref 280)) (ct38:= .none) (f39:=286) (oc39:= .type "function") (od39:=none) (sl39:= #[]) (kV39:= .none) (dc39:= .none) (pm39:=(.str "law_latticeworks_k27_sums_of_rests" 514)) (an39:=none) (cd39:=(.ref 285)) (ct39:= .none) (f40:=293) (oc40:= .type "function") (od40:=none) (sl40:= #[]) (kV40:= .none) (dc40:= .none) (pm40:=(.str "law_latticeworks_k27_sums_of_rests" 514)) (an40:=none) (cd40:=(.ref 292)) (ct40:= .none) (f41:=300) (oc41:= .type "function") (od41:=none) (sl41:= #[]) (kV41:= .none) (dc41:= .none) (pm41:=(.str "law_latticeworks_k27_sums_of_rests" 514)) (an41:=none) (cd41:=(.ref 299)) (ct41:= .none) (f42:=305) (oc42:= .type "function") (od42:=none) (sl42:= #[]) (kV42:= .none) (dc42:= .none) (pm42:=(.str "law_latticeworks_k27_sums_of_rests" 514)) (an42:=none) (cd42:=(.ref 304)) (ct42:= .none) (f43:=310) (oc43:= .type "function") (od43:=none) (sl43:= #[]) (kV43:= .none) (dc43:= .none) (pm43:=(.str "law_latticeworks_k27_sums_of_rests" 514)) (an43:=none) (cd43:=(.ref 309)) (ct43:= .none) (f44:=315) (oc44:= .type "function") (od44:=none) (sl44:= #[]) (kV44:= .none) (dc44:= .none) (pm44:=(.str "law_latticeworks_k27_sums_of_rests" 514)) (an44:=none) (cd44:=(.ref 314)) (ct44:= .none) (f45:=320) (oc45:= .type "function") (od45:=none) (sl45:= #[]) (kV45:= .none) (dc45:= .none) (pm45:=(.str "law_latticeworks_k27_sums_of_rests" 514)) (an45:=none) (cd45:=(.ref 319)) (ct45:= .none) (f46:=325) (oc46:= .type "function") (od46:=none) (sl46:= #[]) (kV46:= .none) (dc46:= .none) (pm46:=(.str "law_latticeworks_k27_sums_of_rests" 514)) (an46:=none) (cd46:=(.ref 324)) (ct46:= .none) (f47:=330) (oc47:= .type "function") (od47:=none) (sl47:= #[]) (kV47:= .none) (dc47:= .none) (pm47:=(.str "law_latticeworks_k27_sums_of_rests" 514)) (an47:=none) (cd47:=(.ref 329)) (ct47:= .none) KX G hmg (by kernel_rfl) (by kernel_rfl) (by kernel_rfl) (by kernel_rfl) (by kernel_rfl) (by kernel_rfl) (by kernel_rfl) (by kernel_rfl) (by kernel_rfl) (by kernel_rfl) (by kernel_rfl) (by kernel_rfl) (by kernel_rfl) (by kernel_rfl) (by kernel_rfl) (by kernel_rfl) (by kernel_rfl) (by kernel_rfl) (by kernel_rfl) (by kernel_rfl) (by kernel_rfl) (by kernel_rfl) (by kernel_rfl) (by kernel_rfl) (by kernel_rfl) (by kernel_rfl) (by kernel_rfl) (by kernel_rfl) (by kernel_rfl) (by kernel_rfl) (by kernel_rfl) (by kernel_rfl) (by kernel_rfl) (by kernel_rfl) (by kernel_rfl) (by kernel_rfl) (by kernel_rfl) (by kernel_rfl) (by kernel_rfl) (by kernel_rfl) (by kernel_rfl) (by kernel_rfl) (by kernel_rfl) (by kernel_rfl) (by kernel_rfl) (by kernel_rfl) (by kernel_rfl) (by kernel_rfl) (by kernel_rfl) (by kernel_rfl) (by kernel_rfl) (by kernel_rfl) (by kernel_rfl) (by kernel_rfl) (by kernel_rfl) (by kernel_rfl) (by kernel_rfl) (by kernel_rfl) (by kernel_rfl) (by kernel_rfl) (by kernel_rfl) (by kernel_rfl) (by kernel_rfl) (by kernel_rfl) (by kernel_rfl) (by kernel_rfl) (by kernel_rfl) (by kernel_rfl) (by kernel_rfl) (by kernel_rfl) (by kernel_rfl) (by kernel_rfl) (by kernel_rfl) (by kernel_rfl) (by kernel_rfl) (by kernel_rfl) (by kernel_rfl) (by kernel_rfl) (by kernel_rfl) (by kernel_rfl) (by kernel_rfl) (by kernel_rfl) (by kernel_rfl) (by kernel_rfl) (by kernel_rfl) (by kernel_rfl) (by kernel_rfl) (by kernel_rfl) (by kernel_rfl) (by kernel_rfl) (by kernel_rfl) (by kernel_rfl) (by kernel_rfl) (by kernel_rfl) (by kernel_rfl) (by kernel_rfl) (by kernel_rfl) (by kernel_rfl) (by kernel_rfl) (by kernel_rfl) (by kernel_rfl) (by kernel_rfl) (by kernel_rfl) (by kernel_rfl) (by kernel_rfl) (by kernel_rfl) (by kernel_rfl) (by kernel_rfl) (by kernel_rfl) (by kernel_rfl) (by kernel_rfl) (by kernel_rfl) (by kernel_rfl) (by kernel_rfl) (by kernel_rfl) (by kernel_rfl) (by kernel_rfl) (by kernel_rfl) (by kernel_rfl) (by kernel_rfl) (by kernel_rfl) (by kernel_rfl) (by kernel_rfl) (by kernel_rfl) (by kernel_rfl) (by kernel_rfl) (by kernel_rfl) (by kernel_rfl) (by kernel_rfl) (by kernel_rfl) (by kernel_rfl) (by kernel_rfl) (by kernel_rfl) (by kernel_rfl) (by kernel_rfl) (by kernel_rfl) (by kernel_rfl) (by kernel_rfl) (by kernel_rfl) (by kernel_rfl) (by kernel_rfl) (by kernel_rfl) (by kernel_rfl) (by kernel_rfl) (by kernel_rfl) (by kernel_rfl) (by kernel_rfl) (by kernel_rfl) (by kernel_rfl) (by kernel_rfl) (by kernel_rfl) (by kernel_rfl) (by kernel_rfl) (by kernel_rfl) (by kernel_rfl) (by kernel_rfl) (by kernel_rfl) (by kernel_rfl) (by kernel_rfl) (by kernel_rfl) (by kernel_rfl) (by kernel_rfl) (by kernel_rfl) (by kernel_rfl) (by kernel_rfl) (by kernel_rfl) (by kernel_rfl) (by kernel_rfl) (by kernel_rfl) (by kernel_rfl) (by kernel_rfl) (by kernel_rfl) (by kernel_rfl) (by kernel_rfl) (by kernel_rfl) (by kernel_rfl) (by kernel_rfl) (by kernel_rfl) (by kernel_rfl) (by kernel_rfl) (by kernel_rfl) (by kernel_rfl) (by kernel_rfl) (by kernel_rfl) (by kernel_rfl) (by kernel_rfl) (by kernel_rfl) (by kernel_rfl) (by kernel_rfl) (by kernel_rfl) (by kernel_rfl) (by kernel_rfl) (by kernel_rfl) (by kernel_rfl) (by kernel_rfl) (by kernel_rfl) (by kernel_rfl) (by kernel_rfl) (by kernel_rfl) (by kernel_rfl) (by kernel_rfl) (by kernel_rfl) (by kernel_rfl) (by kernel_rfl) (by kernel_rfl) (by kernel_rfl) (by kernel_rfl) (by kernel_rfl) (by kernel_rfl) (by kernel_rfl) (by kernel_rfl) (by kernel_rfl) (by kernel_rfl) (by kernel_rfl) (by kernel_rfl) (by kernel_rfl) (by kernel_rfl) (by kernel_rfl) (by kernel_rfl) (by kernel_rfl) (by kernel_rfl) (by kernel_rfl) (by kernel_rfl) (by kernel_rfl) (by kernel_rfl)
