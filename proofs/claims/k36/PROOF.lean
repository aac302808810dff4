import PyProof.Rows.All
import Wide.All
import OpenK.AllK
import Wide.FinOn
import Lean
import PyProof.EqAt
import PyProof.EqKinds
import PyProof.TupleCall
import PyProof.NeKinds
import PySem.Challenge.RW_latticeworks_k36_whole_short_they_are
set_option Elab.async false
set_option linter.all false
set_option maxRecDepth 100000
namespace L2
open PySem PySem.Spec PyProof.Rows
noncomputable abbrev Key:=Sum Int Str
noncomputable def BC:Key→Value→Bool
 | .inl k,v=>Value.isInt k v
 | .inr x,v=>Value.isStrOf x v
noncomputable def Jo(w:World):Key→Int
 | .inl k=>hashInt k
 | .inr x=>hashStr w x
theorem eH:∀ {k:Key} {v:Value},BC k v=true→(∃i t,k=Sum.inl i∧v=Value.int i t)∨(∃x t,k=Sum.inr x∧v=Value.str x t)
 | .inl i,v,h=>by
   obtain⟨t,e⟩:=Value.isInt_shape (k:=i) (v:=v) h
   exact .inl ⟨i,t,rfl,e⟩
 | .inr x,v,h=>by
   obtain⟨t,e⟩:=Value.isStrOf_shape (x:=x) (v:=v) h
   exact .inr ⟨x,t,rfl,e⟩
theorem Ew(a b:Int):decide ((Sum.inl a:Key)=Sum.inl b)=(a==b):=by
 by_cases e:a=b
 · subst e;simp
 · have h:¬(Sum.inl a:Key)=Sum.inl b:=fun q=>e (Sum.inl.inj q)
   rw[decide_eq_false h]
   exact(beq_eq_false_iff_ne.mpr e).symm
theorem Gg(a b:Str):decide ((Sum.inr a:Key)=Sum.inr b)=decide (a=b):=by
 by_cases e:a=b
 · subst e;simp
 · have h:¬(Sum.inr a:Key)=Sum.inr b:=fun q=>e (Sum.inr.inj q)
   rw[decide_eq_false h,decide_eq_false e]
theorem Gq(a:Int)(b:Str):decide ((Sum.inl a:Key)=Sum.inr b)=false:=decide_eq_false (fun q=>nomatch q)
theorem Et(a:Str)(b:Int):decide ((Sum.inr a:Key)=Sum.inl b)=false:=decide_eq_false (fun q=>nomatch q)
noncomputable def wB(prog:Program)(w:World):PySem.KeyKind prog w Key where
 is:=BC
 hash:=Jo w
 inj:=fun v a b ha hb=>by
  rcases eH ha with⟨i,t,rfl,rfl⟩|⟨x,t,rfl,rfl⟩
  · rcases eH hb with⟨j,u,rfl,e⟩|⟨y,u,rfl,e⟩
    · injection e with e1 _;rw[e1]
    · exact nomatch e
  · rcases eH hb with⟨j,u,rfl,e⟩|⟨y,u,rfl,e⟩
    · exact nomatch e
    · injection e with e1 _;rw[e1]
 byValue:=fun k v h=>by
  rcases eH h with⟨i,t,rfl,rfl⟩|⟨x,t,rfl,rfl⟩<;>rfl
 pyHash:=fun hv h=>by
  rcases eH hv with⟨i,t,rfl,rfl⟩|⟨x,t,rfl,rfl⟩
  · exact wpAny_pyHash_int h
  · exact wpAny_pyHash_str h
 eqBool:=fun hu hv h=>by
  rcases eH hu with⟨i,t,rfl,rfl⟩|⟨x,t,rfl,rfl⟩
  · rcases eH hv with⟨j,u,rfl,rfl⟩|⟨y,u,rfl,rfl⟩
    · rw[Ew]at h;exact wpAny_eqBool_int h
    · rw[Gq]at h;exact SeqAt.EqAt.int_str i t y u _ _ _ _ h
  · rcases eH hv with⟨j,u,rfl,rfl⟩|⟨y,u,rfl,rfl⟩
    · rw[Et]at h;exact SeqAt.EqAt.str_int x t j u _ _ _ _ h
    · rw[Gg]at h;exact wpAny_eqBool_str h
 «strs» :=fun k x t v h=>by
  rcases eH h with⟨i,u,rfl,e⟩|⟨y,u,rfl,e⟩
  · exact nomatch e
  · injection e with e1 _
    subst e1
    cases v<;>rfl
end L2
namespace L2
open PySem PySem.Spec PyProof.Rows
inductive V where
 |aP|bl (b:Bool)|int (i:Int)|str (x:Str)|BJ (b:Array UInt8)|Cn (b:UInt64)|ref (a:Addr)|ty (n:String)
 deriving DecidableEq
noncomputable def RelV:V→Value→Prop
 | .aP,u=>u=Value.none
 | .bl b,u=>u=Value.bool b
 | .int i,u=>∃t,u=Value.int i t
 | .str x,u=>∃t,u=Value.str x t
 | .BJ b,u=>∃t,u=Value.bytes b t
 | .Cn b,u=>∃t,u=Value.float b t
 | .ref a,u=>u=Value.ref a
 | .ty n,u=>u=Value.type n
noncomputable abbrev Vals:List V→List Value→Prop:=Paired RelV
theorem Vals.length{xs:List V}{us:List Value}(r:Vals xs us):xs.length=us.length:=Paired.length r
theorem Vals.get:∀ {xs:List V} {us:List Value} {i:Nat} {x:V},Vals xs us→xs[i]?=some x→∃u,us[i]?=some u∧RelV x u
 |_,_,_,_,.nil,e=>by simp at e
 |_,_,0,_,.cons r _,e=>by simp at e;subst e;exact⟨_,rfl,r⟩
 |_,_,i+1,x,.cons _ t,e=>by
  obtain⟨u,h1,h2⟩:=Vals.get (i:=i) (x:=x) t (by simpa using e)
  exact⟨u,by simpa using h1,h2⟩
theorem Vals.set{x:V}{u:Value}(r:RelV x u):∀ {xs:List V} {us:List Value} (i:Nat),Vals xs us→Vals (xs.set i x) (us.set i u)
 |_,_,_,.nil=> .nil
 |_,_,0,.cons _ t=> .cons r t
 |_,_,i+1,.cons q t=> .cons q (Vals.set r i t)
theorem Vals.append:∀ {xs ys:List V} {us ws:List Value},Vals xs us→Vals ys ws→Vals (xs++ys) (us++ws)
 |_,_,_,_,.nil,s=>s
 |_,_,_,_,.cons r t,s=> .cons r (Vals.append t s)
theorem Vals.take:∀ {xs:List V} {us:List Value} (n:Nat),Vals xs us→Vals (xs.take n) (us.take n)
 |_,_,0,_=> .nil
 |_,_,_+1,.nil=> .nil
 |_,_,n+1,.cons r t=> .cons r (Vals.take n t)
theorem Vals.drop:∀ {xs:List V} {us:List Value} (n:Nat),Vals xs us→Vals (xs.drop n) (us.drop n)
 |_,_,0,r=>r
 |_,_,_+1,.nil=> .nil
 |_,_,n+1,.cons _ t=>Vals.drop n t
noncomputable def lV:Option V→Option Value→Prop
 |some v,some u=>RelV v u
 |none,none=>True
 |_,_=>False
noncomputable def KV{κ:Type}:List (κ×V)→List (κ×Value)→Prop:=Paired fun(p:κ×V) (q:κ×Value)=>p.1=q.1∧RelV p.2 q.2
noncomputable def kV:Key→V
 | .inl i=> .int i
 | .inr x=> .str x
inductive HO where
 |lst (xs:List V)
 |tup (xs:List V)
 |dK (kvs:List (Key×V))|dT (kvs:List (List Key×V))
 |set (S:Int→Bool) (n:Nat)
 |ins (C dx:Addr) (fs:List (Str×V))
 |own (x:Addr)
 |xd (fs:List (Str×V))
 |met (f x:Addr)
 |Fm (lo hi:Int)
 |mw (o:Obj) (u:HO)
 |kW (ps:Array Value)
 |ext (φ:Heap→Prop)
noncomputable abbrev Hp:=Addr→Option HO
noncomputable def upd(H:Hp)(a:Addr)(o:HO):Hp:=fun b=>if b=a then some o else H b
theorem br{H:Hp}{a:Addr}{o:HO}:upd H a o a=some o:=by unfold upd;rw[if_pos rfl]
theorem aC{H:Hp}{a b:Addr}{o:HO}(h:b≠a):upd H a o b=H b:=by unfold upd;rw[if_neg h]
theorem C7{H:Hp}{a:Addr}{o u:HO}:upd (upd H a o) a u=upd H a u:=by
 funext b;unfold upd;split<;>rfl
theorem eK{H:Hp}{a b:Addr}{o:HO}(h:H a=some o)(h':H b=none):a≠b:=by
 intro e;subst e;rw[h]at h';cases h'
section
variable (P:Program)(w:World)
noncomputable def gi(H:Hp)(h:Heap)(a:Addr):HO→Prop
 | .lst xs=>xs.length≤sizeLine∧∃(its:List Value) (n:Nat),Vals xs its∧h.get? a=some {cls:= .type "list",data:= .seq its.toArray n}
 | .tup xs=>xs.length≤sizeLine∧∃its:List Value,Vals xs its∧IsTup h a its.toArray
 | .dK kvs=>kvs.length≤sizeLine∧(a==sysModules)=false∧∃vs,KV kvs vs∧h.DictOf (wB P w) a vs
 | .dT kvs=>kvs.length≤sizeLine∧(a==sysModules)=false∧∃xs:List (List Key×Addr×Value),
    Paired (fun(p:List Key×V) (q:List Key×Addr×Value)=>p.1=q.1∧H q.2.1=some (.tup (p.1.map kV))∧RelV p.2 q.2.2) kvs xs∧
    ∃o es ep,h.get? a=some o∧o.ExactDict∧o.data= .dict es ep∧es.toList=xs.map (entryOfKey (tupleKind (wB P w)))∧(xs.map (·.1)).Nodup
 | .set S n=>h.SetOf (intKind P w) a S n
 | .ins C dx fs=>H dx=some (.own a)∧fs.length≤1000∧dx≠a∧h.get? a=some (PySem.W.instObj C dx)∧
    ∃mA,h.Ns1 dx mA∧(∀f,lV (fs.lookup f) (mA f))∧PySem.Within mA (fs.map (·.1))
 | .own _=>∃o,h.get? a=some o
 | .xd fs=>∃mA,h.Ns1 a mA∧∀f,lV (fs.lookup f) (mA f)
 | .Fm lo hi=>∃t u v,h.get? a=some {cls:= .type "range",data:= .fields #[.int lo t,.int hi u,.int 1 v]}
 | .mw o u=>h.get? a=some o∧gi H h a u
 | .kW ps=>h.get? a=some {cls:= .none,data:= .fields ps}
 | .met f x=>h.get? a=some (PySem.W.methodObj (.ref f) (.ref x))
 | .ext φ=>φ h∧(∃o,h.get? a=some o)∧∀h1 h2:Heap,φ h1→(∀o,h1.get? a=some o→h2.get? a=some o)→φ h2
noncomputable def gN(H:Hp)(h:Heap):Prop:=∀a o,H a=some o→gi P w H h a o
end
section
variable {P:Program}{w:World}{H H':Hp}{h h':Heap}{a:Addr}{o:HO}
theorem gi.lt(x:gi P w H h a o):a<h.objs.size:=by
 cases o with
 |lst xs=>obtain⟨_,_,_,_,e⟩:=x;exact Heap.lt_size e
 |tup xs=>obtain⟨_,_,_,p⟩:=x;exact p.lt
 |dK kvs=>obtain⟨_,_,_,_,o,_,_,e,_⟩:=x;exact Heap.lt_size e
 |dT kvs=>obtain⟨_,_,_,_,o,_,_,e,_⟩:=x;exact Heap.lt_size e
 |set S n=>obtain⟨o,_,_,_,e,_⟩:=x;exact Heap.lt_size e
 |ins C dx fs=>obtain⟨_,_,_,e,_⟩:=x;exact Heap.lt_size e
 |own y=>obtain⟨_,e⟩:=x;exact Heap.lt_size e
 |xd fs=>obtain⟨_,⟨_,_,_,e,_⟩,_⟩:=x;exact Heap.lt_size e
 |Fm lo hi=>obtain⟨_,_,_,e⟩:=x;exact Heap.lt_size e
 |mw ob u=>obtain⟨e,_⟩:=x;exact Heap.lt_size e
 |kW ps=>exact Heap.lt_size (show h.get? a=some _ from x)
 |met f y=>exact Heap.lt_size (show h.get? a=some _ from x)
 |ext φ=>obtain⟨_,⟨_,e⟩,_⟩:=x;exact Heap.lt_size e
theorem Paired.AB{α β:Type}{F G:α→β→Prop}:∀ {l₁:List α} {l₂:List β},Paired F l₁ l₂→(∀a b,F a b→G a b)→Paired G l₁ l₂
 |_,_,.nil,_=> .nil
 |_,_,.cons r t,f=> .cons (f _ _ r) (Paired.AB t f)
theorem gi.nZ(x:gi P w H h a o)(k:∀b u,(b=a∨H b=some (.own a))→h.get? b=some u→h'.get? b=some u)
 (ho:∀b,H b=some (.own a)→H' b=some (.own a)) (ht:∀b xs,H b=some (.tup xs)→H' b=some (.tup xs)):gi P w H' h' a o:=by
 induction o with
 |lst xs=>obtain⟨z,its,n,r,e⟩:=x;exact⟨z,its,n,r,k _ _ (.inl rfl) e⟩
 |tup xs=>obtain⟨z,its,r,ob,e,c⟩:=x;exact⟨z,its,r,ob,k _ _ (.inl rfl) e,c⟩
 |dK kvs=>obtain⟨z,y,vs,r,ob,es,ep,e,c⟩:=x;exact⟨z,y,vs,r,ob,es,ep,k _ _ (.inl rfl) e,c⟩
 |dT kvs=>
  obtain⟨z,y,xs,r,ob,es,ep,e,c⟩:=x
  exact⟨z,y,xs,Paired.AB r fun p q z=>⟨z.1,ht _ _ z.2.1,z.2.2⟩,ob,es,ep,k _ _ (.inl rfl) e,c⟩
 |set S n=>obtain⟨ob,es,ep,t,e,c⟩:=x;exact⟨ob,es,ep,t,k _ _ (.inl rfl) e,c⟩
 |ins C dx fs=>
  obtain⟨d,z,ne,e,mA,⟨od,es,ep,e2,c⟩,r⟩:=x
  exact⟨ho _ d,z,ne,k _ _ (.inl rfl) e,mA,⟨od,es,ep,k _ _ (.inr d) e2,c⟩,r⟩
 |own y=>obtain⟨ob,e⟩:=x;exact⟨ob,k _ _ (.inl rfl) e⟩
 |xd fs=>obtain⟨mA,⟨od,es,ep,e,c⟩,r⟩:=x;exact⟨mA,⟨od,es,ep,k _ _ (.inl rfl) e,c⟩,r⟩
 |Fm lo hi=>obtain⟨t,u,v,e⟩:=x;exact⟨t,u,v,k _ _ (.inl rfl) e⟩
 |mw ob u ih=>obtain⟨e,q⟩:=x;exact⟨k _ _ (.inl rfl) e,ih q⟩
 |kW ps=>
  have e:h.get? a=some {cls:= .none,data:= .fields ps}:=x
  show h'.get? a=some {cls:= .none,data:= .fields ps}
  exact k a _ (.inl rfl) e
 |met f y=>
  have e:h.get? a=some (PySem.W.methodObj (.ref f) (.ref y)):=x
  show h'.get? a=some (PySem.W.methodObj (.ref f) (.ref y))
  exact k a _ (.inl rfl) e
 |ext φ=>obtain⟨p,⟨o,e⟩,st⟩:=x;exact⟨st _ _ p fun o q=>k _ _ (.inl rfl) q,⟨o,k _ _ (.inl rfl) e⟩,st⟩
theorem gN.lt(x:gN P w H h)(e:H a=some o):a<h.objs.size:=(x a o e).lt
theorem gN.fresh(x:gN P w H h)(e:h.objs.size≤a):H a=none:=by
 cases q:H a with
 |none=>rfl
 |some u=>exact absurd (Nat.lt_of_lt_of_le (x.lt q) e) (Nat.lt_irrefl _)
theorem gN.kept(x:gN P w H h)(k:∀b u,h.get? b=some u→h'.get? b=some u):gN P w H h':=fun a o e=>
 (x a o e).nZ (fun b u _ q=>k b u q) (fun _ q=>q) fun _ _ q=>q
theorem gN.laid(x:gN P w H h)(k:∀b u,h.get? b=some u→h'.get? b=some u)(hp:h.objs.size≤a)(new:gi P w (upd H a o) h' a o):gN P w (upd H a o) h':=fun b u e=>by
 have hn:=x.fresh hp
 by_cases hb:b=a
 · subst hb;rw[br]at e;cases e;exact new
 · rw[aC hb]at e
   exact(x b u e).nZ (fun c v _ q=>k c v q) (fun c q=>by rw[aC (eK q hn)];exact q) fun c xs q=>by rw[aC (eK q hn)];exact q
end
noncomputable def Rd(H:Hp)(a:Addr)(u:HO):Prop:=H a=some u∨∃o,H a=some (.mw o u)
theorem Rd.of{H:Hp}{a:Addr}{u:HO}(h:H a=some u):Rd H a u:= .inl h
theorem Rd.ok{P:Program}{w:World}{H:Hp}{h:Heap}{a:Addr}{u:HO}(r:Rd H a u)(x:gN P w H h):gi P w H h a u:=by
 rcases r with r|⟨o,r⟩
 · exact x a u r
 · obtain⟨_,q⟩:=x a _ r
   exact q
noncomputable def B7:Option HO→Prop
 |some (.lst _)=>True
 |some (.dK _)=>True
 |some (.dT _)=>True
 |some (.set _ _)=>True
 |some (.ins _ _ _)=>True
 |some (.ext _)=>True
 |_=>False
section
variable {P:Program}{w:World}{H:Hp}{h h':Heap}{x e:Addr}{o':HO}
theorem gN.write(ok:gN P w H h)(mu:B7 (H x))(he:e=x∨H e=some (.own x))(k:∀b u,b≠e→h.get? b=some u→h'.get? b=some u)(heo:∃u,h'.get? e=some u)
 (new:gi P w (upd H x o') h' x o'):gN P w (upd H x o') h':=fun b u q=>by
 have nown:∀c y,H c=some (.own y)→c≠x:=fun c y r z=>by subst z;rw[r]at mu;exact mu
 have ntup:∀c xs,H c=some (.tup xs)→c≠x:=fun c xs r z=>by subst z;rw[r]at mu;exact mu
 by_cases hb:b=x
 · subst hb;rw[br]at q;cases q;exact new
 · rw[aC hb]at q
   by_cases hbe:b=e
   · have q':H b=some (.own x):=by
      rcases he with z|z
      · exact absurd (hbe.trans z) hb
      · rw[hbe];exact z
     rw[q]at q';cases q'
     obtain⟨v,hv⟩:=heo
     exact⟨v,by rw[hbe];exact hv⟩
   · refine(ok b u q).nZ (fun c v hc r=>k c v ?_ r) (fun c r=>by rw[aC (nown c b r)];exact r) fun c xs r=>by rw[aC (ntup c xs r)];exact r
     rcases hc with rfl|hc
     · exact hbe
     · rintro rfl
       rcases he with z|z
       · exact nown c b hc z
       · rw[hc]at z;cases z;exact hb rfl
end
structure Un(fs ex:List Addr)(H H':Hp)(h h':Heap):Prop where
 keep:∀b o,h.get? b=some o→H b=none→b∉fs→b∉ex→h'.get? b=some o
 slot:∀b o,h.get? b=some o→H b=none→b∈fs→b∉ex→∃sl,h'.get? b=some {o with slots:=sl}
 free:∀b o,h.get? b=some o→H b=none→b∉ex→H' b=none
 there:∀b o,h.get? b=some o→b∉ex→∃o',h'.get? b=some o'
 m8:∀b xs,H b=some (.tup xs)→H' b=some (.tup xs)
 lX:∀b o u,H b=some (.mw o u)→H' b=some (.mw o u)
 lR:∀b ps,H b=some (.kW ps)→∃more,H' b=some (.kW (ps++more))
section
variable {fs fs' ex ex':List Addr}{H H1 H2:Hp}{h h1 h2 h':Heap}{a x e:Addr}{o:HO}
theorem Un.any(u:Un fs ex H H1 h h1){b:Addr}{ob:Obj}(q:h.get? b=some ob)(n:H b=none)(hx:b∉ex):∃sl,h1.get? b=some {ob with slots:=sl}:=by
 by_cases hb:b∈fs
 · exact u.slot b ob q n hb hx
 · exact⟨ob.slots,u.keep b ob q n hb hx⟩
theorem Un.kept(k:∀b u,h.get? b=some u→h'.get? b=some u):Un fs ex H H h h':=
 ⟨fun b ob q _ _ _=>k b ob q,fun b ob q _ _ _=>⟨ob.slots,k b ob q⟩,fun _ _ _ n _=>n,fun b ob q _=>⟨ob,k b ob q⟩,fun _ _ q=>q,fun _ _ _ q=>q,fun _ ps q=>⟨#[],by rw[q];simp⟩⟩
theorem Un.refl:Un fs ex H H h h:=Un.kept fun _ _ q=>q
theorem Un.laid(k:∀b u,h.get? b=some u→h'.get? b=some u)(hp:h.objs.size≤a)(hn:H a=none):Un fs ex H (upd H a o) h h' where
 keep:=fun b u q _ _ _=>k b u q
 slot:=fun b u q _ _ _=>⟨u.slots,k b u q⟩
 free:=fun b u q n _=>by rw[aC (Nat.ne_of_lt (Nat.lt_of_lt_of_le (Heap.lt_size q) hp))];exact n
 there:=fun b u q _=>⟨u,k b u q⟩
 m8:=fun b xs q=>by rw[aC (eK q hn)];exact q
 lX:=fun b u xs q=>by rw[aC (eK q hn)];exact q
 lR:=fun b ps q=>⟨#[],by rw[aC (eK q hn),q];simp⟩
theorem Un.write(mu:B7 (H x))(he:e=x∨H e=some (.own x))(k:∀b u,b≠e→h.get? b=some u→h'.get? b=some u)(heo:∃u,h'.get? e=some u):Un fs ex H (upd H x o) h h':=by
 have hx:∀b,H b=none→b≠x:=fun b n z=>by subst z;rw[n]at mu;exact mu
 have hb:∀b,H b=none→b≠e:=fun b n z=>by
  subst z
  rcases he with r|r
  · exact hx b n r
  · rw[n]at r;cases r
 have hm:∀b u,H b=some u→¬B7 (some u)→b≠x:=fun b u q nm z=>by subst z;rw[q]at mu;exact nm mu
 refine⟨fun b u q n _ _=>k b u (hb b n) q,fun b u q n _ _=>⟨u.slots,k b u (hb b n) q⟩,fun b u q n _=>by rw[aC (hx b n)];exact n,fun b u q _=>?_,
  fun b xs q=>by rw[aC (hm b _ q fun z=>z)];exact q,fun b u xs q=>by rw[aC (hm b _ q fun z=>z)];exact q,fun b ps q=>⟨#[],by rw[aC (hm b _ q fun z=>z),q];simp⟩⟩
 by_cases hbe:b=e
 · subst hbe;exact heo
 · exact⟨u,k b u hbe q⟩
end
noncomputable def Cw(h:Heap)(H:Hp):List Addr:=(List.range h.objs.size).filter fun a=>(H a).isSome
noncomputable def lO(h:Heap)(H:Hp):Heap:=PySem.W.hideAll h (Cw h H)
theorem zI(h:Heap)(H:Hp):(lO h H).objs.size=h.objs.size:=PySem.W.hideAll_size _ _
theorem mT{h:Heap}{H:Hp}{b:Addr}{o:Obj}(e:h.get? b=some o)(n:H b=none):(lO h H).get? b=some o:=
 PySem.W.hideAll_get _ e fun hm=>by
  have q:(H b).isSome=true:=(List.mem_filter.mp hm).2
  rw[n]at q;simp at q
theorem DQ{h:Heap}{H:Hp}{b:Addr}{o:Obj}(e:(lO h H).get? b=some o):h.get? b=some o∧H b=none:=by
 have e':h.get? b=some o:=PySem.W.of_hideAll (Cw h H) e
 refine⟨e',?_⟩
 cases q:H b with
 |none=>rfl
 |some x=>
  have hm:b∈Cw h H:=List.mem_filter.mpr ⟨List.mem_range.mpr (Heap.lt_size e'),by simp[q]⟩
  have z:(lO h H).get? b=none:=PySem.W.hideAll_none (Cw h H) hm
  rw[z]at e;cases e
noncomputable def Dv(g h:Heap)(L:Addr):List (Addr×Obj):=(List.range h.objs.size).filterMap fun a=>if a=L∨(g.get? a).isSome=true then none else(h.get? a).map fun o=>(a,o)
noncomputable def rest(g h:Heap)(L d:Addr):List (Addr×Obj):=(Dv g h L).filter fun p=>decide (p.1≠d)
end L2
namespace L2
open PySem PySem.Spec PyProof.Rows
structure Mod(K:PySem.W.Frag)(mg:Str→Option Value)(base:Heap):Prop where
 yz:K.In base
 glob:base.Ns mainGlobals mg
 blt:∃mb,base.Ns builtinsNs mb∧∀x:Str,x≠"__name__"→mb x=bootBuiltins x
 nolimit:base.NoLimit
 seer:base.NoSeer
 bmain:∃bm ob,mg "__builtins__"=some (.ref bm)∧bm≠builtinsNs∧base.get? bm=some ob∧ob.cls= .type "module"∧ob.dict=some builtinsNs∧ob.data= .plain
structure Cx where
 prog:Program
 w:World
 K:PySem.W.Frag
 mg:Str→Option Value
 base:Heap
 A:Around
 N:List Str
 s₀:Shared
 H₀:Hp
 env:Env
 outer:List Env
 stack:List Env
 ex:List Addr
 fn:Str→Bool
 calm:Bool
 pn:List (Addr×Obj)
 xe:Value→Shared→Prop
noncomputable def mD(l:List Env):List Addr:=l.filterMap (·.frame)
noncomputable abbrev Cx.fs(X:Cx):List Addr:=mD X.outer
noncomputable def ui(sc:Scope)(x:Str):Prop:=sc.names.lookup x=some .local∨sc.names.lookup x=some .cell∨sc.names.lookup x=some .free
noncomputable def Loc(sc:Scope)(x:Str):Prop:=sc.names.lookup x=some .local∨sc.names.lookup x=some .cell
noncomputable def Look(env:Env)(h:Heap)(m:Str→Option Value)(x:Str)(u:Value):Prop:=
 (env.kindOf x=some .local∧m x=some u)∨((env.kindOf x=some .cell∨env.kindOf x=some .free)∧∃c,env.cells.lookup x=some c∧h.IsCell c (some u))
structure Cx.Ok(X:Cx):Prop where
 mod:Mod X.K X.mg X.base
 kind:X.env.scope.kind= .function
 glob:X.env.globals=mainGlobals
 blt:X.env.builtins=builtinsNs
 above:X.s₀.heap.objs.size≤X.env.locals
 inj:∀x y c,X.env.cells.lookup x=some c→X.env.cells.lookup y=some c→x=y
 has:∀x,(X.env.kindOf x=some .cell∨X.env.kindOf x=some .free)→∃c,X.env.cells.lookup x=some c
 wu:∀x c,X.fn x=true→X.env.cells.lookup x=some c→X.s₀.heap.objs.size≤c
 hd:X.calm=true→X.A.handled=none
 frames:X.A.frames=some X.stack
 yr:X.stack=X.outer∨(X.stack=X.env::X.outer∧X.env.frame=some X.env.locals)
 BN:∀b∈X.ex,b≠X.env.locals∧∀x c,X.env.cells.lookup x=some c→c≠b
 bs:∀b o,X.base.get? b=some o→X.s₀.heap.get? b=some o∧X.H₀ b=none
 qZ:X.base.objs.size≤X.s₀.heap.objs.size
 sr:∀b o,X.base.get? b=some o→b∉X.ex
 rL:∀b∈X.ex,b∉X.fs
 jN:X.s₀.heap.FunFrames X.base X.outer
 sO:∀b∈X.fs,X.H₀ b=none
 gt:X.prog.given.tree=none
structure Inv(X:Cx)(pins:List (Addr×Obj))(σ:List (Option V))(H:Hp)(s:Shared):Prop where
 ok:X.Ok
 os:s.os=X.s₀.os
 bare:AllBare s.gens
 base:Un X.fs X.ex X.H₀ H X.s₀.heap s.heap
 loc:∃m,s.heap.Ns X.env.locals m∧∀(i:Nat) (x:Str) (v:V),X.N[i]?=some x→σ[i]?=some (some v)→ui X.env.scope x→∃u,RelV v u∧Look X.env s.heap m x u
 cell:∀x c,X.env.cells.lookup x=some c→∃v,s.heap.IsCell c v
 free:H X.env.locals=none
 jb:∀x c,X.env.cells.lookup x=some c→H c=none
 pin:∀p∈X.pn++pins,s.heap.get? p.1=some p.2∧H p.1=none∧p.1≠X.env.locals∧p.1∉X.fs∧∀v,p.2.data≠ .cell v
 aT:gN X.prog X.w H s.heap
 len:σ.length=X.N.length
section
variable {X:Cx}{pins:List (Addr×Obj)}{σ:List (Option V)}{H H':Hp}{s:Shared}{h':Heap}
theorem Cx.Ok.Jf(ok:X.Ok){b:Addr}{o:Obj}(e:X.base.get? b=some o):b∉X.fs:=fun hb=>by
 have:=(ok.jN.mem hb).1
 rw[e]at this;cases this
theorem Inv.bs(I:Inv X pins σ H s):∀b o,X.base.get? b=some o→s.heap.get? b=some o∧H b=none:=fun b o e=>
 ⟨I.base.keep b o (I.ok.bs b o e).1 (I.ok.bs b o e).2 (I.ok.Jf e) (I.ok.sr b o e),I.base.free b o (I.ok.bs b o e).1 (I.ok.bs b o e).2 (I.ok.sr b o e)⟩
theorem Inv.bk(I:Inv X pins σ H s):∀b o,X.base.get? b=some o→s.heap.get? b=some o:=fun b o e=>(I.bs b o e).1
theorem Inv.mod(I:Inv X pins σ H s):Mod X.K X.mg X.base:=I.ok.mod
theorem Inv.lE(I:Inv X pins σ H s):X.K.In s.heap:=I.ok.mod.yz.keeps I.bk
theorem Inv.lt(I:Inv X pins σ H s):X.env.locals<s.heap.objs.size:=let⟨_,hn,_⟩:=I.loc;hn.lt
theorem Inv.sz(I:Inv X pins σ H s):X.s₀.heap.objs.size≤s.heap.objs.size:=Nat.le_trans I.ok.above (Nat.le_of_lt I.lt)
theorem Inv.JH(I:Inv X pins σ H s){a:Addr}(h:s.heap.objs.size≤a):a∉X.fs:=fun hb=>by
 obtain⟨_,o,ho,_⟩:=I.ok.jN.mem hb
 exact absurd (Nat.lt_of_lt_of_le (Heap.lt_size ho) (Nat.le_trans I.sz h)) (Nat.lt_irrefl _)
theorem Inv.tZ(I:Inv X pins σ H s):∀x c,X.env.cells.lookup x=some c→c≠X.env.locals:=fun x c e z=>by
 obtain⟨v,o,ho,hd⟩:=I.cell x c e
 obtain⟨m,⟨o',es,ep,ho',hd',_⟩,_⟩:=I.loc
 rw[z,ho']at ho;cases ho;rw[hd']at hd;cases hd
theorem Inv.jN(I:Inv X pins σ H s):s.heap.FunFrames X.base X.outer:=by
 have all:∀(l:List Env),(∀b∈mD l,b∈X.fs)→X.s₀.heap.FunFrames X.base l→s.heap.FunFrames X.base l:=by
  intro l
  induction l with
  |nil=>intro _ _;trivial
  |cons env r ih=>
   intro hs hl
   obtain⟨hk,⟨L,o,hf,hn,ho,hd⟩,hr⟩:=hl
   have hL:L∈X.fs:=hs L (by unfold mD;rw[List.filterMap_cons,hf];exact List.mem_cons_self)
   obtain⟨sl,e⟩:=I.base.slot L o ho (I.ok.sO L hL) hL fun z=>I.ok.rL L z hL
   exact⟨hk,⟨L,_,hf,hn,e,hd⟩,ih (fun b hb=>hs b (by unfold mD;rw[List.filterMap_cons,hf];exact List.mem_cons_of_mem _ hb)) hr⟩
 exact all X.outer (fun _ hb=>hb) I.ok.jN
theorem Inv.stack(I:Inv X pins σ H s):s.heap.FunFrames X.base X.stack:=by
 rcases I.ok.yr with e|⟨e,hf⟩
 · rw[e];exact I.jN
 · rw[e]
   obtain⟨m,hn,_⟩:=I.loc
   refine .cons (by rw[I.ok.kind];decide) hf hn ?_ I.jN
   exact Heap.get?_none_of_le (Nat.le_trans I.ok.qZ I.ok.above)
theorem Inv.ug(I:Inv X pins σ H s):∀b∈mD X.stack,b∈X.env.locals::X.fs:=fun b hb=>by
 rcases I.ok.yr with e|⟨e,hf⟩
 · rw[e]at hb;exact List.mem_cons_of_mem _ hb
 · rw[e]at hb
   unfold mD at hb
   rw[List.filterMap_cons,hf]at hb
   exact hb
theorem Inv.wb(I:Inv X pins σ H s):∀b∈mD X.stack,H b=none:=fun b hb=>by
 rcases List.mem_cons.mp (I.ug b hb)with e|hb
 · rw[e];exact I.free
 · obtain⟨_,o,ho,_⟩:=I.ok.jN.mem hb
   exact I.base.free b o ho (I.ok.sO b hb) fun z=>I.ok.rL b z hb
theorem Inv.step{g':Array GenState}{t':Nat}{d':Drawn}{ch:List Addr}(I:Inv X pins σ H s)
 (hch:∀b∈ch,(b∈X.ex∨X.s₀.heap.objs.size≤b)∧b≠X.env.locals∧(∀x c,X.env.cells.lookup x=some c→c≠b)∧∀p∈X.pn++pins,p.1≠b)
 (keep:∀b o,b≠X.env.locals→b∉X.fs→b∉ch→s.heap.get? b=some o→H b=none→h'.get? b=some o)
 (slot:∀b o,b≠X.env.locals→b∈X.fs→b∉ch→s.heap.get? b=some o→H b=none→∃sl,h'.get? b=some {o with slots:=sl}) (free:∀b o,b∉ch→s.heap.get? b=some o→H b=none→H' b=none)
 (there:∀b o,b∉ch→s.heap.get? b=some o→∃o',h'.get? b=some o')
 (m8:∀b xs,H b=some (.tup xs)→H' b=some (.tup xs)) (lX:∀b o u,H b=some (.mw o u)→H' b=some (.mw o u)) (lR:∀b ps,H b=some (.kW ps)→∃more,H' b=some (.kW (ps++more)))
 (ns:∀m,s.heap.Ns X.env.locals m→h'.Ns X.env.locals m) (aT:gN X.prog X.w H' h') (hg:AllBare g'):
 Inv X pins σ H' {s with heap:=h',gens:=g',drawn:=d',toks:=t'}:=by
 have neL:∀b o,X.s₀.heap.get? b=some o→b≠X.env.locals:=fun b o e=>Nat.ne_of_lt (Nat.lt_of_lt_of_le (Heap.lt_size e) I.ok.above)
 have neC:∀b o,X.s₀.heap.get? b=some o→b∉X.ex→b∉ch:=fun b o e hx hb=>by
  rcases(hch b hb).1 with z|z
  · exact hx z
  · exact absurd (Nat.lt_of_lt_of_le (Heap.lt_size e) z) (Nat.lt_irrefl _)
 have cellK:∀x c,X.env.cells.lookup x=some c→∀v,s.heap.IsCell c v→h'.IsCell c v:=fun x c e v ⟨o,ho,hd⟩=>by
  have nch:c∉ch:=fun z=>(hch c z).2.2.1 x c e rfl
  by_cases hc:c∈X.fs
  · obtain⟨sl,q⟩:=slot c o (I.tZ x c e) hc nch ho (I.jb x c e)
    exact⟨_,q,hd⟩
  · exact⟨o,keep c o (I.tZ x c e) hc nch ho (I.jb x c e),hd⟩
 refine⟨I.ok,I.os,hg,⟨fun b o e n hb hx=>?_,fun b o e n hb hx=>?_,fun b o e n hx=>?_,fun b o e hx=>?_,fun b xs e=>m8 b xs (I.base.m8 b xs e),fun b o xs e=>lX b o xs (I.base.lX b o xs e),fun b ps e=>?_⟩,?_,fun x c e=>?_,?_,fun x c e=>?_,fun p hp=>?_,aT,I.len⟩
 · exact keep b o (neL b o e) hb (neC b o e hx) (I.base.keep b o e n hb hx) (I.base.free b o e n hx)
 · obtain⟨sl,e1⟩:=I.base.slot b o e n hb hx
   obtain⟨sl',e2⟩:=slot b _ (neL b o e) hb (neC b o e hx) e1 (I.base.free b o e n hx)
   exact⟨sl',e2⟩
 · obtain⟨o',e1⟩:=I.base.there b o e hx
   exact free b o' (neC b o e hx) e1 (I.base.free b o e n hx)
 · obtain⟨o',e1⟩:=I.base.there b o e hx
   exact there b o' (neC b o e hx) e1
 · obtain⟨m1,e1⟩:=I.base.lR b ps e
   obtain⟨m2,e2⟩:=lR b _ e1
   exact⟨m1++m2,by rw[e2,Array.append_assoc]⟩
 · obtain⟨m,hn,hl⟩:=I.loc
   refine⟨m,ns m hn,fun i x v e1 e2 e3=>?_⟩
   obtain⟨u,r,l⟩:=hl i x v e1 e2 e3
   refine⟨u,r,?_⟩
   rcases l with l|⟨k,c,e,z⟩
   · exact .inl l
   · exact .inr ⟨k,c,e,cellK x c e _ z⟩
 · obtain⟨v,z⟩:=I.cell x c e
   exact⟨v,cellK x c e v z⟩
 · obtain⟨m,⟨o,_,_,ho,_⟩,_⟩:=I.loc
   exact free _ o (fun z=>(hch _ z).2.1 rfl) ho I.free
 · obtain⟨v,o,ho,hd⟩:=I.cell x c e
   exact free c o (fun z=>(hch c z).2.2.1 x c e rfl) ho (I.jb x c e)
 · obtain⟨e,n,ne,nf,d⟩:=I.pin p hp
   have nch:p.1∉ch:=fun z=>(hch p.1 z).2.2.2 p hp rfl
   exact⟨keep p.1 p.2 ne nf nch e n,free p.1 p.2 nch e n,ne,nf,d⟩
theorem Inv.un{t':Nat}(I:Inv X pins σ H s)(u:Un X.fs [] H H' s.heap h')(aT:gN X.prog X.w H' h'):Inv X pins σ H' {s with heap:=h',toks:=t'}:=by
 obtain⟨m,⟨o,es,ep,ho,r⟩,_⟩:=id I.loc
 obtain⟨sl,hL⟩:=u.any ho I.free (by simp)
 exact I.step (g':=s.gens) (d':=s.drawn) (ch:=[]) (fun _ z=>nomatch z) (fun b o _ hb _ e n=>u.keep b o e n hb (by simp)) (fun b o _ hb _ e n=>u.slot b o e n hb (by simp)) (fun b o _ e n=>u.free b o e n (by simp)) (fun b o _ e=>u.there b o e (by simp)) u.m8 u.lX u.lR (fun m' hm=>by
  obtain⟨o',es',ep',ho',r'⟩:=hm
  rw[ho]at ho';cases ho'
  exact⟨_,es',ep',hL,r'⟩) aT I.bare
theorem Inv.call{g':Array GenState}{t':Nat}{d':Drawn}{ch:List Addr}(I:Inv X pins σ H s)(u:Un (mD X.stack) ch H H' s.heap h')(aT:gN X.prog X.w H' h')(hg:AllBare g')
 (hch:∀b∈ch,(b∈X.ex∨X.s₀.heap.objs.size≤b)∧b≠X.env.locals∧(∀x c,X.env.cells.lookup x=some c→c≠b)∧∀p∈X.pn++pins,p.1≠b):
 Inv X pins σ H' {s with heap:=h',gens:=g',drawn:=d',toks:=t'}:=by
 obtain⟨m,⟨o,es,ep,ho,r⟩,_⟩:=id I.loc
 obtain⟨sl,hL⟩:=u.any ho I.free fun z=>(hch _ z).2.1 rfl
 exact I.step (ch:=ch) hch (fun b o hL hb hc e n=>u.keep b o e n (fun z=>(List.mem_cons.mp (I.ug b z)).elim hL hb) hc) (fun b o _ _ hc e n=>u.any e n hc) (fun b o hc e n=>u.free b o e n hc) (fun b o hc e=>u.there b o e hc) u.m8 u.lX u.lR (fun m' hm=>by
  obtain⟨o',es',ep',ho',r'⟩:=hm
  rw[ho]at ho';cases ho'
  exact⟨_,es',ep',hL,r'⟩) aT hg
theorem Inv.turned{t':Nat}{it:Addr}(I:Inv X pins σ H s)(k:∀b o,b≠it→s.heap.get? b=some o→h'.get? b=some o)(hn:H it=none)(hL:it≠X.env.locals)
 (h1:it∈X.ex∨X.s₀.heap.objs.size≤it) (h2:∀x c,X.env.cells.lookup x=some c→c≠it) (h3:∀p∈X.pn++pins,p.1≠it):Inv X pins σ H {s with heap:=h',toks:=t'}:=by
 have nit:∀b u,H b=some u→b≠it:=fun b u e z=>by rw[z,hn]at e;cases e
 refine I.step (g':=s.gens) (d':=s.drawn) (ch:=[it]) (fun b hb=>?_) (fun b o _ _ hc e _=>k b o (fun z=>hc (by simp[z])) e) (fun b o _ _ hc e _=>⟨o.slots,k b o (fun z=>hc (by simp[z])) e⟩) (fun _ _ _ _ n=>n)
  (fun b o hc e=>⟨o,k b o (fun z=>hc (by simp[z])) e⟩) (fun _ _ e=>e) (fun _ _ _ e=>e) (fun b ps e=>⟨#[],by rw[e];simp⟩) (fun m hm=>?_) (fun b u e=>?_) I.bare
 · have e:b=it:=by simpa using hb
   subst e
   exact⟨h1,hL,h2,h3⟩
 · obtain⟨o,es,ep,ho,r⟩:=hm
   exact⟨o,es,ep,k _ o (Ne.symm hL) ho,r⟩
 · refine(I.aT b u e).nZ (fun c v hc q=>k c v ?_ q) (fun _ q=>q) fun _ _ q=>q
   rcases hc with z|z
   · rw[z];exact nit b u e
   · exact nit c _ z
theorem Inv.tok(I:Inv X pins σ H s)(t:Nat):Inv X pins σ H {s with toks:=t}:=I.un (h':=s.heap) (t':=t) Un.refl I.aT
theorem Inv.kept{t':Nat}(I:Inv X pins σ H s)(k:∀b u,s.heap.get? b=some u→h'.get? b=some u):Inv X pins σ H {s with heap:=h',toks:=t'}:=I.un (Un.kept k) (I.aT.kept k)
theorem Inv.laid{a:Addr}{o:HO}{t':Nat}(I:Inv X pins σ H s)(k:∀b u,s.heap.get? b=some u→h'.get? b=some u)(hp:s.heap.objs.size≤a)(new:gi X.prog X.w (upd H a o) h' a o):
 Inv X pins σ (upd H a o) {s with heap:=h',toks:=t'}:=I.un (Un.laid k hp (I.aT.fresh hp)) (I.aT.laid k hp new)
theorem Inv.write{x e:Addr}{o:HO}{t':Nat}(I:Inv X pins σ H s)(mu:B7 (H x))(he:e=x∨H e=some (.own x))(k:∀b u,b≠e→s.heap.get? b=some u→h'.get? b=some u)(heo:∃u,h'.get? e=some u)
 (new:gi X.prog X.w (upd H x o) h' x o):Inv X pins σ (upd H x o) {s with heap:=h',toks:=t'}:=I.un (Un.write mu he k heo) (I.aT.write mu he k heo new)
theorem Inv.wk{pins':List (Addr×Obj)}(I:Inv X pins σ H s)(h:∀p∈pins',s.heap.get? p.1=some p.2∧H p.1=none∧p.1≠X.env.locals∧p.1∉X.fs∧∀v,p.2.data≠ .cell v):Inv X pins' σ H s:=
 ⟨I.ok,I.os,I.bare,I.base,I.loc,I.cell,I.free,I.jb,fun p hp=>(List.mem_append.mp hp).elim (fun z=>I.pin p (List.mem_append_left _ z)) (h p),I.aT,I.len⟩
theorem uv{N:List Str}(hN:N.Nodup){i j:Nat}{x:Str}(a:N[i]?=some x)(b:N[j]?=some x):i=j:=by
 obtain⟨h1,e1⟩:=List.getElem?_eq_some_iff.mp a
 obtain⟨h2,e2⟩:=List.getElem?_eq_some_iff.mp b
 exact(List.getElem_inj hN).mp (e1.trans e2.symm)
theorem sM{M:Model}{A:Around}{E:Value→Shared→Prop}{i:Nat}{x:Str}{v:V}{u:Value}{Q:Unit→Shared→Prop}(I:Inv X pins σ H s)(hN:X.N.Nodup)(hi:X.N[i]?=some x)(hx:Loc X.env.scope x)(r:RelV v u)
 (h:∀s',Inv X pins (σ.set i (some v)) H s'→(∃a,Heap.SameBut a s.heap s'.heap∧(a=X.env.locals∨X.env.cells.lookup x=some a))→Q () s') (hf:X.fn x=true∨X.env.scope.names.lookup x=some .local:=by first|exact .inl rfl|exact .inr rfl|assumption):wpAny M A (storeName X.env x u) Q E s:=by
 obtain⟨m,hn,hl⟩:=id I.loc
 have hcls:(X.env.scope.kind== .class||(X.env.scope.kind== .module&&X.env.locals != X.env.globals))=false:=by rw[I.ok.kind];rfl
 have hiσ:i<σ.length:=by rw[I.len];exact(List.getElem?_eq_some_iff.mp hi).1
 have tZ:=I.tZ
 have tracked:∀ {a:Addr} {h':Heap},(∃o,s.heap.get? a=some o∧H a=none)→Heap.SameBut a s.heap h'→gN X.prog X.w H h':=fun{a h'} ha hs b ob e=>by
  obtain⟨_,_,hfree⟩:=ha
  refine(I.aT b ob e).nZ (fun c w' hc q=>(hs.2 c ?_).trans q) (fun _ q=>q) fun _ _ q=>q
  rintro rfl
  rcases hc with rfl|hc
  · rw[hfree]at e;cases e
  · rw[hfree]at hc;cases hc
 rcases hx with hk|hk
 · refine wpAny_storeName_local hk hn (fun h' hn' hs=>?_) hcls
   obtain⟨oL,_,_,hoL,_⟩:=id hn
   refine h _ ⟨I.ok,I.os,I.bare,⟨fun b o e n hb hx=>?_,fun b o e n hb hx=>?_,I.base.free,fun b o e hx=>?_,I.base.m8,I.base.lX,I.base.lR⟩,⟨_,hn',fun j y v' e1 e2 e3=>?_⟩,fun y c e=>?_,I.free,I.jb,fun p hp=>?_,tracked ⟨oL,hoL,I.free⟩ hs,by simpa using I.len⟩ ⟨_,hs,.inl rfl⟩
   · exact(hs.2 b (Nat.ne_of_lt (Nat.lt_of_lt_of_le (Heap.lt_size e) I.ok.above))).trans (I.base.keep b o e n hb hx)
   · obtain⟨sl,e1⟩:=I.base.slot b o e n hb hx
     exact⟨sl,(hs.2 b (Nat.ne_of_lt (Nat.lt_of_lt_of_le (Heap.lt_size e) I.ok.above))).trans e1⟩
   · obtain⟨o',e1⟩:=I.base.there b o e hx
     exact⟨o',(hs.2 b (Nat.ne_of_lt (Nat.lt_of_lt_of_le (Heap.lt_size e) I.ok.above))).trans e1⟩
   · by_cases hj:j=i
     · subst hj
       rw[hi]at e1;cases e1
       rw[List.getElem?_set_self hiσ]at e2
       cases e2
       exact⟨u,r,.inl ⟨hk,by simp⟩⟩
     · rw[List.getElem?_set_ne (Ne.symm hj)]at e2
       obtain⟨u',r',q⟩:=hl j y v' e1 e2 e3
       refine⟨u',r',?_⟩
       rcases q with⟨k,e⟩|⟨k,c,e,z⟩
       · refine .inl ⟨k,?_⟩
         have:y≠x:=fun e=>hj (uv hN e1 (e▸hi))
         simp[this,e]
       · exact .inr ⟨k,c,e,z.sameBut hs (tZ y c e)⟩
   · obtain⟨w',z⟩:=I.cell y c e
     exact⟨w',z.sameBut hs (tZ y c e)⟩
   · obtain⟨e,n,ne,nf,d⟩:=I.pin p hp
     exact⟨(hs.2 p.1 ne).trans e,n,ne,nf,d⟩
 · have hfn:X.fn x=true:=by
    rcases hf with z|z
    · exact z
    · rw[z]at hk;cases hk
   obtain⟨c,hc⟩:=I.ok.has x (.inl hk)
   obtain⟨w',z⟩:=I.cell x c hc
   refine wpAny_storeName_cell I.ok.kind hk hc z (fun h' hc' hs=>?_)
   obtain⟨oc,hoc,hocd⟩:=id z
   refine h {s with heap:=h'} ⟨I.ok,I.os,I.bare,⟨fun b o e n hb hx=>?_,fun b o e n hb hx=>?_,I.base.free,fun b o e hx=>?_,I.base.m8,I.base.lX,I.base.lR⟩,⟨m,hn.sameBut hs (Ne.symm (tZ x c hc)),fun j y v' e1 e2 e3=>?_⟩,fun y c' e=>?_,I.free,I.jb,fun p hp=>?_,tracked ⟨oc,hoc,I.jb x c hc⟩ hs,by simpa using I.len⟩ ⟨c,hs,.inr hc⟩
   · exact(hs.2 b (Nat.ne_of_lt (Nat.lt_of_lt_of_le (Heap.lt_size e) (I.ok.wu x c hfn hc)))).trans (I.base.keep b o e n hb hx)
   · obtain⟨sl,e1⟩:=I.base.slot b o e n hb hx
     exact⟨sl,(hs.2 b (Nat.ne_of_lt (Nat.lt_of_lt_of_le (Heap.lt_size e) (I.ok.wu x c hfn hc)))).trans e1⟩
   · obtain⟨o',e1⟩:=I.base.there b o e hx
     exact⟨o',(hs.2 b (Nat.ne_of_lt (Nat.lt_of_lt_of_le (Heap.lt_size e) (I.ok.wu x c hfn hc)))).trans e1⟩
   · by_cases hj:j=i
     · subst hj
       rw[hi]at e1;cases e1
       rw[List.getElem?_set_self hiσ]at e2
       cases e2
       exact⟨u,r,.inr ⟨.inl hk,c,hc,hc'⟩⟩
     · rw[List.getElem?_set_ne (Ne.symm hj)]at e2
       obtain⟨u',r',q⟩:=hl j y v' e1 e2 e3
       refine⟨u',r',?_⟩
       rcases q with q|⟨k,c',e,z'⟩
       · exact .inl q
       · refine .inr ⟨k,c',e,z'.sameBut hs ?_⟩
         rintro rfl
         exact hj (uv hN e1 (I.ok.inj _ _ _ e hc▸hi))
   · by_cases hcc:c'=c
     · subst hcc;exact⟨_,hc'⟩
     · obtain⟨w2,z2⟩:=I.cell y c' e
       exact⟨w2,z2.sameBut hs hcc⟩
   · obtain⟨e,n,ne,nf,d⟩:=I.pin p hp
     refine⟨(hs.2 p.1 ?_).trans e,n,ne,nf,d⟩
     intro q
     rw[q,hoc]at e
     have q':oc=p.2:=Option.some.inj e
     exact d w' (by rw[←q'];exact hocd)
theorem kP{M:Model}{A:Around}{E:Value→Shared→Prop}{i:Nat}{x:Str}{v:V}{u:Value}{Q:Unit→Shared→Prop}(I:Inv X pins σ H s)(hN:X.N.Nodup)(hi:X.N[i]?=some x)(hx:Loc X.env.scope x)(r:RelV v u)
 (h:∀s',Inv X pins (σ.set i (some v)) H s'→Q () s') (hf:X.fn x=true∨X.env.scope.names.lookup x=some .local:=by first|exact .inl rfl|exact .inr rfl|assumption):wpAny M A (storeName X.env x u) Q E s:=
 sM I hN hi hx r (fun s' I' _=>h s' I') hf
theorem Inv.B8{s':Shared}{ch:List Addr}(I:Inv X pins σ H s)(ho:s'.os=s.os)(u:Un (mD X.stack) ch H H' s.heap s'.heap)(aT:gN X.prog X.w H' s'.heap)(hg:AllBare s'.gens)
 (hch:∀b∈ch,(b∈X.ex∨X.s₀.heap.objs.size≤b)∧b≠X.env.locals∧(∀x c,X.env.cells.lookup x=some c→c≠b)∧∀p∈X.pn++pins,p.1≠b):Inv X pins σ H' s':=by
 obtain⟨h',g',d',t',o'⟩:=s'
 have e:o'=s.os:=ho
 subst e
 exact I.call (g':=g') (t':=t') (d':=d') u aT hg hch
end
noncomputable abbrev XK:=Value→Option Addr→Hp→Prop
noncomputable abbrev St:=List (Option V)
noncomputable abbrev VK:=V→Hp→Prop
noncomputable abbrev TE:=St→Hp→VK→Prop
noncomputable abbrev TT:=St→Hp→(Bool→Hp→Prop)→Prop
noncomputable abbrev TA:=St→Hp→(List V→Hp→Prop)→Prop
structure Ends where
 nx:St→Hp→Prop
 rt:VK
 bk:St→Hp→Prop:=fun _ _=>False
 ct:St→Hp→Prop:=fun _ _=>False
noncomputable abbrev TS:=Ends→St→Hp→Prop
noncomputable def EP(X:Cx)(pins:List (Addr×Obj))(σ:St)(Q:VK)(u:Value)(s':Shared):Prop:=∃v H',Inv X pins σ H' s'∧RelV v u∧Q v H'
noncomputable def TP(X:Cx)(pins:List (Addr×Obj))(σ:St)(Q:Bool→Hp→Prop)(b:Bool)(s':Shared):Prop:=∃H',Inv X pins σ H' s'∧Q b H'
noncomputable def AP(X:Cx)(pins:List (Addr×Obj))(σ:St)(Q:List V→Hp→Prop)(us:List Value)(s':Shared):Prop:=∃vs H',Inv X pins σ H' s'∧Vals vs us∧Q vs H'
noncomputable def SP(X:Cx)(pins:List (Addr×Obj))(D:Ends)(f:Flow)(s':Shared):Prop:=
 match f with
 | .next=>∃σ' H',Inv X pins σ' H' s'∧D.nx σ' H'
 | .brk=>∃σ' H',Inv X pins σ' H' s'∧D.bk σ' H'
 | .cont=>∃σ' H',Inv X pins σ' H' s'∧D.ct σ' H'
 | .ret u=>∃v σ' H',Inv X pins σ' H' s'∧RelV v u∧D.rt v H'
noncomputable def PE(X:Cx)(e:Expr)(t:TE):Prop:=
 ∀(pins:List (Addr×Obj)) (s:Shared) (σ:St) (H:Hp) (Q:VK),Inv X pins σ H s→t σ H Q→wpAny (model X.prog X.w) X.A (eval e X.env) (EP X pins σ Q) X.xe s
noncomputable def PT(X:Cx)(e:Expr)(t:TT):Prop:=
 ∀(pins:List (Addr×Obj)) (s:Shared) (σ:St) (H:Hp) (Q:Bool→Hp→Prop),Inv X pins σ H s→t σ H Q→wpAny (model X.prog X.w) X.A (isTrue e X.env (eval e X.env)) (TP X pins σ Q) X.xe s
noncomputable def PW(X:Cx)(e:Expr)(t:TT):Prop:=
 ∀(whole:Sem Value) (pins:List (Addr×Obj)) (s:Shared) (σ:St) (H:Hp) (Q:Bool→Hp→Prop),Inv X pins σ H s→t σ H Q→wpAny (model X.prog X.w) X.A (isTrue e X.env whole) (TP X pins σ Q) X.xe s
theorem PW.pt{X:Cx}{e:Expr}{t:TT}(h:PW X e t):PT X e t:=h _
noncomputable def PA(X:Cx)(es:List Expr)(t:TA):Prop:=
 ∀(pos:Pos) (pins:List (Addr×Obj)) (s:Shared) (σ:St) (H:Hp) (Q:List V→Hp→Prop),Inv X pins σ H s→t σ H Q→wpAny (model X.prog X.w) X.A (spliced (backTo pos (starEach es X.env))) (AP X pins σ Q) X.xe s
noncomputable def PS(X:Cx)(st:Stmt)(t:TS):Prop:=
 ∀(pins:List (Addr×Obj)) (s:Shared) (σ:St) (H:Hp) (D:Ends),Inv X pins σ H s→t D σ H→wpAny (model X.prog X.w) X.A (exec st X.env) (SP X pins D) X.xe s
noncomputable def gv(X:Cx)(st:List Stmt)(t:TS):Prop:=
 ∀(pins:List (Addr×Obj)) (s:Shared) (σ:St) (H:Hp) (D:Ends),Inv X pins σ H s→t D σ H→wpAny (model X.prog X.w) X.A (execs st X.env) (SP X pins D) X.xe s
theorem bD{α:Type}{t:Sem α}{Q Q':α→Shared→Prop}{M:Model}{A:Around}{E:Value→Shared→Prop}{s:Shared}(h:wpAny M A t Q E s)(hQ:∀a s,Q a s→Q' a s):wpAny M A t Q' E s:=wpAny_mono h hQ fun _ _ x=>x
end L2
namespace L2
open PySem PySem.Spec PyProof.Rows
section
variable {X:Cx}
noncomputable def Fb(i:Nat):TE:=fun σ H Q=>∃v,σ[i]?=some (some v)∧Q v H
noncomputable def tC(v:V):TE:=fun _ H Q=>Q v H
theorem GG{i:Nat}{x:Str}{pos:Pos}(hN:X.N[i]?=some x)(hv:ui X.env.scope x)(hd:(x==("__debug__":Str))=false:=by decide)(hcd:(x==("__classdict__":Str))=false:=by decide):PE X (.Name x pos) (Fb i):=by
 intro pins s σ H Q I h
 obtain⟨v,e,h⟩:=h
 obtain⟨m,hn,hl⟩:=I.loc
 obtain⟨u,r,l⟩:=hl i x v hN e hv
 have fin:EP X pins σ Q u s:=⟨v,H,I,r,h⟩
 rcases l with⟨hk,hm⟩|⟨hk,c,hc,hcell⟩
 · exact wpAny_Name (wpAny_loadName_local I.ok.kind hk hn hm fin) hd
 · rcases hk with hk|hk
   · exact wpAny_Name (wpAny_loadName_cell I.ok.kind hk hc hcell fin) hd
   · exact wpAny_Name (wpAny_loadName_free I.ok.kind hk hc hcell fin hcd) hd
theorem FX{i j pos}:PE X (.Constant (.int i) j pos) (tC (.int i)):=fun _ _ _ H _ I h=>wpAny_Constant_int ⟨.int i,H,I.tok _,⟨_,rfl⟩,h⟩
theorem Hr{b j pos}:PE X (.Constant (.bool b) j pos) (tC (.bl b)):=fun _ _ _ H _ I h=>Constant_bool ⟨.bl b,H,I,rfl,h⟩
theorem FK{j pos}:PE X (.Constant .none j pos) (tC .aP):=fun _ _ _ H _ I h=>Constant_none ⟨.aP,H,I,rfl,h⟩
noncomputable def Gl(X:Cx)(x:Str):Prop:=X.env.kindOf x=some .globalImplicit
theorem wD{E:Value→Shared→Prop}{pins:List (Addr×Obj)}{s:Shared}{σ:St}{H:Hp}{x:Str}{u:Value}{pos:Pos}{Q:Value→Shared→Prop}(I:Inv X pins σ H s)(hg:Gl X x)(hm:X.mg x=some u)(h:Q u s)
 (hd:(x==("__debug__":Str))=false:=by decide):wpAny (model X.prog X.w) X.A (eval (.Name x pos) X.env) Q E s:=
 Calls.Name_function_global I.ok.kind hg (Calls.loadGlobal_global (by rw[I.ok.glob];exact I.mod.glob.keeps I.bk) hm h) hd
theorem kM{E:Value→Shared→Prop}{pins:List (Addr×Obj)}{s:Shared}{σ:St}{H:Hp}{x:Str}{u:Value}{pos:Pos}{Q:Value→Shared→Prop}(I:Inv X pins σ H s)(hg:Gl X x)(hm:X.mg x=none)(hv:bootBuiltins x=some u)(h:Q u s)
 (hn:x≠"__name__":=by decide) (hd:(x==("__debug__":Str))=false:=by decide):wpAny (model X.prog X.w) X.A (eval (.Name x pos) X.env) Q E s:=by
 obtain⟨mb,h1,h2⟩:=I.mod.blt
 exact Calls.Name_function_global I.ok.kind hg (Calls.loadGlobal_builtin (by rw[I.ok.glob];exact I.mod.glob.keeps I.bk) hm (by rw[I.ok.blt];exact h1.keeps I.bk) ((h2 x hn).trans hv) h) hd
variable {a b:Expr}{ta tb:TE}{pos:Pos}
noncomputable def tB(t:TE):TT:=fun σ H Q=>t σ H fun x H1=>∃c,x= .bl c∧Q c H1
theorem EI{e:Expr}{t:TE}(h:PE X e t)(he:∀whole,isTrue e X.env whole=(do let v ←whole;standAt e.pos;holding [v] (truthy v)):=by intro _;rfl):PT X e (tB t):=by
 intro pins s σ H Q I hw
 refine isTrue_plain (bD (h pins s σ H _ I hw) fun v s1 ⟨x,H1,I1,r1,q1⟩=>?_) (he _)
 obtain⟨d,rfl,q⟩:=q1
 cases r1
 exact wpAny_truthy_bool ⟨H1,I1,q⟩
variable {tA tB':TT}{rest:List Expr}
noncomputable def FZ(t u:TT):TT:=fun σ H Q=>t σ H fun c H1=>if c=true then u σ H1 Q else Q false H1
noncomputable def IG(t u:TT):TT:=fun σ H Q=>t σ H fun c H1=>if c=true then Q true H1 else u σ H1 Q
noncomputable def JX(t:TT):TT:=fun σ H Q=>t σ H fun c H1=>Q (!c) H1
theorem pw_and1(ha:PT X a tA):PW X (.BoolOp .And [a] pos) tA:=by
 intro wh pins s σ H Q I h
 refine isTrue_and (bD (ha pins s σ H Q I h) fun c s1 e=>?_)
 cases c with
 |true=>exact isTrue_and_nil e
 |false=>exact e
theorem pw_or1(ha:PT X a tA):PW X (.BoolOp .Or [a] pos) tA:=by
 intro wh pins s σ H Q I h
 refine isTrue_or (bD (ha pins s σ H Q I h) fun c s1 e=>?_)
 cases c with
 |false=>exact isTrue_or_nil e
 |true=>exact e
theorem pw_and(ha:PT X a tA)(hb:PW X (.BoolOp .And (b::rest) pos) tB'):PW X (.BoolOp .And (a::b::rest) pos) (FZ tA tB'):=by
 intro wh pins s σ H Q I h
 refine isTrue_and (bD (ha pins s σ H _ I h) fun c s1 ⟨H1,I1,q1⟩=>?_)
 cases c with
 |true=>exact hb wh pins s1 σ H1 Q I1 q1
 |false=>exact⟨H1,I1,q1⟩
theorem pw_or(ha:PT X a tA)(hb:PW X (.BoolOp .Or (b::rest) pos) tB'):PW X (.BoolOp .Or (a::b::rest) pos) (IG tA tB'):=by
 intro wh pins s σ H Q I h
 refine isTrue_or (bD (ha pins s σ H _ I h) fun c s1 ⟨H1,I1,q1⟩=>?_)
 cases c with
 |true=>exact⟨H1,I1,q1⟩
 |false=>exact hb wh pins s1 σ H1 Q I1 q1
theorem EH(ha:PT X a tA):PT X (.UnaryOp .Not a pos) (JX tA):=by
 intro pins s σ H Q I h
 exact isTrue_not (ha pins s σ H (fun c H1=>Q (!c) H1) I h)
noncomputable def Kg(t:TT)(ta tb:TE):TE:=fun σ H Q=>t σ H fun c H1=>if c=true then ta σ H1 Q else tb σ H1 Q
theorem Br{c:Expr}(hc:PT X c tA)(ha:PE X a ta)(hb:PE X b tb):PE X (.IfExp c a b pos) (Kg tA ta tb):=by
 intro pins s σ H Q I h
 refine wpAny_IfExp (bD (hc pins s σ H _ I h) fun d s1 ⟨H1,I1,q1⟩=>?_)
 cases d with
 |true=>exact ha pins s1 σ H1 Q I1 q1
 |false=>exact hb pins s1 σ H1 Q I1 q1
end
end L2
namespace L2
open PySem PySem.Spec PyProof.Rows
noncomputable def j4(K:PySem.W.Frag)(H:Hp)(a:Addr)(xs:List V):Prop:=
 Rd H a (.lst xs)∨
  ∃(o:Obj) (its:Array Value) (n:Nat),K.lookup a=some o∧o.cls= .type "list"∧o.dict=none∧o.data= .seq its n∧its.size≤sizeLine∧Vals xs its.toList
noncomputable def ix(K:PySem.W.Frag)(H:Hp)(a:Addr)(xs:List V):Prop:=
 Rd H a (.tup xs)∨
  ∃(o:Obj) (its:Array Value) (n:Nat),K.lookup a=some o∧o.cls= .type "tuple"∧o.data= .seq its n∧its.size≤sizeLine∧Vals xs its.toList
noncomputable def Jt:Value→Option V
 | .none=>some .aP
 | .bool b=>some (.bl b)
 | .int i _=>some (.int i)
 | .str x _=>some (.str x)
 | .bytes b _=>some (.BJ b)
 | .float b _=>some (.Cn b)
 | .ref a=>some (.ref a)
 | .type n=>some (.ty n)
 |_=>none
theorem RelV.abs{x:V}{u:Value}(r:RelV x u):Jt u=some x:=by
 cases x with
 |aP=>cases r;rfl
 |bl _=>cases r;rfl
 |int _=>obtain⟨t,rfl⟩:=r;rfl
 |str _=>obtain⟨t,rfl⟩:=r;rfl
 |BJ _=>obtain⟨t,rfl⟩:=r;rfl
 |Cn _=>obtain⟨t,rfl⟩:=r;rfl
 |ref _=>cases r;rfl
 |ty _=>cases r;rfl
theorem RelV.inj{x y:V}{u:Value}(r:RelV x u)(q:RelV y u):x=y:=Option.some.inj (r.abs.symm.trans q.abs)
theorem Vals.inj:∀ {xs ys:List V} {us:List Value},Vals xs us→Vals ys us→xs=ys
 |_,_,_,.nil,.nil=>rfl
 |_,_,_,.cons r t,.cons r' t'=>by rw[r.inj r',Vals.inj t t']
section
variable {X:Cx}{pins:List (Addr×Obj)}{σ:St}{H:Hp}{s:Shared}{a:Addr}{xs ys:List V}
theorem j4.of{K:PySem.W.Frag}(h:H a=some (.lst xs)):j4 K H a xs:= .inl (.inl h)
theorem ix.of{K:PySem.W.Frag}(h:H a=some (.tup xs)):ix K H a xs:= .inl (.inl h)
theorem Inv.list(I:Inv X pins σ H s)(h:j4 X.K H a xs):∃its:List Value,Vals xs its∧PlainL s.heap a its.toArray∧xs.length≤sizeLine:=by
 rcases h with h|⟨o,its,n,hk,hc,hd,hs,hz,r⟩
 · obtain⟨z,its,n,r,e⟩:=h.ok I.aT
   exact⟨its,r,⟨_,n,e,rfl,rfl,rfl⟩,z⟩
 · refine⟨its.toList,r,⟨o,n,I.lE a o hk,hc,hd,by simpa using hs⟩,?_⟩
   have e:=r.length
   simp only[Array.length_toList]at e
   omega
theorem Inv.tuple(I:Inv X pins σ H s)(h:ix X.K H a xs):∃its:List Value,Vals xs its∧IsTup s.heap a its.toArray∧xs.length≤sizeLine:=by
 rcases h with h|⟨o,its,n,hk,hc,hs,hz,r⟩
 · obtain⟨z,its,r,p⟩:=h.ok I.aT
   exact⟨its,r,p,z⟩
 · refine⟨its.toList,r,⟨o,I.lE a o hk,hc,n,by simpa using hs⟩,?_⟩
   have e:=r.length
   simp only[Array.length_toList]at e
   omega
theorem Inv.uH(I:Inv X pins σ H s)(h:j4 X.K H a xs)(h':j4 X.K H a ys):xs=ys:=by
 obtain⟨its,r,⟨o,n,e,_,_,d⟩,_⟩:=I.list h
 obtain⟨its',r',⟨o',n',e',_,_,d'⟩,_⟩:=I.list h'
 rw[e]at e';cases e'
 rw[d]at d'
 injection d' with d1 _
 have:its=its':=by simpa using congrArg Array.toList d1
 subst this
 exact r.inj r'
theorem Inv.sA(I:Inv X pins σ H s)(h:ix X.K H a xs)(h':ix X.K H a ys):xs=ys:=by
 obtain⟨its,r,⟨o,e,_,n,d⟩,_⟩:=I.tuple h
 obtain⟨its',r',⟨o',e',_,n',d'⟩,_⟩:=I.tuple h'
 rw[e]at e';cases e'
 rw[d]at d'
 injection d' with d1 _
 have:its=its':=by simpa using congrArg Array.toList d1
 subst this
 exact r.inj r'
end
noncomputable abbrev Cx.lT(X:Cx)(E:Value→Shared→Prop):Cx:={X with xe:=E}
noncomputable abbrev Cx.uk(X:Cx):Cx:=X.lT fun _ _=>False
theorem Cx.Ok.lT{X:Cx}(ok:X.Ok)(E:Value→Shared→Prop):(X.lT E).Ok:=
 ⟨ok.mod,ok.kind,ok.glob,ok.blt,ok.above,ok.inj,ok.has,ok.wu,ok.hd,ok.frames,ok.yr,ok.BN,ok.bs,ok.qZ,ok.sr,ok.rL,ok.jN,ok.sO,ok.gt⟩
theorem Cx.Ok.j_{X:Cx}{E:Value→Shared→Prop}(ok:(X.lT E).Ok):X.Ok:=
 ⟨ok.mod,ok.kind,ok.glob,ok.blt,ok.above,ok.inj,ok.has,ok.wu,ok.hd,ok.frames,ok.yr,ok.BN,ok.bs,ok.qZ,ok.sr,ok.rL,ok.jN,ok.sO,ok.gt⟩
section
variable {X:Cx}{pins:List (Addr×Obj)}{σ:St}{H:Hp}{s:Shared}{E:Value→Shared→Prop}
theorem Inv.lT(I:Inv X pins σ H s)(E:Value→Shared→Prop):Inv (X.lT E) pins σ H s:=⟨I.ok.lT E,I.os,I.bare,I.base,I.loc,I.cell,I.free,I.jb,I.pin,I.aT,I.len⟩
theorem Inv.j_(I:Inv (X.lT E) pins σ H s):Inv X pins σ H s:=⟨I.ok.j_,I.os,I.bare,I.base,I.loc,I.cell,I.free,I.jb,I.pin,I.aT,I.len⟩
theorem SP.j_{D:Ends}{f:Flow}{s':Shared}(h:SP (X.lT E) pins D f s'):SP X pins D f s':=by
 cases f with
 |next=>obtain⟨σ',H',I,q⟩:=h;exact⟨σ',H',I.j_,q⟩
 |brk=>obtain⟨σ',H',I,q⟩:=h;exact⟨σ',H',I.j_,q⟩
 |cont=>obtain⟨σ',H',I,q⟩:=h;exact⟨σ',H',I.j_,q⟩
 |ret u=>obtain⟨v,σ',H',I,r,q⟩:=h;exact⟨v,σ',H',I.j_,r,q⟩
theorem gv.uk{st:List Stmt}{t:TS}(h:gv X.uk st t):gv X st t:=fun pins s σ H D I hw=>
 wpAny_mono (h pins s σ H D (I.lT _) hw) (fun _ _ q=>q.j_) fun _ _ z=>False.elim z
end
section
variable {X:Cx}{st:Stmt}{rest:List Stmt}{t u:TS}{e:Expr}{te:TE}{pos:Pos}
noncomputable def HH:TS:=fun D σ H=>D.nx σ H
noncomputable def JM(t u:TS):TS:=fun D σ H=>t {D with nx:=u D} σ H
theorem CW:gv X [] HH:=fun _ _ σ H _ I h=>wpAny_execs_nil ⟨σ,H,I,h⟩
theorem AU(h1:PS X st t)(h2:gv X rest u):gv X (st::rest) (JM t u):=by
 intro pins s σ H D I h
 refine wpAny_execs_cons (bD (h1 pins s σ H {D with nx:=u D} I h) fun f s1 q=>?_)
 cases f with
 |next=>
  obtain⟨σ',H',I',q⟩:=q
  exact h2 pins s1 σ' H' D I' q
 |ret v=>exact q
 |brk=>exact q
 |cont=>exact q
theorem DP(h1:PS X st t):gv X [st] t:=by
 intro pins s σ H D I h
 refine wpAny_execs_cons (bD (h1 pins s σ H D I h) fun f s1 q=>?_)
 cases f with
 |next=>exact wpAny_execs_nil q
 |ret v=>exact q
 |brk=>exact q
 |cont=>exact q
noncomputable def HG:TS:=fun D σ H=>D.ct σ H
theorem vK:PS X (.Continue pos) HG:=fun _ _ σ H _ I h=>wpAny_Continue ⟨σ,H,I,h⟩
theorem Inv.quiet{pins:List (Addr×Obj)}{σ:St}{H:Hp}{s:Shared}(I:Inv X pins σ H s):interactive X.env=false:=by simp[interactive,I.ok.kind]
noncomputable def HP(te:TE):TS:=fun D σ H=>te σ H fun _ H1=>D.nx σ H1
theorem CQ(he:PE X e te)(hs:swapsWith e none pos.line X.env=pure false:=by rfl):PS X (.Expr e pos) (HP te):=by
 intro pins s σ H D I h
 exact wpAny_Expr_any (bD (he pins s σ H _ I h) fun v s1 ⟨x,H1,I1,r1,q1⟩=>⟨σ,H1,I1,q1⟩) I.quiet hs
noncomputable def Ji(te:TE):TS:=fun D σ H=>te σ H D.rt
theorem Fo(he:PE X e te):PS X (.Return (some e) pos) (Ji te):=by
 intro pins s σ H D I h
 exact wpAny_Return_some (bD (he pins s σ H _ I h) fun v s1 ⟨x,H1,I1,r1,q1⟩=>⟨x,σ,H1,I1,r1,q1⟩)
noncomputable def HM:TS:=fun D _ H=>D.rt .aP H
theorem CC:PS X (.Return none pos) HM:=fun _ _ σ H _ I h=>wpAny_Return_none ⟨.aP,σ,H,I,rfl,h⟩
noncomputable def JL(c:TT)(t u:TS):TS:=fun D σ H=>c σ H fun b H1=>if b=true then t D σ H1 else u D σ H1
theorem HE{c:Expr}{a b:List Stmt}{tc:TT}(hc:PT X c tc)(ha:gv X a t)(hb:gv X b u):PS X (.If c a b pos) (JL tc t u):=by
 intro pins s σ H D I h
 refine wpAny_If (bD (hc pins s σ H _ I h) fun d s1 ⟨H1,I1,q1⟩=>?_)
 cases d with
 |true=>exact ha pins s1 σ H1 D I1 q1
 |false=>exact hb pins s1 σ H1 D I1 q1
end
noncomputable abbrev TG:=V→St→Hp→(St→Hp→Prop)→Prop
noncomputable abbrev vc:=List V→St→Hp→(St→Hp→Prop)→Prop
noncomputable def PG(X:Cx)(target:Expr)(t:TG):Prop:=
 ∀(pins:List (Addr×Obj)) (s:Shared) (σ:St) (H:Hp) (v:V) (u:Value) (Q:St→Hp→Prop),Inv X pins σ H s→RelV v u→t v σ H Q→
  wpAny (model X.prog X.w) X.A (assign target X.env u) (fun _ s'=>∃σ' H',Inv X pins σ' H' s'∧Q σ' H') X.xe s
noncomputable def Cu(X:Cx)(ts:List Expr)(t:vc):Prop:=
 ∀(pins:List (Addr×Obj)) (s:Shared) (σ:St) (H:Hp) (vs:List V) (us:List Value) (Q:St→Hp→Prop),Inv X pins σ H s→Vals vs us→t vs σ H Q→
  wpAny (model X.prog X.w) X.A (assignInOrder ((assignEach ts X.env).map (·.2)) us) (fun _ s'=>∃σ' H',Inv X pins σ' H' s'∧Q σ' H') X.xe s
noncomputable abbrev vp:=V→V→V→Hp→(Hp→Prop)→Prop
noncomputable def Bp(X:Cx)(t:vp):Prop:=
 ∀(pins:List (Addr×Obj)) (s:Shared) (σ:St) (H:Hp) (o i v:V) (ov iv u:Value) (Q:Hp→Prop),Inv X pins σ H s→RelV o ov→RelV i iv→RelV v u→t o i v H Q→
  wpAny (model X.prog X.w) X.A (setItem ov iv u) (fun _ s'=>∃H',Inv X pins σ H' s'∧Q H') X.xe s
noncomputable abbrev wH:=V→V→Hp→VK→Prop
noncomputable def uq(X:Cx)(op:Operator)(t:wH):Prop:=
 ∀(pins:List (Addr×Obj)) (s:Shared) (σ:St) (H:Hp) (x y:V) (v u:Value) (Q:VK),Inv X pins σ H s→RelV x v→RelV y u→t x y H Q→
  wpAny (model X.prog X.w) X.A (inplaceOp op v u) (EP X pins σ Q) X.xe s
section
variable {X:Cx}{pos:Pos}
noncomputable def iL(i:Nat):TG:=fun v σ H Q=>Q (σ.set i (some v)) H
theorem kA{i:Nat}{x:Str}(hN:X.N.Nodup)(hi:X.N[i]?=some x)(hx:Loc X.env.scope x)(hf:X.fn x=true∨X.env.scope.names.lookup x=some .local:=by first|exact .inl rfl|exact .inr rfl|assumption):PG X (.Name x pos) (iL i):=by
 intro pins s σ H v u Q I r h
 exact wpAny_assign_Name (kP I hN hi hx r (fun s' I'=>⟨_,H,I',h⟩) hf)
noncomputable def AK:vc:=fun vs σ H Q=>vs=[]∧Q σ H
noncomputable def ox(t:TG)(u:vc):vc:=fun vs σ H Q=>∃v r,vs=v::r∧t v σ H fun σ' H'=>u r σ' H' Q
theorem wR:Cu X [] AK:=by
 intro pins s σ H vs us Q I r h
 obtain⟨e,h⟩:=h
 subst e
 cases r
 exact assignInOrder_nil ⟨σ,H,I,h⟩
theorem kR{e:Expr}{es:List Expr}{t:TG}{u:vc}(h1:PG X e t)(h2:Cu X es u)
 (hs:(assignEach (e::es) X.env).map (·.2)=assign e X.env::(assignEach es X.env).map (·.2):=by rfl):Cu X (e::es) (ox t u):=by
 intro pins s σ H vs us Q I r h
 obtain⟨v,vr,e1,h⟩:=h
 subst e1
 cases r with
 |cons r rr=>
  rw[hs]
  refine assignInOrder_cons (bD (h1 pins s σ H _ _ _ I r h) fun _ s1 ⟨σ1,H1,I1,q1⟩=>?_)
  exact h2 pins s1 σ1 H1 _ _ Q I1 rr q1
noncomputable def Bv(K:PySem.W.Frag)(n:Nat)(t:vc):TG:=fun v σ H Q=>∃a xs,v= .ref a∧ix K H a xs∧xs.length=n∧t xs σ H Q
theorem zy{es:List Expr}{k:Nat}{t:vc}{n:Nat}(hc:X.calm=true)(h:Cu X es t)
 (hn:(assignEach es X.env).length=n:=by rfl) (hst:(assignEach es X.env).findIdx? (·.1)=none:=by rfl):PG X (.Tuple es k pos) (Bv X.K n t):=by
 intro pins s σ H v u Q I r hw
 obtain⟨a,xs,e1,hq,hl,hw⟩:=hw
 subst e1
 cases r
 obtain⟨its,rv,ht,hz⟩:=I.tuple hq
 refine assign_Tuple_tuple (I.ok.hd hc) ht (by simp[hn,←hl,rv.length]) hst fun h' hx=>?_
 have I1:Inv X pins σ H {s with heap:=h'}:=I.kept (t':=s.toks) fun b o e=>hx b o (Nat.ne_of_lt (Heap.lt_size e)) e
 exact h pins _ σ H xs _ Q I1 (by simpa using rv) hw
noncomputable def xJ(to ti:TE)(t:vp):TG:=fun v σ H Q=>to σ H fun o H1=>ti σ H1 fun i H2=>t o i v H2 fun H3=>Q σ H3
theorem Gi{o i:Expr}{to ti:TE}{t:vp}(ho:PE X o to)(hi:PE X i ti)(hs:Bp X t)
 (ha:∀v,assign (.Subscript o i pos) X.env v=(do
   let ov ←holding [v] (eval o X.env)
   let iv ←holding [v,ov] (eval i X.env)
   standAt pos
   holding [v,ov,iv] (setItem ov iv v)
   release [v,ov,iv] []):=by intro _;rfl):PG X (.Subscript o i pos) (xJ to ti t):=by
 intro pins s σ H v u Q I r h
 rw[ha]
 refine wpAny_bind (wpAny_holding (bD (ho pins s σ H _ I h) fun ov s1 ⟨x,H1,I1,r1,q1⟩=>?_))
 refine wpAny_bind (wpAny_holding (bD (hi pins s1 σ H1 _ I1 q1) fun iv s2 ⟨y,H2,I2,r2,q2⟩=>?_))
 refine wpAny_bind (wpAny_standAt (wpAny_bind (wpAny_holding (bD (hs pins s2 σ H2 x y v ov iv u _ I2 r1 r2 r q2) fun _ s3 ⟨H3,I3,q3⟩=>?_))))
 exact wpAny_release ⟨σ,H3,I3,q3⟩
noncomputable def m4(te:TE)(g:TG):TS:=fun D σ H=>te σ H fun x H1=>g x σ H1 D.nx
theorem Fu{tg e:Expr}{te:TE}{g:TG}(he:PE X e te)(hg:PG X tg g)(hs:swapsWithSole [tg] e pos.line X.env=pure false:=by rfl)(hw:swappedStores [tg] e X.env=pure none:=by rfl)
 (h1:(assignEach [tg] X.env).map (·.2)=[assign tg X.env]:=by rfl):PS X (.Assign [tg] e pos) (m4 te g):=by
 intro pins s σ H D I h
 refine wpAny_Assign_stores (bD (he pins s σ H _ I h) fun v s1 ⟨x,H1,I1,r1,q1⟩=>?_) hs hw
 rw[h1]
 exact bD (hg pins s1 σ H1 x v _ I1 r1 q1) fun _ s2 q=>q
theorem E6{i:Nat}{x:Str}{e:Expr}{te:TE}{pos':Pos}(hN:X.N.Nodup)(hi:X.N[i]?=some x)(hx:Loc X.env.scope x)(he:PE X e te)(hs:swapsWith e (some (.Name x pos')) pos.line X.env=pure false:=by rfl)(hf:X.fn x=true∨X.env.scope.names.lookup x=some .local:=by first|exact .inl rfl|exact .inr rfl|assumption):
 PS X (.Assign [.Name x pos'] e pos) (m4 te (iL i)):=by
 intro pins s σ H D I h
 refine wpAny_Assign_Name (bD (he pins s σ H _ I h) fun v s1 ⟨y,H1,I1,r1,q1⟩=>?_) hs
 exact kP I1 hN hi hx r1 (fun s2 I2=>⟨_,H1,I2,q1⟩) hf
noncomputable def FQ(i j:Nat)(ta:TA):TS:=fun D σ H=>ta σ H fun vs H1=>∃v w,vs=[v,w]∧D.nx ((σ.set i (some v)).set j (some w)) H1
theorem FN{i j:Nat}{x y:Str}{a b:Expr}{ta:TA}{px py pt:Pos}{kt k2 pt2}(hc:X.calm=true)(hN:X.N.Nodup)(hi:X.N[i]?=some x)(hj:X.N[j]?=some y)(hij:i≠j)
 (hx:X.env.scope.names.lookup x=some .local) (hy:X.env.scope.names.lookup y=some .local) (ha:PA X [a,b] ta)
 (hw:swappedStores [.Tuple [.Name x px,.Name y py] kt pt] (.Tuple [a,b] k2 pt2) X.env=pure (some [x,y]))
 (hs:swapsWithSole [.Tuple [.Name x px,.Name y py] kt pt] (.Tuple [a,b] k2 pt2) pos.line X.env=pure false:=by rfl):
 PS X (.Assign [.Tuple [.Name x px,.Name y py] kt pt] (.Tuple [a,b] k2 pt2) pos) (FQ i j ta):=by
 intro pins s σ H D I h
 rw[exec_Assign_arm]
 refine wpAny_bind (wpAny_standAt ?_)
 rw[hs]
 refine wpAny_bind (wpAny_pure ?_)
 rw[if_neg (by decide)]
 refine wpAny_bind (Tuple_ (bD (ha _ pins s σ H _ I h) fun us s1 ⟨vs,H1,I1,r1,q1⟩=>?_))
 obtain⟨v,w,e1,q1⟩:=q1
 subst e1
 obtain⟨u1,u2,rfl,rv,rw'⟩:∃u1 u2,us=[u1,u2]∧RelV v u1∧RelV w u2:=by
  cases r1 with
  |cons p q=>
   cases q with
   |cons p' q'=>
    cases q'
    exact⟨_,_,rfl,p,p'⟩
 refine wpAny_newObj_type ?_ (by show 2≤sizeLine;decide)
 have I2:Inv X pins σ H1 {s1 with heap:=s1.heap.push {cls:= .type "tuple",data:= .seq [u1,u2].toArray}}:=I1.kept (t':=s1.toks) fun b o e=>Heap.get?_push_of_some _ e
 rw[hw]
 refine wpAny_bind (wpAny_pure ?_)
 show wpAny (model X.prog X.w) X.A (do rule "assign.swapped-stores";let items ←unpackItems (.ref s1.heap.objs.size) 2 none;assignInOrder [fun v=>bindName X.env y v,fun v=>bindName X.env x v] items.reverse;pure Flow.next) _ _ _
 refine wpAny_bind (wpAny_rule (wpAny_bind (unpackItems_tuple (items:= #[u1,u2]) (I.ok.hd hc) (IsTup.new s1.heap _) fun h' hx'=>?_)))
 have I3:=I2.kept (h':=h') (t':=s1.toks) fun b o e=>hx' b o (Nat.ne_of_lt (Heap.lt_size e)) e
 show wpAny _ _ (assignInOrder [fun v=>bindName X.env y v,fun v=>bindName X.env x v] [u2,u1] >>= fun _=>pure Flow.next) _ _ _
 refine wpAny_bind (assignInOrder_cons (wpAny_bindName (kP I3 hN hj (.inl hy) rw' (fun s2 I4=>?_) (.inr hy))))
 refine assignInOrder_cons (wpAny_bindName (kP I4 hN hi (.inl hx) rv (fun s3 I5=>assignInOrder_nil (wpAny_pure ?_)) (.inr hx)))
 rw[List.set_comm _ _ (Ne.symm hij)]at I5
 exact⟨_,H1,I5,q1⟩
noncomputable def EE(i:Nat)(te:TE)(ti:wH):TS:=fun D σ H=>∃x,σ[i]?=some (some x)∧te σ H fun y H1=>ti x y H1 fun z H2=>D.nx (σ.set i (some z)) H2
theorem GL{i:Nat}{x:Str}{e:Expr}{te:TE}{op:Operator}{ti:wH}{pos':Pos}(hN:X.N.Nodup)(hi:X.N[i]?=some x)(hx:Loc X.env.scope x)(he:PE X e te)(ho:uq X op ti)(hf:X.fn x=true∨X.env.scope.names.lookup x=some .local:=by first|exact .inl rfl|exact .inr rfl|assumption):
 PS X (.AugAssign (.Name x pos') op e pos) (EE i te ti):=by
 intro pins s σ H D I h
 obtain⟨v,e1,h⟩:=h
 obtain⟨m,hn,hl⟩:=I.loc
 have vis:ui X.env.scope x:=by rcases hx with k|k;exact .inl k;exact .inr (.inl k)
 obtain⟨u,r,l⟩:=hl i x v hi e1 vis
 refine wpAny_AugAssign_Name ?_
 have go:wpAny (model X.prog X.w) X.A (eval e X.env) (fun w s₂=>wpAny (model X.prog X.w) X.A (inplaceOp op u w) (fun r s₃=>wpAny (model X.prog X.w) X.A (storeName X.env x r) (fun _=>SP X pins D .next) X.xe s₃) X.xe s₂) X.xe s:=by
  refine bD (he pins s σ H _ I h) fun w s1 ⟨y,H1,I1,r1,q1⟩=>?_
  refine bD (ho pins s1 σ H1 v y u w _ I1 r r1 q1) fun z s2 ⟨zv,H2,I2,r2,q2⟩=>?_
  exact kP I2 hN hi hx r2 (fun s3 I3=>⟨_,H2,I3,q2⟩) hf
 rcases l with⟨hk,hm⟩|⟨hk,c,hc,hcell⟩
 · exact wpAny_loadName_local I.ok.kind hk hn hm go
 · rcases hk with hk|hk
   · exact wpAny_loadName_cell I.ok.kind hk hc hcell go
   · rcases hx with k|k
     · have:X.env.scope.names.lookup x=some .free:=hk
       rw[k]at this;cases this
     · have:X.env.scope.names.lookup x=some .free:=hk
       rw[k]at this;cases this
noncomputable def Iz(to ti te:TE)(tget:V→V→Hp→VK→Prop)(tip:wH)(tset:vp):TS:=fun D σ H=>to σ H fun o H1=>ti σ H1 fun i H2=>tget o i H2 fun x H3=>te σ H3 fun y H4=>tip x y H4 fun z H5=>tset o i z H5 fun H6=>D.nx σ H6
noncomputable def Ft(X:Cx)(t:V→V→Hp→VK→Prop):Prop:=
 ∀(pins:List (Addr×Obj)) (s:Shared) (σ:St) (H:Hp) (o i:V) (ov iv:Value) (Q:VK),Inv X pins σ H s→RelV o ov→RelV i iv→t o i H Q→
  wpAny (model X.prog X.w) X.A (getItem ov iv) (EP X pins σ Q) X.xe s
theorem Ea{o i e:Expr}{to ti te:TE}{tget:V→V→Hp→VK→Prop}{tip:wH}{tset:vp}{op:Operator}{tpos:Pos}(ho:PE X o to)(hi:PE X i ti)(hg:Ft X tget)(he:PE X e te)(hp:uq X op tip)(hs:Bp X tset)
 (ha:∀ov iv new,augStore i ov iv new=(do holding [new,ov,iv] (setItem ov iv new);release [new,ov,iv] [];pure .next):=by intros;rfl):PS X (.AugAssign (.Subscript o i tpos) op e pos) (Iz to ti te tget tip tset):=by
 intro pins s σ H D I h
 refine wpAny_AugAssign_SubscriptAny (bD (ho pins s σ H _ I h) fun ov s1 ⟨x1,H1,I1,r1,q1⟩=>?_) ha
 refine bD (hi pins s1 σ H1 _ I1 q1) fun iv s2 ⟨x2,H2,I2,r2,q2⟩=>?_
 refine bD (hg pins s2 σ H2 x1 x2 ov iv _ I2 r1 r2 q2) fun old s3 ⟨x3,H3,I3,r3,q3⟩=>?_
 refine bD (he pins s3 σ H3 _ I3 q3) fun v s4 ⟨x4,H4,I4,r4,q4⟩=>?_
 refine bD (hp pins s4 σ H4 x3 x4 old v _ I4 r3 r4 q4) fun new s5 ⟨x5,H5,I5,r5,q5⟩=>?_
 exact bD (hs pins s5 σ H5 x1 x2 x5 ov iv new _ I5 r1 r2 r5 q5) fun _ s6 ⟨H6,I6,q6⟩=>⟨σ,H6,I6,q6⟩
noncomputable def wm(f:Int→Int→Int):wH:=fun x y H Q=>∃i j,x= .int i∧y= .int j∧Q (.int (f i j)) H
theorem Ei:uq X .Add (wm fun i j=>i+j):=by
 intro pins s σ H x y v u Q I r1 r2 h
 obtain⟨i,j,e1,e2,q⟩:=h
 subst e1;subst e2
 obtain⟨t,rfl⟩:=r1
 obtain⟨t',rfl⟩:=r2
 exact iadd_int ⟨.int _,H,I.tok _,⟨_,rfl⟩,q⟩
theorem Ez:uq X .Sub (wm fun i j=>i-j):=by
 intro pins s σ H x y v u Q I r1 r2 h
 obtain⟨i,j,e1,e2,q⟩:=h
 subst e1;subst e2
 obtain⟨t,rfl⟩:=r1
 obtain⟨t',rfl⟩:=r2
 exact isub_int ⟨.int _,H,I.tok _,⟨_,rfl⟩,q⟩
end
section
variable {X:Cx}{pos:Pos}
noncomputable def za(c:TT)(tb:TS):TS:=fun D σ H=>∃W:Nat→St→Hp→Prop,(∃m,W m σ H)∧∀m σ H,W m σ H→
 c σ H fun b H1=>if b=true then∃N:St→Hp→Prop,(∀σ' H',N σ' H'→∃m',m'<m∧W m' σ' H')∧tb {D with nx:=N,ct:=N,bk:=D.nx} σ H1 else D.nx σ H1
theorem Ag{c:Expr}{body:List Stmt}{tc:TT}{tb:TS}(hp:PassesOwn (model X.prog X.w) X.A X.env X.xe)(hc:PT X c tc)(hb:gv X body tb):PS X (.While c body [] pos) (za tc tb):=by
 intro pins s σ H D I h
 obtain⟨W,⟨m0,w0⟩,turn⟩:=h
 refine wpAny_While (codeAny_whileLoop (fun n s'=>∃σ' H',Inv X pins σ' H' s'∧W n σ' H') ?_ m0 ⟨σ,H,I,w0⟩)
 rintro n s1 ⟨σ1,H1,I1,w1⟩
 refine wpAny_passesOwn hp (bD (hc pins s1 σ1 H1 _ I1 (turn n σ1 H1 w1)) fun b s2 ⟨H2,I2,q2⟩=>?_)
 cases b with
 |true=>
  obtain⟨N,hN,q2⟩:=q2
  rw[if_pos rfl]
  refine wpAny_passesOwn hp (bD (hb pins s2 σ1 H2 _ I2 q2) fun f s3 q3=>?_)
  cases f with
  |next=>
   obtain⟨σ3,H3,I3,n3⟩:=q3
   obtain⟨m',hm,w3⟩:=hN σ3 H3 n3
   exact⟨m',hm,σ3,H3,I3,w3⟩
  |cont=>
   obtain⟨σ3,H3,I3,n3⟩:=q3
   obtain⟨m',hm,w3⟩:=hN σ3 H3 n3
   exact⟨m',hm,σ3,H3,I3,w3⟩
  |brk=>exact q3
  |ret v=>exact q3
 |false=>
  rw[if_neg Bool.false_ne_true]
  exact wpAny_execs_nil ⟨σ1,H2,I2,q2⟩
end
structure It where
 go:Nat→Hp→Prop
 lL:Nat→Hp→V→Hp→Prop
 stop:Nat→Hp→Prop
noncomputable def jJ(X:Cx)(pins:List (Addr×Obj))(H:Hp)(b:Addr):Prop:=
 H b=none∧b≠X.env.locals∧b∉X.fs∧(b∈X.ex∨X.s₀.heap.objs.size≤b)∧(∀x c,X.env.cells.lookup x=some c→c≠b)∧∀p∈X.pn++pins,p.1≠b
theorem Inv.pZ{X:Cx}{pins:List (Addr×Obj)}{σ:St}{H H':Hp}{s:Shared}{b:Addr}(I:Inv X pins σ H s)(hb:s.heap.objs.size≤b)(hn:H' b=none):jJ X pins H' b:=by
 refine⟨hn,Nat.ne_of_gt (Nat.lt_of_lt_of_le I.lt hb),I.JH hb,.inr (Nat.le_trans I.sz hb),fun x c e z=>?_,fun p hp z=>?_⟩
 · obtain⟨v,q⟩:=I.cell x c e
   exact absurd (Nat.lt_of_lt_of_le q.lt (by rw[z];exact hb)) (Nat.lt_irrefl _)
 · exact absurd (Nat.lt_of_lt_of_le (Heap.lt_size (I.pin p hp).1) (by rw[z];exact hb)) (Nat.lt_irrefl _)
structure Turn(P:Program)(w:World)(K:PySem.W.Frag)(tg:Expr)(J:It)(fp:List Addr)(it:Addr)(tn:Nat→Heap→Prop):Prop where
 mem:it∈fp
 obj:∀i h,tn i h→∀b∈fp,∃o,h.get? b=some o∧∀v,o.data≠ .cell v
 keep:∀i h h',tn i h→(∀b∈fp,∀o,h.get? b=some o→h'.get? b=some o)→tn i h'
 item:∀(X:Cx),X.prog=P→X.w=w→X.K=K→X.calm=true→∀(i:Nat) (pins:List (Addr×Obj)) (s:Shared) (σ:St) (H:Hp) (E:Value→Shared→Prop),Inv X pins σ H s→(∀b∈fp,jJ X pins H b)→tn i s.heap→J.go i H→
  wpAny (model P w) X.A (pyNext (.ref it)) (fun r s1=>∃u,r=some u∧
   wpAny (model P w) X.A (letOwnedTupleGo tg (.ref it) u) (fun _ s2=>∃x H',Inv X pins σ H' s2∧RelV x u∧J.lL i H x H'∧tn (i+1) s2.heap∧∀b∈fp,H' b=none) E s1) E s
 done:∀(X:Cx),X.prog=P→X.w=w→X.K=K→X.calm=true→∀(i:Nat) (pins:List (Addr×Obj)) (s:Shared) (σ:St) (H:Hp) (E:Value→Shared→Prop),Inv X pins σ H s→(∀b∈fp,jJ X pins H b)→tn i s.heap→J.stop i H→
  wpAny (model P w) X.A (pyNext (.ref it)) (fun r s1=>r=none∧Inv X pins σ H s1) E s
 self:∀(A:Around) (i:Nat) (s:Shared) (Q:Value→Shared→Prop) (E:Value→Shared→Prop),tn i s.heap→Q (.ref it) s→wpAny (model P w) A (pyIter (.ref it)) Q E s
noncomputable abbrev TI:=St→Hp→(It→Hp→Prop)→Prop
noncomputable def B6(X:Cx)(pins:List (Addr×Obj))(σ:St)(tg:Expr)(R:It→Hp→Prop)(itv:Value)(s2:Shared):Prop:=
 ∃(it:Addr) (fp:List Addr) (tn:Nat→Heap→Prop) (J:It) (H':Hp),itv= .ref it∧Inv X pins σ H' s2∧Turn X.prog X.w X.K tg J fp it tn∧tn 0 s2.heap∧(∀b∈fp,jJ X pins H' b)∧R J H'
noncomputable def PI(X:Cx)(tg iter:Expr)(wi:TI):Prop:=
 ∀(pins:List (Addr×Obj)) (s:Shared) (σ:St) (H:Hp) (R:It→Hp→Prop),Inv X pins σ H s→wi σ H R→
  wpAny (model X.prog X.w) X.A (eval iter X.env) (fun v s1=>wpAny (model X.prog X.w) X.A (pyIter v) (B6 X pins σ tg R) X.xe s1) X.xe s
theorem tX{M:Model}{A:Around}{E:Value→Shared→Prop}{s:Shared}{tg:Expr}{it:Addr}{u:Value}{o:Obj}{n:String}{vs:Array Value}{Q:Unit→Shared→Prop}(ho:s.heap.get? it=some o)(hc:o.cls= .type n)(hd:o.data= .fields vs)
 (hn: ["enumerate","zip","dict_itemiterator","dict_reverseitemiterator","odict_iterator","itertools.zip_longest","itertools.pairwise"].contains n=false) (hQ:Q () s):wpAny M A (letOwnedTupleGo tg (.ref it) u) Q E s:=by
 unfold letOwnedTupleGo
 cases tg<;>first
  |exact wpAny_pure hQ
  |(cases u<;>first
     |exact wpAny_pure hQ
     |(refine wpAny_bind (wpAny_load ho ?_)
       rw[hc,hd]
       show wpAny M A (if(["enumerate","zip","dict_itemiterator","dict_reverseitemiterator","odict_iterator","itertools.zip_longest","itertools.pairwise"].contains n&&vs[0]?==some (rawInt _))=true then _ else _) Q E s
       rw[if_neg (by intro h;rw[hn,Bool.false_and]at h;cases h)]
       exact wpAny_pure hQ))
noncomputable def EO(K:PySem.W.Frag)(a:Addr):It:=
 ⟨fun i H=>∃xs x,j4 K H a xs∧xs[i]?=some x,fun i H x H'=>H'=H∧∀xs,j4 K H a xs→xs[i]?=some x,fun i H=>∃xs,j4 K H a xs∧xs.length≤i⟩
noncomputable def Gx(K:PySem.W.Frag)(a:Addr):It:=
 ⟨fun i H=>∃xs x,ix K H a xs∧xs[i]?=some x,fun i H x H'=>H'=H∧∀xs,ix K H a xs→xs[i]?=some x,fun i H=>∃xs,ix K H a xs∧xs.length≤i⟩
noncomputable def sR(lo:Int)(n:Nat):It:=⟨fun i _=>i<n,fun i H x H'=>H'=H∧x= .int (lo+i),fun i _=>n≤i⟩
theorem yP{P:Program}{w:World}{K:PySem.W.Frag}{tg:Expr}(a it:Addr):Turn P w K tg (EO K a) [it] it (fun i h=>h.IsListIter it a i) where
 mem:=by simp
 obj:=fun i h st b hb=>by
  have e:b=it:=by simpa using hb
  subst e
  obtain⟨o,e,c,d⟩:=st
  exact⟨o,e,fun v z=>by rw[d]at z;cases z⟩
 keep:=fun i h h' st k=>st.at fun o e=>k it (by simp) o e
 item:=by
  intro X hP hw hK hc i pins s σ H E I hf st hg
  subst hP hw hK
  obtain⟨xs,x,hq,hx⟩:=hg
  obtain⟨its,rv,p,hz⟩:=I.list hq
  obtain⟨u,hu,ru⟩:=rv.get hx
  obtain⟨f0,f1,f2,f3,f4,f5⟩:=hf it (by simp)
  refine wpAny_pyNext_list_item st p.isList (x:=u) (by simpa using hu) fun h' st' sb=>?_
  have I1:Inv X pins σ H {s with heap:=h'}:=I.turned (t':=s.toks) (fun b o hb e=>(sb.2 b hb).trans e) f0 f1 f3 f4 f5
  obtain⟨o,e,c,d⟩:=id st'
  exact⟨u,rfl,tX (s:={s with heap:=h'}) e c d (by decide) ⟨x,H,I1,ru,⟨rfl,fun ys hy=>by rw[I.uH hy hq];exact hx⟩,st',fun b hb=>(hf b hb).1⟩⟩
 done:=by
  intro X hP hw hK hc i pins s σ H E I hf st hg
  subst hP hw hK
  obtain⟨xs,hq,hx⟩:=hg
  obtain⟨its,rv,p,hz⟩:=I.list hq
  obtain⟨f0,f1,f2,f3,f4,f5⟩:=hf it (by simp)
  have hl:=rv.length
  exact wpAny_pyNext_list_end (I.ok.hd hc) st p.isList (by simp;omega) fun h' eb=>⟨rfl,I.turned (t':=s.toks) (fun b o hb e=>eb b o hb e) f0 f1 f3 f4 f5⟩
 self:=fun _ _ _ _ _ st h=>wpAny_pyIter_listiter st h
theorem xR{P:Program}{w:World}{K:PySem.W.Frag}{tg:Expr}(a it:Addr):Turn P w K tg (Gx K a) [it] it (fun i h=>h.IsTupleIter it a i) where
 mem:=by simp
 obj:=fun i h st b hb=>by
  have e:b=it:=by simpa using hb
  subst e
  obtain⟨o,e,c,d⟩:=st
  exact⟨o,e,fun v z=>by rw[d]at z;cases z⟩
 keep:=fun i h h' st k=>st.at fun o e=>k it (by simp) o e
 item:=by
  intro X hP hw hK hc i pins s σ H E I hf st hg
  subst hP hw hK
  obtain⟨xs,x,hq,hx⟩:=hg
  obtain⟨its,rv,p,hz⟩:=I.tuple hq
  obtain⟨u,hu,ru⟩:=rv.get hx
  obtain⟨f0,f1,f2,f3,f4,f5⟩:=hf it (by simp)
  refine wpAny_pyNext_tuple_item st (show s.heap.IsTuple a its.toArray from p) (x:=u) (by simpa using hu) fun h' st' sb=>?_
  have I1:Inv X pins σ H {s with heap:=h'}:=I.turned (t':=s.toks) (fun b o hb e=>(sb.2 b hb).trans e) f0 f1 f3 f4 f5
  obtain⟨o,e,c,d⟩:=id st'
  exact⟨u,rfl,tX (s:={s with heap:=h'}) e c d (by decide) ⟨x,H,I1,ru,⟨rfl,fun ys hy=>by rw[I.sA hy hq];exact hx⟩,st',fun b hb=>(hf b hb).1⟩⟩
 done:=by
  intro X hP hw hK hc i pins s σ H E I hf st hg
  subst hP hw hK
  obtain⟨xs,hq,hx⟩:=hg
  obtain⟨its,rv,p,hz⟩:=I.tuple hq
  obtain⟨f0,f1,f2,f3,f4,f5⟩:=hf it (by simp)
  have hl:=rv.length
  exact wpAny_pyNext_tuple_end (I.ok.hd hc) st (show s.heap.IsTuple a its.toArray from p) (by simp;omega) fun h' eb=>⟨rfl,I.turned (t':=s.toks) (fun b o hb e=>eb b o hb e) f0 f1 f3 f4 f5⟩
 self:=fun _ _ _ _ _ st h=>wpAny_pyIter_tupleiter st h
theorem xU{P:Program}{w:World}{K:PySem.W.Frag}{tg:Expr}(it:Addr)(lo:Int)(n:Nat):Turn P w K tg (sR lo n) [it] it (fun i h=>IsRangeIter h it (lo+(i:Nat)*1) ((n:Int)-(i:Nat)) 1) where
 mem:=by simp
 obj:=fun i h st b hb=>by
  have e:b=it:=by simpa using hb
  subst e
  exact⟨_,st,fun v z=>by
   have z':Data.fields _=Data.cell v:=z
   cases z'⟩
 keep:=fun i h h' st k=>k it (by simp) _ st
 item:=by
  intro X hP hw hK hc i pins s σ H E I hf st hg
  subst hP hw hK
  obtain⟨f0,f1,f2,f3,f4,f5⟩:=hf it (by simp)
  have W:=Walks.range (prog:=X.prog) (w:=X.w) (I.ok.hd hc) it lo 1 n
  refine W.item i s _ _ hg st fun v h' tk hv st' kk=>?_
  obtain⟨t,rfl⟩:=hv
  have I1:Inv X pins σ H {s with heap:=h',toks:=tk}:=I.turned (fun b o hb e=>kk b o (by simpa using hb) e) f0 f1 f3 f4 f5
  refine⟨_,rfl,tX (s:={s with heap:=h',toks:=tk}) (n:="range_iterator") st' rfl rfl (by decide) ⟨.int (lo+i),H,I1,⟨t,?_⟩,⟨rfl,rfl⟩,st',fun b hb=>(hf b hb).1⟩⟩
  rw[Int.mul_one]
 done:=by
  intro X hP hw hK hc i pins s σ H E I hf st hg
  subst hP hw hK
  obtain⟨f0,f1,f2,f3,f4,f5⟩:=hf it (by simp)
  exact wpAny_pyNext_range_end (I.ok.hd hc) st (by have:n≤i:=hg;omega) fun h' eb=>⟨rfl,I.turned (t':=s.toks) (fun b o hb e=>eb b o hb e) f0 f1 f3 f4 f5⟩
 self:=fun _ _ _ _ _ st h=>wpAny_pyIter_rangeiter st h
end L2
namespace L2
open PySem PySem.Spec PyProof.Rows
section
variable {X:Cx}{tg:Expr}
theorem u0{pins:List (Addr×Obj)}{σ:St}{H:Hp}{s:Shared}{R:It→Hp→Prop}{E:Value→Shared→Prop}{lo hi:Int}{t u v:Tok}{tk:Nat}(I:Inv X pins σ H s)(h1: -(2^62)≤lo)(h2:lo<2^62)(h3: -(2^62)≤hi)(h4:hi<2^62)
 (q:R (sR lo (hi-lo).toNat) H):wpAny (model X.prog X.w) X.A (pyIter (.ref s.heap.objs.size)) (B6 X pins σ tg R) E {s with heap:=s.heap.push {cls:= .type "range",data:= .fields #[.int lo t,.int hi u,.int 1 v]},toks:=tk}:=by
 refine wpAny_pyIter_range (IsRange.new ..) (small_one h1 h2 h3 h4) ?_
 have I1:Inv X pins σ H {s with heap:=s.heap.push {cls:= .type "range",data:= .fields #[.int lo t,.int hi u,.int 1 v]},toks:=tk}:=I.kept fun b o e=>Heap.get?_push_of_some _ e
 refine⟨(s.heap.push {cls:= .type "range",data:= .fields #[.int lo t,.int hi u,.int 1 v]}).objs.size,[(s.heap.push {cls:= .type "range",data:= .fields #[.int lo t,.int hi u,.int 1 v]}).objs.size],_,_,H,rfl,
  I1.kept (t':=tk) fun b o e=>Heap.get?_push_of_some _ e,xU _ lo (hi-lo).toNat,?_,fun b hb=>?_,q⟩
 · have e1:lo+((0:Nat):Int)*1=lo:=by simp
   have e2:(((hi-lo).toNat:Nat):Int)-((0:Nat):Int)=Builtin.Range.rangeSize lo hi 1:=by rw[rangeSize_one];split<;>omega
   show IsRangeIter _ _ (lo+((0:Nat):Int)*1) ((((hi-lo).toNat:Nat):Int)-((0:Nat):Int)) 1
   rw[e1,e2]
   exact Heap.get?_push_size _ rfl
 · have e:b=(s.heap.push {cls:= .type "range",data:= .fields #[.int lo t,.int hi u,.int 1 v]}).objs.size:=by simpa using hb
   subst e
   exact I1.pZ (Nat.le_refl _) (I1.aT.fresh (Nat.le_refl _))
noncomputable def xQ(ta:TA):TI:=fun σ H R=>ta σ H fun vs H1=>∃j:Int,vs=[.int j]∧ -(2^62)≤j∧j<2^62∧R (sR 0 j.toNat) H1
noncomputable def yg(ta:TA):TI:=fun σ H R=>ta σ H fun vs H1=>∃i j:Int,vs=[.int i,.int j]∧(-(2^62)≤i∧i<2^62∧ -(2^62)≤j∧j<2^62)∧R (sR i (j-i).toNat) H1
theorem ze{a:Expr}{ta:TA}{p pos:Pos}(hg:Gl X "range")(hm:X.mg "range"=none)(ha:PA X [a] ta)(hs:starEach [a] X.env=[(false,eval a X.env)]:=by rfl):PI X tg (.Call (.Name "range" p) [a] [] pos) (xQ ta):=by
 intro pins s σ H R I h
 refine Call_ (kM I hg hm boot_range (PyProof.Rows.callWith_type1 (bD (ha pos pins s σ H _ I h) fun us s1 ⟨vs,H1,I1,r1,q1⟩=>?_) hs rfl))
 obtain⟨j,e,q1,q2,q⟩:=q1
 subst e
 cases r1 with
 |cons r rr=>
  cases rr
  obtain⟨t,rfl⟩:=r
  exact call_range_1 (u0 I1 (by omega) (by omega) q1 q2 (by simpa using q))
theorem zk{a b:Expr}{ta:TA}{p pos:Pos}(hg:Gl X "range")(hm:X.mg "range"=none)(ha:PA X [a,b] ta)(hs:starEach [a,b] X.env=[(false,eval a X.env),(false,eval b X.env)]:=by rfl)(hs2:starEach [b] X.env=[(false,eval b X.env)]:=by rfl):
 PI X tg (.Call (.Name "range" p) [a,b] [] pos) (yg ta):=by
 intro pins s σ H R I h
 refine Call_ (kM I hg hm boot_range (PyProof.Rows.callWith_type1 (bD (ha pos pins s σ H _ I h) fun us s1 ⟨vs,H1,I1,r1,q1⟩=>?_) (by rw[hs,hs2]) (by rw[hs2];rfl)))
 obtain⟨i,j,e,⟨q1,q2,q3,q4⟩,q⟩:=q1
 subst e
 cases r1 with
 |cons r rr=>
  cases rr with
  |cons r' rr=>
   cases rr
   obtain⟨t,rfl⟩:=r
   obtain⟨t',rfl⟩:=r'
   exact call_range_2 (u0 I1 q1 q2 q3 q4 q)
noncomputable def FO(wi:TI)(g:TG)(tb:TS):TS:=fun D σ H=>wi σ H fun J H1=>∃W:Nat→Nat→St→Hp→Prop,(∃m,W 0 m σ H1)∧∀i m σ H,W i m σ H→
 (J.stop i H∧D.nx σ H)∨(J.go i H∧∃N:St→Hp→Prop,(∀σ' H',N σ' H'→∃m',m'<m∧W (i+1) m' σ' H')∧∀x H',J.lL i H x H'→g x σ H' fun σ2 H2=>tb {D with nx:=N,ct:=N,bk:=D.nx} σ2 H2)
noncomputable def ny(fp:List Addr)(h:Heap):List (Addr×Obj):=fp.filterMap fun b=>(h.get? b).map fun o=>(b,o)
theorem kg{fp:List Addr}{h:Heap}{b:Addr}{o:Obj}(hb:b∈fp)(e:h.get? b=some o):(b,o)∈ny fp h:=List.mem_filterMap.mpr ⟨b,hb,by rw[e];rfl⟩
theorem zS{fp:List Addr}{h:Heap}{p:Addr×Obj}(hp:p∈ny fp h):p.1∈fp∧h.get? p.1=some p.2:=by
 obtain⟨b,hb,e⟩:=List.mem_filterMap.mp hp
 cases q:h.get? b with
 |none=>rw[q]at e;cases e
 |some o=>
  rw[q]at e
  have e':(b,o)=p:=Option.some.inj e
  subst e'
  exact⟨hb,q⟩
theorem Inv.pinned{pins:List (Addr×Obj)}{σ:St}{H:Hp}{s:Shared}{fp:List Addr}(I:Inv X pins σ H s)(hf:∀b∈fp,jJ X pins H b)(ho:∀b∈fp,∃o,s.heap.get? b=some o∧∀v,o.data≠ .cell v):Inv X (pins++ny fp s.heap) σ H s:=
 I.wk fun p hp=>(List.mem_append.mp hp).elim (fun z=>I.pin p (List.mem_append_right _ z)) fun z=>by
  obtain⟨hb,e⟩:=zS z
  obtain⟨f0,f1,f2,_⟩:=hf p.1 hb
  obtain⟨o,e',d⟩:=ho p.1 hb
  rw[e]at e';cases e'
  exact⟨e,f0,f1,f2,d⟩
theorem Inv.mM{pins pl:List (Addr×Obj)}{σ:St}{H:Hp}{s:Shared}(I:Inv X (pins++pl) σ H s):Inv X pins σ H s:=I.wk fun p hp=>I.pin p (List.mem_append_right _ (List.mem_append_left _ hp))
theorem FG{iter:Expr}{body:List Stmt}{wi:TI}{g:TG}{tb:TS}{pos:Pos}(hp:PassesOwn (model X.prog X.w) X.A X.env X.xe)(hc:X.calm=true)(hi:PI X tg iter wi)(hg:PG X tg g)(hb:gv X body tb)
 (hs:∀x,foldedSetIterable iter X.env x=pure x:=by intro _;rfl):PS X (.For tg iter body [] pos) (FO wi g tb):=by
 intro pins s σ H D I h
 refine wpAny_For (bD (hi pins s σ H _ I h) fun v s1 h1=>bD h1 fun itv s2 h2=>?_) hs
 obtain⟨it,fp,tn,J,H2,e,I2,T,st2,f2,W,⟨m0,w0⟩,turn⟩:=h2
 subst e
 have stat:∀ {H':Hp},(∀b∈fp,H' b=none)→∀b∈fp,jJ X pins H' b:=fun hn b hb=>⟨hn b hb,(f2 b hb).2⟩
 refine codeAny_forLoop_any (fun n s'=>∃i σ' H',Inv X pins σ' H' s'∧tn i s'.heap∧(∀b∈fp,H' b=none)∧W i n σ' H') ?_ m0 ⟨0,σ,H2,I2,st2,fun b hb=>(f2 b hb).1,w0⟩
 rintro n s3 ⟨i,σ3,H3,I3,st3,fr3,w3⟩
 rcases turn i n σ3 H3 w3 with⟨stop,qn⟩|⟨go,N,hN,step⟩
 · refine wpAny_passesOwn hp (bD (T.done X rfl rfl rfl hc i pins s3 σ3 H3 X.xe I3 (stat fr3) st3 stop) fun r s4 ⟨hr,I4⟩=>?_)
   subst hr
   exact wpAny_execs_nil ⟨σ3,H3,I4,qn⟩
 · refine wpAny_passesOwn hp (bD (T.item X rfl rfl rfl hc i pins s3 σ3 H3 X.xe I3 (stat fr3) st3 go) fun r s4 ⟨u,hr,h4⟩=>?_)
   subst hr
   refine wpAny_passesOwn hp (bD h4 fun _ s5 ⟨x,H5,I5,r5,y5,st5,fr5⟩=>?_)
   have I5':=I5.pinned (stat fr5) (T.obj _ _ st5)
   refine wpAny_passesOwn hp (bD (hg _ s5 σ3 H5 x u _ I5' r5 (step x H5 y5)) fun _ s6 ⟨σ6,H6,I6,q6⟩=>?_)
   refine wpAny_passesOwn hp (bD (hb _ s6 σ6 H6 _ I6 q6) fun f s7 q7=>?_)
   have again:∀ {σ7:St} {H7:Hp},Inv X (pins++ny fp s5.heap) σ7 H7 s7→N σ7 H7→∃m,m<n∧∃i σ' H',Inv X pins σ' H' s7∧tn i s7.heap∧(∀b∈fp,H' b=none)∧W i m σ' H':=fun{σ7 H7} I7 n7=>by
    obtain⟨m',hm,w7⟩:=hN σ7 H7 n7
    refine⟨m',hm,i+1,σ7,H7,I7.mM,T.keep _ _ _ st5 fun b hb o e=>(I7.pin (b,o) (List.mem_append_right _ (List.mem_append_right _ (kg hb e)))).1,fun b hb=>?_,w7⟩
    obtain⟨o,e,d⟩:=T.obj _ _ st5 b hb
    exact(I7.pin (b,o) (List.mem_append_right _ (List.mem_append_right _ (kg hb e)))).2.1
   cases f with
   |next=>obtain⟨σ7,H7,I7,n7⟩:=q7;exact again I7 n7
   |cont=>obtain⟨σ7,H7,I7,n7⟩:=q7;exact again I7 n7
   |brk=>obtain⟨σ7,H7,I7,q7⟩:=q7;exact⟨σ7,H7,I7.mM,q7⟩
   |ret v=>obtain⟨x7,σ7,H7,I7,r7,q7⟩:=q7;exact⟨x7,σ7,H7,I7.mM,r7,q7⟩
end
theorem hJ{lo:Int}{n:Nat}{g:TG}{tb:TS}{D:Ends}{σ:St}{H:Hp}(Pv:Nat→St→Hp→Prop)(h0:Pv 0 σ H)
 (hs:∀i σ H,i<n→Pv i σ H→g (.int (lo+i)) σ H fun σ2 H2=>tb {D with nx:=Pv (i+1),ct:=Pv (i+1),bk:=D.nx} σ2 H2) (hd:∀σ H,Pv n σ H→D.nx σ H):
 ∃W:Nat→Nat→St→Hp→Prop,(∃m,W 0 m σ H)∧∀i m σ H,W i m σ H→
  ((sR lo n).stop i H∧D.nx σ H)∨((sR lo n).go i H∧∃N:St→Hp→Prop,(∀σ' H',N σ' H'→∃m',m'<m∧W (i+1) m' σ' H')∧∀x H',(sR lo n).lL i H x H'→g x σ H' fun σ2 H2=>tb {D with nx:=N,ct:=N,bk:=D.nx} σ2 H2):=by
 refine⟨fun i m σ H=>m=n-i∧i≤n∧Pv i σ H,⟨n,by simp,Nat.zero_le _,h0⟩,?_⟩
 rintro i m σ H ⟨rfl,hi,p⟩
 by_cases hlt:i<n
 · refine .inr ⟨hlt,Pv (i+1),fun σ' H' p'=>⟨n-(i+1),by omega,rfl,hlt,p'⟩,fun x H' y=>?_⟩
   obtain⟨e,y⟩:=y
   subst e y
   exact hs i σ _ hlt p
 · have e:i=n:=by omega
   subst e
   exact .inl ⟨Nat.le_refl _,hd σ H p⟩
end L2
namespace L2
open PySem PySem.Spec PyProof.Rows
noncomputable abbrev R2:=V→V→Hp→VK→Prop
noncomputable def bR(X:Cx)(f:Value→Value→Sem Value)(r:R2):Prop:=
 ∀(pins:List (Addr×Obj)) (s:Shared) (σ:St) (H:Hp) (x y:V) (v u:Value) (Q:VK),Inv X pins σ H s→RelV x v→RelV y u→r x y H Q→
  wpAny (model X.prog X.w) X.A (f v u) (EP X pins σ Q) X.xe s
noncomputable def vW(X:Cx)(f:Value→Sem Value)(r:V→Hp→VK→Prop):Prop:=
 ∀(pins:List (Addr×Obj)) (s:Shared) (σ:St) (H:Hp) (x:V) (v:Value) (Q:VK),Inv X pins σ H s→RelV x v→r x H Q→
  wpAny (model X.prog X.w) X.A (f v) (EP X pins σ Q) X.xe s
noncomputable def cn(X:Cx)(f:Value)(r:List V→Hp→VK→Prop):Prop:=
 ∀(pins:List (Addr×Obj)) (s:Shared) (σ:St) (H:Hp) (xs:List V) (us:List Value) (Q:VK),Inv X pins σ H s→Vals xs us→r xs H Q→
  wpAny (model X.prog X.w) X.A (call f us) (EP X pins σ Q) X.xe s
noncomputable def zx(r:R2)(ta tb:TE):TE:=fun σ H Q=>ta σ H fun x H1=>tb σ H1 fun y H2=>r x y H2 Q
noncomputable def Ja(r:V→Hp→VK→Prop)(ta:TE):TE:=fun σ H Q=>ta σ H fun x H1=>r x H1 Q
noncomputable def rI(C:Int→Int→Prop)(g:Int→Int→V):R2:=fun x y H Q=>∃i j,x= .int i∧y= .int j∧C i j∧Q (g i j) H
noncomputable def qT(g:Int→Int→V):R2:=fun x y H Q=>∃i j,x= .int i∧y= .int j∧Q (g i j) H
noncomputable def rU(g:Int→V):V→Hp→VK→Prop:=fun x H Q=>∃i,x= .int i∧Q (g i) H
section
variable {X:Cx}{a b c:Expr}{ta tb tc:TE}{pos:Pos}
theorem AN(ha:PE X a ta)(hb:PE X b tb){pins:List (Addr×Obj)}{s:Shared}{σ:St}{H:Hp}{R:V→V→Hp→Prop}(I:Inv X pins σ H s)
 (h:ta σ H fun x H1=>tb σ H1 fun y H2=>R x y H2) {Q:Value→Shared→Prop} {f:Value→Value→Sem Value}
 (hf:∀v u s2 x y H2,Inv X pins σ H2 s2→RelV x v→RelV y u→R x y H2→wpAny (model X.prog X.w) X.A (f v u) Q X.xe s2):
 wpAny (model X.prog X.w) X.A (eval a X.env) (fun v s₁=>wpAny (model X.prog X.w) X.A (eval b X.env) (fun u s₂=>wpAny (model X.prog X.w) X.A (f v u) Q X.xe s₂) X.xe s₁) X.xe s:=by
 refine bD (ha pins s σ H _ I h) fun v s1 ⟨x,H1,I1,r1,q1⟩=>?_
 refine bD (hb pins s1 σ H1 _ I1 q1) fun u s2 ⟨y,H2,I2,r2,q2⟩=>?_
 exact hf v u s2 x y H2 I2 r1 r2 q2
theorem HJ{op:Operator}{r:R2}(ho:bR X (binaryOp op) r)(ha:PE X a ta)(hb:PE X b tb):PE X (.BinOp a op b pos) (zx r ta tb):=by
 intro pins s σ H Q I h
 exact wpAny_BinOp (AN ha hb I h fun v u s2 x y H2 I2 rx ry q=>ho pins s2 σ H2 x y v u Q I2 rx ry q)
theorem Il{op:UnaryOp}{r:V→Hp→VK→Prop}(ho:vW X (unaryOp op) r)(ha:PE X a ta):PE X (.UnaryOp op a pos) (Ja r ta):=by
 intro pins s σ H Q I h
 exact UnaryOp_ (bD (ha pins s σ H _ I h) fun v s1 ⟨x,H1,I1,r1,q1⟩=>ho pins s1 σ H1 x v Q I1 r1 q1)
theorem wV{f:Value→Value→Sem Value}{C:Int→Int→Prop}{g:Int→Int→Int}
 (rule:∀(i j:Int) (t u:Tok) (s:Shared) (Q:Value→Shared→Prop) (E:Value→Shared→Prop),C i j→Q (.int (g i j) s.toks) {s with toks:=s.toks+1}→wpAny (model X.prog X.w) X.A (f (.int i t) (.int j u)) Q E s):
 bR X f (rI C fun i j=> .int (g i j)):=by
 intro pins s σ H x y v u Q I rx ry h
 obtain⟨i,j,rfl,rfl,hc,q⟩:=h
 obtain⟨t,rfl⟩:=rx
 obtain⟨t',rfl⟩:=ry
 exact rule i j t t' s _ _ hc ⟨.int (g i j),H,I.tok _,⟨_,rfl⟩,q⟩
theorem E9{f:Value→Value→Sem Value}{g:Int→Int→Int}
 (rule:∀(i j:Int) (t u:Tok) (s:Shared) (Q:Value→Shared→Prop) (E:Value→Shared→Prop),Q (.int (g i j) s.toks) {s with toks:=s.toks+1}→wpAny (model X.prog X.w) X.A (f (.int i t) (.int j u)) Q E s):
 bR X f (qT fun i j=> .int (g i j)):=by
 intro pins s σ H x y v u Q I rx ry h
 obtain⟨i,j,rfl,rfl,q⟩:=h
 obtain⟨t,rfl⟩:=rx
 obtain⟨t',rfl⟩:=ry
 exact rule i j t t' s _ _ ⟨.int (g i j),H,I.tok _,⟨_,rfl⟩,q⟩
theorem xH{f:Value→Value→Sem Value}{g:Int→Int→Bool}
 (rule:∀(i j:Int) (t u:Tok) (s:Shared) (Q:Value→Shared→Prop) (E:Value→Shared→Prop),Q (.bool (g i j)) s→wpAny (model X.prog X.w) X.A (f (.int i t) (.int j u)) Q E s):
 bR X f (qT fun i j=> .bl (g i j)):=by
 intro pins s σ H x y v u Q I rx ry h
 obtain⟨i,j,rfl,rfl,q⟩:=h
 obtain⟨t,rfl⟩:=rx
 obtain⟨t',rfl⟩:=ry
 exact rule i j t t' s _ _ ⟨.bl (g i j),H,I,rfl,q⟩
noncomputable def Aw(i j:Int):Prop:=0≤j∧j≤1000000∧i.natAbs<2^64
theorem Eo:bR X (binaryOp .Add) (qT fun i j=> .int (i+j)):=E9 fun _ _ _ _ _ _ _ q=>add_int q
theorem GO:bR X (binaryOp .Sub) (qT fun i j=> .int (i-j)):=E9 fun _ _ _ _ _ _ _ q=>sub_int q
theorem DJ:bR X (binaryOp .Mod) (rI (fun _ j=>j≠0) fun i j=> .int (i.fmod j)):=wV fun _ _ _ _ _ _ _ hc q=>mod_int' hc q
theorem FV:bR X (binaryOp .Pow) (rI Aw fun i j=> .int (i^j.toNat)):=wV fun _ _ _ _ _ _ _ hc q=>pow_int_small hc.1 hc.2.1 hc.2.2 q
theorem Kf{f:Value→Sem Value}{g:Int→Int}
 (rule:∀(i:Int) (t:Tok) (s:Shared) (Q:Value→Shared→Prop) (E:Value→Shared→Prop),Q (.int (g i) s.toks) {s with toks:=s.toks+1}→wpAny (model X.prog X.w) X.A (f (.int i t)) Q E s):
 vW X f (rU fun i=> .int (g i)):=by
 intro pins s σ H x v Q I rx h
 obtain⟨i,rfl,q⟩:=h
 obtain⟨t,rfl⟩:=rx
 exact rule i t s _ _ ⟨.int (g i),H,I.tok _,⟨_,rfl⟩,q⟩
theorem EY:vW X (unaryOp .USub) (rU fun i=> .int (-i)):=Kf fun _ _ _ _ _ q=>neg_int q
end
section
variable {X:Cx}{a b c:Expr}{ta tb tc:TE}{pos:Pos}
theorem Fg{pins:List (Addr×Obj)}{σ:St}{H:Hp}{s:Shared}{Q:VK}{k k':Bool}(I:Inv X pins σ H s)(q:Q (.bl k) H)(e:k=k'):EP X pins σ Q (.bool k') s:=by
 subst e
 exact⟨.bl k,H,I,rfl,q⟩
theorem Iy:bR X (compareOp .Lt) (qT fun i j=> .bl (decide (i<j))):=xH fun _ _ _ _ _ _ _ q=>lt_int q
theorem GU:bR X (compareOp .LtE) (qT fun i j=> .bl (decide (i≤j))):=xH fun _ _ _ _ _ _ _ q=>le_int q
theorem GS:bR X (compareOp .Gt) (qT fun i j=> .bl (decide (j<i))):=xH fun _ _ _ _ _ _ _ q=>gt_int q
theorem Hx:bR X (compareOp .GtE) (qT fun i j=> .bl (decide (j≤i))):=xH fun _ _ _ _ _ _ _ q=>ge_int q
theorem Fs:bR X (compareOp .Is) (fun x y H Q=>y= .aP∧Q (.bl (decide (x= .aP))) H):=by
 intro pins s σ H x y v u Q I rx ry h
 obtain⟨rfl,q⟩:=h
 cases ry
 refine is_none_gen (Fg I q ?_)
 cases x<;>first
  |(cases rx;rfl)
  |(obtain⟨t,rfl⟩:=rx;rfl)
theorem cW(b:Expr){op:CmpOp}(h:op≠ .In:=by decide)(h2:op≠ .NotIn:=by decide):behindInMarks op b=false:=by
 have e1:(op==CmpOp.In)=false:=by cases op<;>first|rfl|exact absurd rfl h
 have e2:(op==CmpOp.NotIn)=false:=by cases op<;>first|rfl|exact absurd rfl h2
 cases b<;>simp[behindInMarks,e1,e2]
theorem CK{op:CmpOp}{r:R2}(ho:bR X (compareOp op) r)(ha:PE X a ta)(hb:PE X b tb)(hm:behindInMarks op b=false):PE X (.Compare a [op] [b] pos) (zx r ta tb):=by
 intro pins s σ H Q I h
 exact wpAny_Compare1 (AN ha hb I h fun v u s2 x y H2 I2 rx ry q=>ho pins s2 σ H2 x y v u Q I2 rx ry q) hm
noncomputable def HK(t:TE):TT:=fun σ H Q=>t σ H fun x H'=>∃k,x= .bl k∧Q k H'
theorem DX{op:CmpOp}{r:R2}(ho:bR X (compareOp op) r)(ha:PE X a ta)(hb:PE X b tb)(hm:behindInMarks op b=false):PT X (.Compare a [op] [b] pos) (HK (zx r ta tb)):=by
 intro pins s σ H Q I h
 refine wpAny_isTrue_Compare1 (bD (ha pins s σ H _ I h) fun v s1 ⟨x,H1,I1,r1,q1⟩=>bD (hb pins s1 σ H1 _ I1 q1) fun u s2 ⟨y,H2,I2,r2,q2⟩=>
  bD (ho pins s2 σ H2 x y v u _ I2 r1 r2 q2) fun c s3 ⟨z,H3,I3,r3,k,e,q3⟩=>?_) hm
 subst e
 cases r3
 exact wpAny_truthy_bool ⟨H3,I3,q3⟩
theorem mx:(sizeLine:Nat)<2^63:=by rw[sizeLine_eq];decide
theorem xM:bR X (binaryOp .Add) (fun x y H Q=>∃i j,x= .str i∧y= .str j∧i.length+j.length≤sizeLine∧Q (.str (i++j)) H):=by
 intro pins s σ H x y v u Q I rx ry h
 obtain⟨i,j,rfl,rfl,hz,q⟩:=h
 obtain⟨t,rfl⟩:=rx
 obtain⟨t',rfl⟩:=ry
 exact add_str (fun t' tk=>⟨.str (i++j),H,I.tok _,⟨_,rfl⟩,q⟩) hz
theorem vals1{x:V}{us:List Value}(r:Vals [x] us):∃u,us=[u]∧RelV x u:=by
 cases r with
 |cons r1 r2=>cases r2;exact⟨_,rfl,r1⟩
theorem vals2{x y:V}{us:List Value}(r:Vals [x,y] us):∃u w',us=[u,w']∧RelV x u∧RelV y w':=by
 cases r with
 |cons r1 r2=>
  cases r2 with
  |cons r3 r4=>cases r4;exact⟨_,_,rfl,r1,r3⟩
theorem AI:cn X (.builtin "abs") (fun xs H Q=>∃i,xs=[.int i]∧Q (.int (if i<0 then-i else i)) H):=by
 intro pins s σ H xs us Q I r h
 obtain⟨i,rfl,q⟩:=h
 obtain⟨u,rfl,t,rfl⟩:=vals1 r
 exact call_abs_int fun u tk=>⟨.int (if i<0 then-i else i),H,I.tok _,⟨_,rfl⟩,q⟩
theorem zZ(hc:X.calm=true):cn X (.builtin "max") (fun xs H Q=>∃i j,xs=[.int i,.int j]∧Q (.int (if j>i then j else i)) H):=by
 intro pins s σ H xs us Q I r h
 obtain⟨i,j,rfl,q⟩:=h
 obtain⟨u,w',rfl,⟨t,rfl⟩,⟨t',rfl⟩⟩:=vals2 r
 refine max_two_ints (I.ok.hd hc) fun h' tk k=>⟨_,H,I.kept k,?_,q⟩
 by_cases hj:j>i
 · rw[if_pos hj,if_pos hj];exact⟨_,rfl⟩
 · rw[if_neg hj,if_neg hj];exact⟨_,rfl⟩
end
end L2
namespace L2
open PySem PySem.Spec PyProof.Rows
structure p7(h:Heap)(x dx C:Addr)(mA:Str→Option Value):Prop where
 obj:h.get? x=some (PySem.W.instObj C dx)
 ns:h.Ns1 dx mA
 ne:dx≠x
theorem y6{h:Heap}{dx:Addr}{mA:Str→Option Value}(n:h.Ns1 dx mA):∃od,h.get? dx=some od∧∀name,PySem.W.lookIn name od=some (mA name):=by
 obtain⟨o,es,ep,ho,hd,hk,_,hm⟩:=n
 refine⟨o,ho,fun name=>?_⟩
 have e:=hm name
 unfold nsFind findBy at e
 rw[←Array.find?_toList]at e
 unfold PySem.W.lookIn
 rw[hd]
 dsimp only
 split
 · rename_i y q
   rw[q]at e
   exact congrArg some e
 · rename_i q
   rw[q]at e
   have a:es.toList.any (·.refKey)=false:=by
    rw[List.any_eq_false]
    intro y hy
    obtain⟨z,t,hkey⟩:=hk y (Array.mem_toList_iff.mp hy)
    simp[DictEntry.refKey,hkey]
   have a':¬es.toList.any (·.refKey)=true:=by rw[a];exact Bool.false_ne_true
   rw[if_neg a']
   exact congrArg some e
theorem p7.look{h:Heap}{x dx C:Addr}{mA:Str→Option Value}(I:p7 h x dx C mA):∃od,PySem.W.InstAt h x (PySem.W.instObj C dx) C (some od)∧∀name,PySem.W.lookIn name od=some (mA name):=
 let⟨od,ho,hl⟩:=y6 I.ns
 ⟨od,⟨I.obj,rfl,rfl,ho⟩,hl⟩
section
variable {prog:Program}{w:World}{A:Around}{E:Value→Shared→Prop}{s:Shared}{K:PySem.W.Frag}{x dx C f:Addr}{mA:Str→Option Value}{name:Str}{v:Value}
theorem get_map{expr:Bool}{Q:Value→Shared→Prop}(X:K.In s.heap)(I:p7 s.heap x dx C mA)(hg:PySem.W.plainGet K C name=true)(hh:PySem.W.hasDictIn K C=true)
 (ha:PySem.W.findIn K (.ref C) name=some none) (hv:mA name=some v) (hv':PySem.W.handedIn v=true) (h:Q v {s with toks:=s.toks+1}):
 wpAny (model prog w) A (getAttr (.ref x) name expr) Q E s:=by
 obtain⟨od,J,hl⟩:=I.look
 exact PySem.W.get_value X J (PySem.W.plainGet_of hg).1 (PySem.W.findObj_own hh ha rfl (by rw[hl,hv])) hv' h
theorem Ar{pl:Sem Bool}{Q:Value×List Value→Shared→Prop}(X:K.In s.heap)(I:p7 s.heap x dx C mA)(hg:PySem.W.plainGet K C name=true)
 (hf:PySem.W.findIn K (.ref C) name=some (some (.ref f))) (ht:PySem.W.isFn K (.ref f)=true) (hv:mA name=none) (h:Q (.ref f,[.ref x]) s):
 wpAny (model prog w) A (getMethod (.ref x) name pl) Q E s:=by
 obtain⟨od,J,hl⟩:=I.look
 exact PySem.W.method_fn X J (PySem.W.plainGet_of hg).1 (PySem.W.plainGet_of hg).2 hf (beq_iff_eq.mp ht) (by show(PySem.W.lookIn name od).map (·.isSome)=some false;rw[hl,hv];rfl) h
theorem jK{ns:List Str}{Q:Unit→Shared→Prop}(X:K.In s.heap)(I:p7 s.heap x dx C mA)
 (hs:PySem.W.findIn K (.ref C) "__setattr__"=some (some (.builtin "object.__setattr__"))) (hp:PySem.W.plainOver K C=true) (ht:PySem.W.takerIn K C name=some none) (hh:PySem.W.hasDictIn K C=true)
 (hw:PySem.Within mA ns) (hsz:ns.length≤sizeLine)
 (h:∀h',p7 h' x dx C (fun y=>if y=name then some v else mA y)→Heap.SameBut dx s.heap h'→Q () {s with heap:=h',toks:=s.toks+2}):
 wpAny (model prog w) A (setAttr (.ref x) name v) Q E s:=by
 obtain⟨od,J,hl⟩:=I.look
 refine PySem.W.set_plain X J hs (PySem.W.osa_open (s:={s with toks:=s.toks+1}) (r:=none) X J hp ht fun b=>?_)
 obtain⟨cd,hc,hd'⟩:=PySem.W.any_some hh
 have hx:s.heap.get? x=some ⟨.ref C,some dx,.plain,#[]⟩:=I.obj
 refine wpAny_bind (wpAny_pure (wpAny_bind (wpAny_bind (wpAny_loadPart hx (wpAny_bind (PySem.W.Looks.here (s:={s with toks:=s.toks+1}) (PySem.W.looks_clsIn X hc) ?_))))))
 rw[hd']
 refine wpAny_pure (a:=some dx) (wpAny_bind (wpAny_pure (wpAny_bind ?_)))
 refine wpAny_nsSet1 (s:={s with toks:=s.toks+1}) I.ns fun h' hn2 hs2=>?_
 obtain⟨oD,esD,epD,hoD,hdD,hcD⟩:=hn2.count (PySem.Within.cons name v hw)
 refine wpAny_bind (wpAny_lookBehind hoD (by rw[hdD];exact pastItsLine_dict (Nat.le_trans hcD (by rw[List.length_cons];omega))) ?_)
 exact wpAny_pure (h _ ⟨(hs2.2 _ (Ne.symm I.ne)).trans I.obj,hn2,I.ne⟩ hs2)
theorem AV{R:Result→Shared→Prop}{vs:List Value}{kw:List (Str×Value)}(X:K.In s.heap)(hm:PySem.W.makesIn K C=true)
 (hi:PySem.W.findIn K (.ref C) "__init__"=some (some (.ref f))) (hf:PySem.W.typeIn K (.ref f)=some (.type "function"))
 (h:codeAny (model prog w) (A.under (.builtin "type.__call__" ⟨.ref C::vs,kw⟩)) (.call (.ref f) ⟨.ref (s.heap.objs.size+1)::vs,kw⟩) (PySem.W.InitBack (s.heap.objs.size+1) R)
   {s with heap:=(s.heap.push PySem.W.emptyDict).push (PySem.W.instObj C s.heap.objs.size)}):
 codeAny (model prog w) A (.call (.ref C) ⟨vs,kw⟩) R s:=by
 obtain⟨hh,g,d,t,os⟩:=s
 exact PySem.W.make_core (PySem.W.makes_of X hm) (PySem.W.looks_findIn X hi) (fun self=>PySem.W.bind_fn X self hf) (.inl rfl) h
end
noncomputable def gu(f:Str)(v:V):List (Str×V)→List (Str×V)
 | []=>[(f,v)]
 |(g,x)::r=>if g=f then(g,v)::r else(g,x)::gu f v r
theorem pD(f g:Str)(v:V):∀fs:List (Str×V),(gu f v fs).lookup g=if g=f then some v else fs.lookup g
 | []=>by
   show List.lookup g [(f,v)]=_
   by_cases h:g=f
   · have hb:(g==f)=true:=beq_iff_eq.mpr h
     simp only[List.lookup,hb,if_pos h]
   · have hb:(g==f)=false:=beq_eq_false_iff_ne.mpr h
     simp only[List.lookup,hb,if_neg h]
 |(k,x)::r=>by
  have ih:=pD f g v r
  rw[show gu f v ((k,x)::r)=(if k=f then(k,v)::r else(k,x)::gu f v r)from rfl]
  by_cases hk:k=f
  · rw[if_pos hk]
    by_cases h:g=k
    · have hb:(g==k)=true:=beq_iff_eq.mpr h
      simp only[List.lookup,hb,if_pos (h.trans hk)]
    · have hb:(g==k)=false:=beq_eq_false_iff_ne.mpr h
      simp only[List.lookup,hb,if_neg (fun e:g=f=>h (e.trans hk.symm))]
  · rw[if_neg hk]
    by_cases h:g=k
    · have hb:(g==k)=true:=beq_iff_eq.mpr h
      simp only[List.lookup,hb,if_neg (fun e:g=f=>hk (h.symm.trans e))]
    · have hb:(g==k)=false:=beq_eq_false_iff_ne.mpr h
      simp only[List.lookup,hb]
      exact ih
theorem nA(f:Str)(v:V):∀fs:List (Str×V),f∈(gu f v fs).map (·.1)∧∀g,g∈fs.map (·.1)→g∈(gu f v fs).map (·.1)
 | []=>⟨by simp[gu],fun g h=>by simp at h⟩
 |(k,x)::r=>by
  obtain⟨i1,i2⟩:=nA f v r
  rw[show gu f v ((k,x)::r)=(if k=f then(k,v)::r else(k,x)::gu f v r)from rfl]
  by_cases hk:k=f
  · rw[if_pos hk]
    subst hk
    exact⟨by simp,fun g h=>by simpa using h⟩
  · rw[if_neg hk]
    refine⟨?_,fun g h=>?_⟩
    · rw[List.map_cons]
      exact List.mem_cons_of_mem _ i1
    · rw[List.map_cons]at h⊢
      rcases List.mem_cons.mp h with e|e
      · exact List.mem_cons.mpr (.inl e)
      · exact List.mem_cons_of_mem _ (i2 g e)
theorem pE(f:Str)(v:V):∀fs:List (Str×V),(gu f v fs).length≤fs.length+1
 | []=>by simp[gu]
 |(k,x)::r=>by
  have ih:=pE f v r
  rw[show gu f v ((k,x)::r)=(if k=f then(k,v)::r else(k,x)::gu f v r)from rfl]
  by_cases hk:k=f
  · rw[if_pos hk,List.length_cons,List.length_cons];omega
  · rw[if_neg hk,List.length_cons,List.length_cons];omega
theorem lV.some_of{v:V}{o:Option Value}(r:lV (some v) o):∃u,o=some u∧RelV v u:=by
 cases o with
 |none=>exact(show False from r).elim
 |some u=>exact⟨u,rfl,r⟩
theorem lV.none_of{o:Option Value}(r:lV none o):o=none:=by
 cases o with
 |none=>rfl
 |some u=>exact(show False from r).elim
theorem zX{v:V}{u:Value}(r:RelV v u):PySem.W.handedIn u=true:=by
 cases v with
 |aP=>cases (show u=Value.none from r);rfl
 |bl b=>cases (show u=Value.bool b from r);rfl
 |int i=>obtain⟨t,e⟩:=(show∃t,u=Value.int i t from r);cases e;rfl
 |str x=>obtain⟨t,e⟩:=(show∃t,u=Value.str x t from r);cases e;rfl
 |BJ b=>obtain⟨t,e⟩:=(show∃t,u=Value.bytes b t from r);cases e;rfl
 |Cn b=>obtain⟨t,e⟩:=(show∃t,u=Value.float b t from r);cases e;rfl
 |ref a=>cases (show u=Value.ref a from r);rfl
 |ty n=>cases (show u=Value.type n from r);rfl
section
variable {P:Program}{w:World}{H H':Hp}{h h':Heap}{a C dx:Addr}{fs fs':List (Str×V)}
theorem sq(aT:gN P w H h)(e:H a=some (.ins C dx fs)):∃mA,p7 h a dx C mA∧(∀f,lV (fs.lookup f) (mA f))∧PySem.Within mA (fs.map (·.1))∧fs.length≤1000∧H dx=some (.own a):=by
 obtain⟨d,z,ne,ob,mA,n,r,q⟩:=(show gi P w H h a (.ins C dx fs)from aT a _ e)
 exact⟨mA,⟨ob,n,ne⟩,r,q,z,d⟩
end
structure kf(K:PySem.W.Frag)(C:Addr):Prop where
 pg:PySem.W.plainGet K C Str.empty=true
 hd:PySem.W.hasDictIn K C=true
 po:PySem.W.plainOver K C=true
 sa:PySem.W.findIn K (.ref C) "__setattr__"=some (some (.builtin "object.__setattr__"))
theorem kf.get{K:PySem.W.Frag}{C:Addr}(c:kf K C)(f:Str):PySem.W.plainGet K C f=true:=c.pg
noncomputable def fy(K:PySem.W.Frag)(C:Addr)(f:Str):Prop:=PySem.W.findIn K (.ref C) f=some none
theorem fy.Io{K:PySem.W.Frag}{C:Addr}{f:Str}(n:fy K C f):PySem.W.takerIn K C f=some none:=by
 unfold PySem.W.takerIn
 rw[show PySem.W.findIn K (.ref C) f=some none from n]
 rfl
structure Meth(K:PySem.W.Frag)(C:Addr)(m:Str)(f:Addr):Prop where
 at_:PySem.W.findIn K (.ref C) m=some (some (.ref f))
 fn:PySem.W.isFn K (.ref f)=true
 kp:PySem.W.keepIn K (.ref f)=true
section
variable {X:Cx}{pins:List (Addr×Obj)}{σ:St}{H:Hp}{s:Shared}{a C dx:Addr}{fs:List (Str×V)}{f:Str}{v:V}{A:Around}{E:Value→Shared→Prop}
theorem xF{b:Bool}{Q:Value→Shared→Prop}(I:Inv X pins σ H s)(e:H a=some (.ins C dx fs))(c:kf X.K C)(n:fy X.K C f)(l:fs.lookup f=some v)
 (h:∀u s',Inv X pins σ H s'→RelV v u→Q u s'):wpAny (model X.prog X.w) A (getAttr (.ref a) f b) Q E s:=by
 obtain⟨mA,O,r,_,_,_⟩:=sq I.aT e
 obtain⟨u,hu,ru⟩:=lV.some_of (v:=v) (o:=mA f) (by rw[←l];exact r f)
 exact get_map I.lE O (c.get f) c.hd n hu (zX ru) (h u _ (I.tok _) ru)
theorem qX{m:Str}{g:Addr}{pl:Sem Bool}{Q:Value×List Value→Shared→Prop}(I:Inv X pins σ H s)(e:H a=some (.ins C dx fs))(c:kf X.K C)(k:Meth X.K C m g)(l:fs.lookup m=none)
 (h:Q (.ref g,[.ref a]) s):wpAny (model X.prog X.w) A (getMethod (.ref a) m pl) Q E s:=by
 obtain⟨mA,O,r,_,_,_⟩:=sq I.aT e
 have hn:mA m=none:=lV.none_of (by rw[←l];exact r m)
 exact Ar I.lE O (c.get m) k.at_ k.fn hn h
theorem xq{y:V}{u:Value}{Q:Unit→Shared→Prop}(I:Inv X pins σ H s)(e:H a=some (.ins C dx fs))(c:kf X.K C)(n:fy X.K C f)(hl:fs.length<1000)(ry:RelV y u)
 (h:∀s',Inv X pins σ (upd H a (.ins C dx (gu f y fs))) s'→Q () s'):wpAny (model X.prog X.w) A (setAttr (.ref a) f u) Q E s:=by
 obtain⟨mA,O,r,wi,_,ho⟩:=sq I.aT e
 have hz:(fs.map (·.1)).length≤sizeLine:=by rw[List.length_map,sizeLine_eq];omega
 refine jK I.lE O c.sa c.po n.Io c.hd wi hz fun h' O' sb=>h _ ?_
 have hd:∃o,h'.get? dx=some o:=let⟨o,_,_,e',_⟩:=O'.ns;⟨o,e'⟩
 refine I.write (x:=a) (e:=dx) (by rw[e];exact True.intro) (.inr ho) (fun b q hb z=>(sb.2 b hb).trans z) hd ?_
 refine⟨by rw[aC O.ne];exact ho,?_,O.ne,O'.obj,_,O'.ns,fun g=>?_,fun g hg=>?_⟩
 · have:=pE f y fs;omega
 · show lV ((gu f y fs).lookup g) (if g=f then some u else mA g)
   rw[pD]
   by_cases q:g=f
   · rw[if_pos q,if_pos q];exact ry
   · rw[if_neg q,if_neg q];exact r g
 · by_cases q:g=f
   · rw[q];exact(nA f y fs).1
   · refine(nA f y fs).2 g (wi g fun z=>hg ?_)
     show(if g=f then some u else mA g)=none
     rw[if_neg q];exact z
theorem Inv.made(I:Inv X pins σ H s):Inv X pins σ (upd (upd H s.heap.objs.size (.own (s.heap.objs.size+1))) (s.heap.objs.size+1) (.ins C s.heap.objs.size []))
 {s with heap:=(s.heap.push PySem.W.emptyDict).push (PySem.W.instObj C s.heap.objs.size)}:=by
 have e1:(s.heap.push PySem.W.emptyDict).get? s.heap.objs.size=some PySem.W.emptyDict:=Heap.get?_push_size s.heap rfl
 have e2:((s.heap.push PySem.W.emptyDict).push (PySem.W.instObj C s.heap.objs.size)).get? (s.heap.objs.size+1)=some (PySem.W.instObj C s.heap.objs.size):=by
  have:=Heap.get?_push_size (s.heap.push PySem.W.emptyDict) (o:=PySem.W.instObj C s.heap.objs.size) rfl
  rwa [Heap.size_push]at this
 have e3:(s.heap.push PySem.W.emptyDict).Ns s.heap.objs.size (fun _=>none):=⟨PySem.W.emptyDict,#[],_,e1,rfl,(fun e he=>absurd he (by simp)),fun _=>rfl⟩
 have I1:=I.laid (a:=s.heap.objs.size) (o:= .own (s.heap.objs.size+1)) (h':=s.heap.push PySem.W.emptyDict) (t':=s.toks) (fun b u q=>Heap.get?_push_of_some _ q) (Nat.le_refl _) ⟨_,e1⟩
 refine I1.laid (a:=s.heap.objs.size+1) (o:= .ins C s.heap.objs.size []) (t':=s.toks) (fun b u q=>Heap.get?_push_of_some _ q) (Nat.le_of_eq (Heap.size_push _ _)) ?_
 have ne:s.heap.objs.size≠s.heap.objs.size+1:=Nat.ne_of_lt (Nat.lt_succ_self _)
 refine⟨by rw[aC ne,br],Nat.zero_le _,ne,e2,fun _=>none,(Heap.Ns1.of_empty e3).at fun o q=>Heap.get?_push_of_some _ q,fun _=>True.intro,fun y hy=>absurd rfl hy⟩
theorem CY{prog:Program}{w:World}{env:Env}{e:Expr}{f:Str}{pos:Pos}{s:Shared}{Q:Value→Shared→Prop}(hb:attributeBase e f env (eval e env)=eval e env)
 (h:wpAny (model prog w) A (eval e env) (fun o s₁=>wpAny (model prog w) A (getAttr o f true) Q E s₁) E s):wpAny (model prog w) A (eval (.Attribute e f pos) env) Q E s:=
 Attribute_any_ h (by rw[arm_eval_Attribute,hb])
end
noncomputable def JY(K:PySem.W.Frag)(ta:TE)(f:Str):TE:=fun σ H Q=>ta σ H fun x H1=>∃a C dx fs v,x= .ref a∧H1 a=some (.ins C dx fs)∧kf K C∧fy K C f∧fs.lookup f=some v∧Q v H1
noncomputable def Jq(K:PySem.W.Frag)(ta tv:TE)(f:Str):TS:=fun D σ H=>tv σ H fun y H1=>ta σ H1 fun x H2=>∃a C dx fs,x= .ref a∧H2 a=some (.ins C dx fs)∧kf K C∧fy K C f∧fs.length<1000∧
 D.nx σ (upd H2 a (.ins C dx (gu f y fs)))
section
variable {X:Cx}{o e value:Expr}{f:Str}{pos pos' tpos:Pos}{ta tv:TE}
theorem Gw(he:PE X e ta)(hb:attributeBase e f X.env (eval e X.env)=eval e X.env):PE X (.Attribute e f pos) (JY X.K ta f):=by
 intro pins s σ H Q I h
 refine CY hb (bD (he pins s σ H _ I h) fun u s1 ⟨x,H1,I1,rx,a,C,dx,fs,v,ex,ea,c,n,l,q⟩=>?_)
 subst ex
 obtain rfl:u=Value.ref a:=rx
 exact xF I1 ea c n l fun u' s2 I2 ru=>⟨v,H1,I2,ru,q⟩
theorem Fx(ha:PE X o ta)(hv:PE X value tv)(hs:swapsWith value (some (.Attribute o f pos')) pos.line X.env=pure false):PS X (.Assign [.Attribute o f pos'] value pos) (Jq X.K ta tv f):=by
 intro pins s σ H D I h
 refine plainObj_wpAny_Assign_Attribute (bD (hv pins s σ H _ I h) fun u s1 ⟨y,H1,I1,ry,q⟩=>bD (ha pins s1 σ H1 _ I1 q) fun ov s2 ⟨x,H2,I2,rx,a,C,dx,fs,ex,ea,c,n,l,q2⟩=>?_) hs
 subst ex
 obtain rfl:ov=Value.ref a:=rx
 exact xq I2 ea c n l ry fun s3 I3=>⟨σ,_,I3,q2⟩
end
section
variable {X:Cx}{pins:List (Addr×Obj)}{σ:St}{H:Hp}{s:Shared}{A:Around}{E:Value→Shared→Prop}{Q:Value→Shared→Prop}{c:Value}{b:Bool}
end
end L2
namespace L2
open PySem PySem.Spec PyProof.Rows
structure dm(k:Nat)(A:Around):Prop where
 hd:A.handled=none
 dp:A.depth+3*k+105<recursionLimit
 un:A.units+16*k+200<cLine
theorem dm.mono{j k:Nat}{A:Around}(r:dm k A)(h:j≤k):dm j A:=⟨r.hd,by have:=r.dp;omega,by have:=r.un;omega⟩
theorem dm.deeper{k:Nat}{A:Around}(r:dm (k+1) A)(env:Env):dm k (A.deeper env):=
 ⟨r.hd,by have:=r.dp;show A.depth+1+3*k+105<_;omega,by have:=r.un;show A.units+3+16*k+200<_;omega⟩
theorem yi{A:Around}{C:Addr}{us:List Value}{kw:List (Str×Value)}:(A.under (.builtin "type.__call__" ⟨.ref C::us,kw⟩)).depth=A.depth+1:=by
 first|rfl|simp[Around.under,Code.weight,Code.isCreation,Code.isGuard,Code.isCaller,Code.frames,Code.isFrame,guardIds]
theorem ya{A:Around}{C:Addr}{us:List Value}{kw:List (Str×Value)}:(A.under (.builtin "type.__call__" ⟨.ref C::us,kw⟩)).units=A.units+1:=by
 first|rfl|simp[Around.under,Code.cUnits,Code.frames,Code.isFrame]
theorem dm.make{k:Nat}{A:Around}(r:dm (k+1) A)(C:Addr)(us:List Value)(kw:List (Str×Value)):dm k (A.under (.builtin "type.__call__" ⟨.ref C::us,kw⟩)):=
 ⟨r.hd,by have:=r.dp;rw[yi];omega,by have:=r.un;rw[ya];omega⟩
theorem dm.depth{k:Nat}{A:Around}(r:dm k A):A.depth<recursionLimit:=by have:=r.dp;omega
theorem dm.units{k:Nat}{A:Around}(r:dm k A):A.units+64<cLine:=by have:=r.un;omega
noncomputable def Gv:TA:=fun _ H Q=>Q [] H
noncomputable def HX(ta:TE)(tr:TA):TA:=fun σ H Q=>ta σ H fun x H1=>tr σ H1 fun xs H2=>Q (x::xs) H2
section
variable {X:Cx}{e:Expr}{es:List Expr}{te:TE}{t:TA}{pos:Pos}
theorem EV:PA X [] Gv:=fun _ _ _ _ H Q I h=>Calls.spliced_nil ⟨[],H,I,.nil,h⟩
theorem C_(ha:PE X e te)(hr:PA X es t)(hs:starEach (e::es) X.env=(false,eval e X.env)::starEach es X.env:=by rfl):PA X (e::es) (HX te t):=by
 intro pos pins s σ H Q I h
 rw[hs]
 show wpAny _ _ (spliced ((false,eval e X.env)::backTo pos (starEach es X.env))) _ _ s
 refine Calls.spliced_cons (bD (ha pins s σ H _ I h) fun u s1 ⟨x,H1,I1,r1,q1⟩=>?_)
 exact bD (hr pos pins s1 σ H1 _ I1 q1) fun us s2 ⟨xs,H2,I2,r2,q2⟩=>⟨x::xs,H2,I2,.cons r1 r2,q2⟩
noncomputable def Jp(t:TA):TE:=fun σ H Q=>t σ H fun xs H1=>xs.length≤sizeLine∧∀p,H1 p=none→Q (.ref p) (upd H1 p (.tup xs))
noncomputable def JK(t:TA):TE:=fun σ H Q=>t σ H fun xs H1=>xs.length≤sizeLine∧∀p,H1 p=none→Q (.ref p) (upd H1 p (.lst xs))
theorem GF{x1}(h:PA X es t):PE X (.Tuple es x1 pos) (Jp t):=by
 intro pins s σ H Q I hq
 refine wpAny_Tuple_spliced (bD (h pos pins s σ H _ I hq) fun us s1 ⟨xs,H1,I1,r,z,q⟩=>⟨by rw[←r.length];exact z,?_⟩)
 have hf:H1 s1.heap.objs.size=none:=I1.aT.fresh (Nat.le_refl _)
 refine⟨.ref s1.heap.objs.size,upd H1 s1.heap.objs.size (.tup xs),I1.laid (t':=s1.toks) (fun b u e=>Heap.get?_push_of_some _ e) (Nat.le_refl _) ?_,rfl,q _ hf⟩
 exact⟨z,us,r,⟨_,Heap.get?_push_size _ rfl,rfl,_,rfl⟩⟩
theorem zT(h:PA X es t):PE X (.List es pos) (JK t):=by
 intro pins s σ H Q I hq
 refine wpAny_List_spliced (bD (h pos pins s σ H _ I hq) fun us s1 ⟨xs,H1,I1,r,z,q⟩=>⟨by rw[←r.length];exact z,?_⟩)
 have hf:H1 s1.heap.objs.size=none:=I1.aT.fresh (Nat.le_refl _)
 refine⟨.ref s1.heap.objs.size,upd H1 s1.heap.objs.size (.lst xs),I1.laid (t':=s1.toks) (fun b u e=>Heap.get?_push_of_some _ e) (Nat.le_refl _) ?_,rfl,q _ hf⟩
 exact⟨z,us,0,r,Heap.get?_push_size _ rfl⟩
end
noncomputable abbrev Sp:=List V→Hp→VK→XK→Prop
noncomputable abbrev pF:=List Env→Hp→Shared→XK→Value→Shared→Prop
structure p9(P:Program)(w:World)(K:PySem.W.Frag)(mg:Str→Option Value)(base:Heap)(A:Around)(outer:List Env)(s:Shared)(H:Hp):Prop where
 frames:A.frames=some outer
 mod:Mod K mg base
 bs:∀b o,base.get? b=some o→s.heap.get? b=some o∧H b=none
 qZ:base.objs.size≤s.heap.objs.size
 jN:s.heap.FunFrames base outer
 sO:∀b∈mD outer,H b=none
 aT:gN P w H s.heap
 bare:AllBare s.gens
 gt:P.given.tree=none
noncomputable def CE(outer:List Env)(P:Program)(w:World)(H:Hp)(s:Shared)(Q:VK)(u:Value)(s':Shared):Prop:=
 ∃v H',s'.os=s.os∧AllBare s'.gens∧Un (mD outer) [] H H' s.heap s'.heap∧gN P w H' s'.heap∧RelV v u∧Q v H'
noncomputable def CR(CX:pF)(outer:List Env)(P:Program)(w:World)(H:Hp)(s:Shared)(Q:VK)(E:XK)(r:Result)(s':Shared):Prop:=
 match r with
 | .ok (.ret u)=>CE outer P w H s Q u s'
 | .ok _=>False
 | .error e=>CX outer H s E e s'
structure ax(P:Program)(w:World)(K:PySem.W.Frag)(mg:Str→Option Value)(base:Heap)(CX:pF)(k:Nat)(f:Addr)(fd:FuncData)(ps:List Str)(sp:Sp):Prop where
 len:∀vs H Q E,sp vs H Q E→vs.length=ps.length
 run:∀(A:Around) (outer:List Env) (s:Shared) (H:Hp) (args:Args) (us:List Value) (vs:List V) (Q:VK) (E:XK),dm k A→p9 P w K mg base A outer s H→BindsTo s fd args (ps.zip us)→Vals vs us→sp vs H Q E→
  codeAny (model P w) A (.call (.ref f) args) (CR CX outer P w H s Q E) s
theorem ax.imp{P:Program}{w:World}{K:PySem.W.Frag}{mg:Str→Option Value}{base:Heap}{CX:pF}{k:Nat}{f:Addr}{fd:FuncData}{ps:List Str}{sp sp':Sp}(F:ax P w K mg base CX k f fd ps sp)
 (h:∀vs H Q E,sp' vs H Q E→sp vs H Q E):ax P w K mg base CX k f fd ps sp':=
 ⟨fun vs H Q E q=>F.len vs H Q E (h _ _ _ _ q),fun A outer s H args us vs Q E hr he hb hv hs=>F.run A outer s H args us vs Q E hr he hb hv (h _ _ _ _ hs)⟩
theorem p9.make{P:Program}{w:World}{K:PySem.W.Frag}{mg:Str→Option Value}{base:Heap}{A:Around}{outer:List Env}{s:Shared}{H:Hp}(e:p9 P w K mg base A outer s H)(C:Addr)(us:List Value)(kw:List (Str×Value)):
 p9 P w K mg base (A.under (.builtin "type.__call__" ⟨.ref C::us,kw⟩)) outer s H:=⟨by first|exact e.frames|(simpa[Around.under,Code.envs,Code.isFrame,pushEnvs]using e.frames),e.mod,e.bs,e.qZ,e.jN,e.sO,e.aT,e.bare,e.gt⟩
section
variable {X:Cx}{pins:List (Addr×Obj)}{σ:St}{H:Hp}{s s':Shared}
theorem Inv.Fe(I:Inv X pins σ H s):p9 X.prog X.w X.K X.mg X.base X.A X.stack s H:=
 ⟨I.ok.frames,I.ok.mod,I.bs,Nat.le_trans I.ok.qZ I.sz,I.stack,I.wb,I.aT,I.bare,I.ok.gt⟩
theorem Inv.after{Q:VK}{u:Value}(I:Inv X pins σ H s)(h:CE X.stack X.prog X.w H s Q u s'):EP X pins σ Q u s':=by
 obtain⟨v,H',os,bare,un,aT,r,q⟩:=h
 obtain⟨hh,g,d,t,os'⟩:=s'
 obtain rfl:os'=s.os:=os
 exact⟨v,H',I.call (h':=hh) (g':=g) (d':=d) (t':=t) (ch:=[]) un aT bare (fun b z=>absurd z (by simp)),r,q⟩
end
noncomputable def Ck(sp:Sp)(dvs:List V)(E:XK)(t:TA):TE:=fun σ H Q=>t σ H fun vs H1=>sp (vs++dvs) H1 Q E
noncomputable def xr(C:Addr)(m:Str)(sp:Sp)(dvs:List V)(E:XK)(ta:TE)(t:TA):TE:=fun σ H Q=>ta σ H fun x H1=>∃a dx fs,x= .ref a∧H1 a=some (.ins C dx fs)∧fs.lookup m=none∧
 t σ H1 fun vs H2=>sp (x::(vs++dvs)) H2 Q E
noncomputable def B0(C:Addr)(sp:Sp)(dvs:List V)(E:XK)(t:TA):TE:=fun σ H Q=>t σ H fun vs H1=>∀x dx,H1 x=none→H1 dx=none→dx≠x→
 sp (.ref x::(vs++dvs)) (upd (upd H1 dx (.own x)) x (.ins C dx [])) (fun v H2=>v= .aP∧Q (.ref x) H2) E
noncomputable def Binds(K:PySem.W.Frag)(fd:FuncData)(ps:List Str)(ds:List Value):Prop:=
 ∀(s:Shared) (us:List Value),K.In s.heap→(us++ds).length=ps.length→BindsTo s fd ⟨us,[]⟩ (ps.zip (us++ds))
theorem Binds.all{K:PySem.W.Frag}{fd:FuncData}{ps:List Str}(h:∀us:List Value,us.length=ps.length→bindArgs fd ⟨us,[]⟩=pure (ps.zip us)):Binds K fd ps []:=fun s us _ hl=>by
 rw[List.append_nil]at hl⊢
 exact .of_eq (h us hl)
noncomputable def Passes(CX:pF)(X:Cx)(E:XK):Prop:=∀(pins:List (Addr×Obj)) (σ:St) (H:Hp) (s:Shared) (e:Value) (s':Shared),Inv X pins σ H s→CX X.stack H s E e s'→X.xe e s'
section
variable {X:Cx}{CX:pF}{k:Nat}{f C:Addr}{fd:FuncData}{ps:List Str}{sp:Sp}{dvs:List V}{ds:List Value}{E:XK}{x m:Str}{p pos apos:Pos}{e o:Expr}{es:List Expr}{ta:TE}{t:TA}
theorem uE{pins:List (Addr×Obj)}{σ:St}{H:Hp}{s:Shared}{Q:VK}{us:List Value}{vs:List V}(F:ax X.prog X.w X.K X.mg X.base CX k f fd ps sp)(hr:dm k X.A)(hb:Binds X.K fd ps ds)(hd:Vals dvs ds)(hx:Passes CX X E)
 (I:Inv X pins σ H s) (r:Vals vs us) (h:sp (vs++dvs) H Q E):wpAny (model X.prog X.w) X.A (call (.ref f) us) (EP X pins σ Q) X.xe s:=by
 have r2:Vals (vs++dvs) (us++ds):=r.append hd
 have hl:(us++ds).length=ps.length:=by rw[←r2.length];exact F.len _ _ _ _ h
 refine wpAny_call (codeAny_mono (F.run X.A X.stack s H ⟨us,[]⟩ (us++ds) (vs++dvs) Q E hr I.Fe (hb s us I.lE hl) r2 h) fun r s' hq=>?_)
 cases r with
 |error e=>exact hx pins σ H s e s' I hq
 |ok fl=>
  cases fl with
  |ret u=>exact I.after hq
  |next=>exact False.elim hq
  |brk=>exact False.elim hq
  |cont=>exact False.elim hq
theorem Df(F:ax X.prog X.w X.K X.mg X.base CX k f fd ps sp)(hr:dm k X.A)(hg:Gl X x)(hm:X.mg x=some (.ref f))(hk:PySem.W.keepIn X.K (.ref f)=true)(hb:Binds X.K fd ps ds)(hd:Vals dvs ds)(hx:Passes CX X E)
 (ha:PA X (e::es) t) (hdb:(x==("__debug__":Str))=false:=by decide) (he:starEach (e::es) X.env=(false,eval e X.env)::starEach es X.env:=by rfl) (hpl:(backTo pos (starEach es X.env)).any (·.1)=false:=by rfl):
 PE X (.Call (.Name x p) (e::es) [] pos) (Ck sp dvs E t):=by
 intro pins s σ H Q I h
 refine wpAny_Call_Name_kw (wD I hg hm ?_ hdb)
 refine PySem.W.callWith_K (h₀:=X.base) I.ok.mod.yz hk (bD (ha pos pins s σ H _ I h) fun us s1 ⟨vs,H1,I1,r,q⟩=>⟨I1.lE,?_⟩) he hpl
 exact uE F hr hb hd hx I1 r q
theorem CO{pl:Sem Bool}(he:PE X o ta)(c:kf X.K C)(hm:Meth X.K C m f)(F:ax X.prog X.w X.K X.mg X.base CX k f fd ps sp)(hr:dm k X.A)(hb:Binds X.K fd ps ds)(hd:Vals dvs ds)(hx:Passes CX X E)(ha:PA X (e::es) t)
 (hst:starEach (e::es) X.env=(false,eval e X.env)::starEach es X.env:=by rfl) (hpl:(backTo pos (starEach es X.env)).any (·.1)=false:=by rfl)
 (ht:eval (.Call (.Attribute o m apos) (e::es) [] pos) X.env=(do
   let ov ←eval o X.env
   standAt apos.atName
   let(f,first) ←holding [ov] (getMethod ov m pl)
   callWith pos f first (backTo pos (starEach (e::es) X.env)) (backToKw pos (keywordEach [] X.env))):=by rfl):
 PE X (.Call (.Attribute o m apos) (e::es) [] pos) (xr C m sp dvs E ta t):=by
 intro pins s σ H Q I h
 refine PySem.W.methodCall_KW (pl:=pl) (bD (he pins s σ H _ I h) fun u s1 ⟨x,H1,I1,rx,a,dx,fs,ex,ea,l,q⟩=>?_) ht
 subst ex
 obtain rfl:u=Value.ref a:=rx
 refine qX I1 ea c hm l ?_
 refine PySem.W.callWith_K (first:=[.ref a]) (h₀:=X.base) I.ok.mod.yz hm.kp (bD (ha pos pins s1 σ H1 _ I1 q) fun us s2 ⟨vs,H2,I2,r,q2⟩=>⟨I2.lE,?_⟩) hst hpl
 exact uE (us:= .ref a::us) (vs:= .ref a::vs) F hr hb hd hx I2 (.cons rfl r) q2
theorem Ac{pl:Sem Bool}(he:PE X o ta)(c:kf X.K C)(hm:Meth X.K C m f)(F:ax X.prog X.w X.K X.mg X.base CX k f fd ps sp)(hr:dm k X.A)(hb:Binds X.K fd ps ds)(hd:Vals dvs ds)(hx:Passes CX X E)
 (ht:eval (.Call (.Attribute o m apos) [] [] pos) X.env=(do
   let ov ←eval o X.env
   standAt apos.atName
   let(f,first) ←holding [ov] (getMethod ov m pl)
   callWith pos f first (backTo pos (starEach [] X.env)) (backToKw pos (keywordEach [] X.env))):=by rfl):
 PE X (.Call (.Attribute o m apos) [] [] pos) (xr C m sp dvs E ta Gv):=by
 intro pins s σ H Q I h
 refine PySem.W.methodCall_KW (pl:=pl) (bD (he pins s σ H _ I h) fun u s1 ⟨x,H1,I1,rx,a,dx,fs,ex,ea,l,q⟩=>?_) ht
 subst ex
 obtain rfl:u=Value.ref a:=rx
 refine qX I1 ea c hm l ?_
 exact PySem.W.callWith_K0 (first:=[.ref a]) I1.lE hm.kp (uE (us:=[.ref a]) (vs:=[.ref a]) F hr hb hd hx I1 (.cons rfl .nil) q)
structure Mk(K:PySem.W.Frag)(C f:Addr):Prop where
 makes:PySem.W.makesIn K C=true
 init:PySem.W.findIn K (.ref C) "__init__"=some (some (.ref f))
 fn:PySem.W.isFn K (.ref f)=true
 kp:PySem.W.keepIn K (.ref C)=true
theorem A9{pins:List (Addr×Obj)}{σ:St}{H:Hp}{s:Shared}{Q:VK}{us:List Value}{vs:List V}(M:Mk X.K C f)(F:ax X.prog X.w X.K X.mg X.base CX k f fd ps sp)(hr:dm (k+1) X.A)(hb:Binds X.K fd ps ds)(hd:Vals dvs ds)
 (hx:Passes CX X E) (I:Inv X pins σ H s) (r:Vals vs us)
 (h:∀x dx,H x=none→H dx=none→dx≠x→sp (.ref x::(vs++dvs)) (upd (upd H dx (.own x)) x (.ins C dx [])) (fun v H2=>v= .aP∧Q (.ref x) H2) E):
 wpAny (model X.prog X.w) X.A (call (.ref C) us) (EP X pins σ Q) X.xe s:=by
 have hq:=h (s.heap.objs.size+1) s.heap.objs.size (I.aT.fresh (Nat.le_succ _)) (I.aT.fresh (Nat.le_refl _)) (Nat.ne_of_lt (Nat.lt_succ_self _))
 have I2:=Inv.made (C:=C) I
 have r2:Vals (V.ref (s.heap.objs.size+1)::(vs++dvs)) (Value.ref (s.heap.objs.size+1)::(us++ds)):= .cons rfl (r.append hd)
 have hl:(Value.ref (s.heap.objs.size+1)::us++ds).length=ps.length:=by
  have e:=r2.length
  rw[F.len _ _ _ _ hq]at e
  exact e.symm
 refine wpAny_call (AV (f:=f) I.lE M.makes M.init (beq_iff_eq.mp M.fn) (codeAny_mono (F.run _ X.stack _ _ ⟨Value.ref (s.heap.objs.size+1)::us,[]⟩ (Value.ref (s.heap.objs.size+1)::(us++ds)) _ _ E (hr.make C us [])
  (I2.Fe.make C us []) (hb _ (Value.ref (s.heap.objs.size+1)::us) I2.lE hl) r2 hq) fun r s' hq'=>?_))
 cases r with
 |error e=>exact hx pins σ _ _ e s' I2 hq'
 |ok fl=>
  cases fl with
  |ret u=>
   obtain⟨v,H',I3,rv,ev,q3⟩:=I2.after hq'
   subst ev
   exact⟨rv,⟨V.ref (s.heap.objs.size+1),H',I3,rfl,q3⟩⟩
  |next=>exact False.elim hq'
  |brk=>exact False.elim hq'
  |cont=>exact False.elim hq'
theorem CF(M:Mk X.K C f)(F:ax X.prog X.w X.K X.mg X.base CX k f fd ps sp)(hr:dm (k+1) X.A)(hg:Gl X x)(hm:X.mg x=some (.ref C))(hb:Binds X.K fd ps ds)(hd:Vals dvs ds)(hx:Passes CX X E)
 (ha:PA X (e::es) t) (hdb:(x==("__debug__":Str))=false:=by decide) (he:starEach (e::es) X.env=(false,eval e X.env)::starEach es X.env:=by rfl) (hpl:(backTo pos (starEach es X.env)).any (·.1)=false:=by rfl):
 PE X (.Call (.Name x p) (e::es) [] pos) (B0 C sp dvs E t):=by
 intro pins s σ H Q I h
 refine wpAny_Call_Name_kw (wD I hg hm ?_ hdb)
 refine PySem.W.callWith_K (h₀:=X.base) I.ok.mod.yz M.kp (bD (ha pos pins s σ H _ I h) fun us s1 ⟨vs,H1,I1,r,q⟩=>⟨I1.lE,?_⟩) he hpl
 exact A9 M F hr hb hd hx I1 r q
end
section
variable {X:Cx}{CX:pF}{k:Nat}{f C:Addr}{fd:FuncData}{ps ks:List Str}{sp:Sp}{E:XK}{x m:Str}{p pos apos kpos:Pos}{e o:Expr}{es:List Expr}{kws:List Keyword}{te ta:TE}{t tk:TA}{nm:Option Str}
variable {g:List Value→List Value→List Value}{gV:List V→List V→List V}
end
structure bf(N P:List Str)(sc:Scope):Prop where
 kind:sc.kind= .function
 co:sc.isCoroutine=false
 gen:sc.isGenerator=false
 nd:N.Nodup
 pre:N.take P.length=P
 par:∀x∈P,sc.names.lookup x=some .local∨sc.names.lookup x=some .cell
 EZ:∀y∈sc.names,y.2≠ .free
theorem sE{kindOf:Str→Option NameKind}{x:Str}:∀ {binds:List (Str×Value)} {m:Str→Option Value},(∀v,(x,v)∉binds)→bindL kindOf binds m x=m x
 | [],_,_=>rfl
 |(n,v)::r,m,h=>by
  unfold bindL
  rw[sE fun w hw=>h w (List.mem_cons_of_mem _ hw)]
  split
  · have:x≠n:=by rintro rfl;exact h v List.mem_cons_self
    simp[this]
  · rfl
theorem sV{kindOf:Str→Option NameKind}{x:Str}:∀ {binds:List (Str×Value)} {m:Str→Option Value},(∀v,(x,v)∉binds)→bindC kindOf binds m x=m x
 | [],_,_=>rfl
 |(n,v)::r,m,h=>by
  unfold bindC
  rw[sV fun w hw=>h w (List.mem_cons_of_mem _ hw)]
  split
  · rfl
  · have:x≠n:=by rintro rfl;exact h v List.mem_cons_self
    simp[this]
theorem sI{kindOf:Str→Option NameKind}{x:Str}{v:Value}:∀ {P:List Str} {vs:List Value} {i:Nat} {m:Str→Option Value},P.Nodup→P[i]?=some x→vs[i]?=some v→kindOf x=some .local→
 bindL kindOf (P.zip vs) m x=some v
 | [],_,_,_,_,h,_,_=>by simp at h
 |_::_,[],_,_,_,_,h,_=>by simp at h
 |p::P,w::vs,0,m,nd,h1,h2,hk=>by
  simp at h1 h2;subst h1;subst h2
  show bindL kindOf ((p,w)::P.zip vs) m p=_
  unfold bindL
  rw[sE fun v hv=>(List.nodup_cons.mp nd).1 (List.of_mem_zip hv).1,if_pos hk]
  simp
 |p::P,w::vs,i+1,m,nd,h1,h2,hk=>by
  show bindL kindOf ((p,w)::P.zip vs) m x=_
  unfold bindL
  exact sI (i:=i) (List.nodup_cons.mp nd).2 (by simpa using h1) (by simpa using h2) hk
theorem su{kindOf:Str→Option NameKind}{x:Str}{v:Value}:∀ {P:List Str} {vs:List Value} {i:Nat} {m:Str→Option Value},P.Nodup→P[i]?=some x→vs[i]?=some v→kindOf x≠some .local→
 bindC kindOf (P.zip vs) m x=some v
 | [],_,_,_,_,h,_,_=>by simp at h
 |_::_,[],_,_,_,_,h,_=>by simp at h
 |p::P,w::vs,0,m,nd,h1,h2,hk=>by
  simp at h1 h2;subst h1;subst h2
  show bindC kindOf ((p,w)::P.zip vs) m p=_
  unfold bindC
  rw[sV fun v hv=>(List.nodup_cons.mp nd).1 (List.of_mem_zip hv).1,if_neg hk]
  simp
 |p::P,w::vs,i+1,m,nd,h1,h2,hk=>by
  show bindC kindOf ((p,w)::P.zip vs) m x=_
  unfold bindC
  exact su (i:=i) (List.nodup_cons.mp nd).2 (by simpa using h1) (by simpa using h2) hk
noncomputable def start(N:List Str)(vs:List V):St:=vs.map some++List.replicate (N.length-vs.length) none
noncomputable def nS(CX:pF)(P:Program)(w:World)(K:PySem.W.Frag)(mg:Str→Option Value)(base:Heap)(N:List Str)(qual:Str)(scope:Scope)(f:Addr)(cd:Value)(A:Around)(outer:List Env)(s:Shared)(H:Hp)(E:XK):Cx where
 prog:=P
 w:=w
 K:=K
 mg:=mg
 base:=base
 A:=A.deeper (envOfC qual scope s.heap.objs.size f cd)
 N:=N
 s₀:=s
 H₀:=H
 env:=envOfC qual scope s.heap.objs.size f cd
 outer:=outer
 stack:=envOfC qual scope s.heap.objs.size f cd::outer
 ex:=[]
 calm:=true
 fn:=fun _=>true
 pn:=[]
 xe:=fun e s'=>wpAny (model P w) (A.deeper (envOfC qual scope s.heap.objs.size f cd)) (leaving (envOfC qual scope s.heap.objs.size f cd) e) (fun _ s''=>CX outer H s E e s'') (fun e' s''=>CX outer H s E e' s'') s'
theorem uL{sc:Scope}{n:Nat}{x:Str}(h:sc.names.lookup x=some .cell):∃c,(cellsFrom n sc.names []).lookup x=some c:=by
 have q:=PySem.W.cellsFrom_some sc.names n [] (.inl h)
 exact Option.isSome_iff_exists.mp q
theorem yR{CX:pF}{P:Program}{w:World}{K:PySem.W.Frag}{mg:Str→Option Value}{base:Heap}{N ps:List Str}{qual:Str}{scope:Scope}{f:Addr}{cd:Value}{A:Around}{outer:List Env}{s s1:Shared}{H:Hp}{E:XK}{us:List Value}{vs:List V}
 (S:bf N ps scope) (hd:A.handled=none) (e0:p9 P w K mg base A outer s H) (hl:vs.length=ps.length) (r:Vals vs us)
 (x:InCallC s s.heap.objs.size (bindL (envOfC qual scope s.heap.objs.size f cd).kindOf (ps.zip us) fun _=>none) (cellsFrom (s.heap.objs.size+1) scope.names []) (bindC (envOfC qual scope s.heap.objs.size f cd).kindOf (ps.zip us) fun _=>none) s1):
 Inv (nS CX P w K mg base N qual scope f cd A outer s H E) [] (start N vs) H s1:=by
 have hpl:ps.length≤N.length:=by have:=congrArg List.length S.pre;rw[List.length_take]at this;omega
 obtain⟨h1,tk,rfl,hk⟩:=x.done
 have noA:∀b:Addr,b∉(nS CX P w K mg base N qual scope f cd A outer s H E).ex:=fun b z=>absurd (show b∈([]:List Addr)from z) (by simp)
 refine⟨⟨e0.mod,S.kind,rfl,rfl,Nat.le_refl _,fun y z c h1 h2=>?_,fun y hy=>?_,fun y c _ h=>?_,fun _=>hd,Around.frames_deeper e0.frames,.inr ⟨rfl,rfl⟩,fun b z=>absurd z (noA b),e0.bs,e0.qZ,fun b _ _=>noA b,fun b z=>absurd z (noA b),e0.jN,e0.sO,e0.gt⟩,
  rfl,e0.bare,Un.kept hk,⟨_,x.toInCall.ns,fun i y v h1 h2 h3=>?_⟩,fun y c h=>⟨_,x.cell y c h⟩,e0.aT.fresh (Nat.le_refl _),fun y c h=>?_,fun p hp=>absurd (show p∈([]:List (Addr×Obj))from hp) (by simp),e0.aT.kept hk,?_⟩
 · exact name_of_addr x.apart (PySem.mem_of_lookup h1) (PySem.mem_of_lookup h2)
 · have hy:scope.names.lookup y=some .cell∨scope.names.lookup y=some .free:=hy
   rcases hy with hy|hy
   · exact uL hy
   · exact absurd rfl (S.EZ _ (PySem.mem_of_lookup hy))
 · exact Nat.le_of_lt (x.above y c (PySem.mem_of_lookup h))
 · have hi:i<vs.length:=by
    unfold start at h2
    by_cases hi:i<vs.length
    · exact hi
    · rw[List.getElem?_append_right (by simpa using hi)]at h2
      rw[List.getElem?_replicate]at h2
      split at h2<;>cases h2
   have ha:vs[i]?=some v:=by
    unfold start at h2
    rw[List.getElem?_append_left (by simpa using hi),List.getElem?_map]at h2
    cases e:vs[i]? with
    |none=>rw[e]at h2;cases h2
    |some a=>rw[e]at h2;cases h2;rfl
   obtain⟨u,hu,rv⟩:=r.get ha
   have hp:ps[i]?=some y:=by
    rw[←S.pre,List.getElem?_take_of_lt (by omega)];exact h1
   have ndP:ps.Nodup:=by rw[←S.pre];exact S.nd.sublist (List.take_sublist _ _)
   refine⟨u,rv,?_⟩
   rcases S.par y (List.mem_of_getElem? hp)with k|k
   · exact .inl ⟨k,sI ndP hp hu k⟩
   · obtain⟨c,e⟩:=uL (n:=s.heap.objs.size+1) k
     refine .inr ⟨.inl k,c,e,?_⟩
     have q:=x.cell y c e
     rw[su ndP hp hu (by show scope.names.lookup y≠_;rw[k];decide)]at q
     exact q
 · exact e0.aT.fresh (Nat.le_of_lt (x.above y c (PySem.mem_of_lookup h)))
 · unfold start
   show _=N.length
   rw[List.length_append,List.length_map,List.length_replicate]
   omega
theorem Hi{CX:pF}{P:Program}{w:World}{K:PySem.W.Frag}{mg:Str→Option Value}{base:Heap}{k:Nat}{f:Addr}{name qual:Str}{params:Arguments}{body:List Stmt}{scope:Scope}{dV kV doc pm cdv ct oc:Value}{an od:Option Addr}
 {osl:Array (Option Value)} {N ps:List Str} {sp:Sp} (lk:K.lookup f=some ⟨oc,od,.func (PySem.W.fnOf name qual params body scope dV kV doc pm an cdv ct),osl⟩) (hcd:PySem.W.codeIn K cdv qual=true) (S:bf N ps scope)
 (len:∀vs H Q E,sp vs H Q E→vs.length=ps.length)
 (hbody:∀(A:Around) (outer:List Env) (s:Shared) (H:Hp) (vs:List V) (Q:VK) (E:XK),dm k (A.deeper (envOfC qual scope s.heap.objs.size f cdv))→sp vs H Q E→
   ∃t,gv (nS CX P w K mg base N qual scope f cdv A outer s H E) body t∧t {nx:=fun _ H'=>Q .aP H',rt:=Q} (start N vs) H):
 ax P w K mg base CX (k+1) f (PySem.W.fnOf name qual params body scope dV kV doc pm an cdv ct) ps sp:=by
 refine⟨len,fun A outer s H args us vs Q E hr e0 hb r hsp=>?_⟩
 have hl:=len _ _ _ _ hsp
 have KX:K.In s.heap:=e0.mod.yz.keeps fun b o e=>(e0.bs b o e).1
 have lim:s.heap.NoLimit:=e0.mod.nolimit.keeps fun b o e=>(e0.bs b o e).1
 have hkind:∀y∈ps.zip us,scope.names.lookup y.1=some .local∨(scope.names.lookup y.1=some .cell∧((cellsFrom (s.heap.objs.size+1) scope.names []).lookup y.1).isSome=true):=fun⟨n,v⟩ hy=>by
  rcases S.par n (List.of_mem_zip hy).1 with q|q
  · exact .inl q
  · exact .inr ⟨q,PySem.W.cellsFrom_some _ _ _ (.inl q)⟩
 refine codeAny_call_function hr.depth (KX _ _ lk) rfl S.co S.gen rfl (PySem.W.codeRec_of KX hcd) (hb _ _ _ _ ?_)
 refine wpAny_newFunctionEnv_cells S.kind hkind fun env he s1 x=>?_
 subst he
 refine⟨lim.keeps x.toInCall.keep,codeAny_func ?_⟩
 obtain⟨t,ht,hq⟩:=hbody A outer s H vs Q E (hr.deeper _) hsp
 have I:Inv (nS CX P w K mg base N qual scope f cdv A outer s H E) [] (start N vs) H s1:=yR S hr.hd e0 hl r x
 refine wpAny_mono (ht [] s1 (start N vs) H _ I hq) (fun fl s' hs=>?_) fun e s' hs=>hs
 have fin:∀ {σ':St} {H':Hp} {v:V} {u:Value},Inv (nS CX P w K mg base N qual scope f cdv A outer s H E) [] σ' H' s'→RelV v u→Q v H'→CE outer P w H s Q u s':=
  fun{σ' H' v u} J rv q=>⟨v,H',J.os,J.bare,J.base,J.aT,rv,q⟩
 cases fl with
 |ret u=>
  obtain⟨v,σ',H',J,rv,q⟩:=hs
  exact fin J rv q
 |next=>
  obtain⟨σ',H',J,q⟩:=hs
  exact fin (v:=V.aP) (u:=Value.none) J rfl q
 |brk=>
  obtain⟨_,_,_,q⟩:=hs
  exact False.elim q
 |cont=>
  obtain⟨_,_,_,q⟩:=hs
  exact False.elim q
end L2
namespace L2
open PySem PySem.Spec PyProof.Rows
section
variable {X:Cx}{x:Str}{p pos:Pos}{e:Expr}{es:List Expr}{t:TA}{id T:String}{r:List V→Hp→VK→Prop}
noncomputable def Ex(r:List V→Hp→VK→Prop)(t:TA):TE:=fun σ H Q=>t σ H fun vs H1=>r vs H1 Q
theorem Bb(hc:cn X (.builtin id) r)(hg:Gl X x)(hm:X.mg x=none)(hv:bootBuiltins x=some (.builtin id))(ha:PA X (e::es) t)(hn:x≠"__name__":=by decide)(hdb:(x==("__debug__":Str))=false:=by decide)
 (he:starEach (e::es) X.env=(false,eval e X.env)::starEach es X.env:=by rfl) (hpl:(backTo pos (starEach es X.env)).any (·.1)=false:=by rfl):PE X (.Call (.Name x p) (e::es) [] pos) (Ex r t):=by
 intro pins s σ H Q I h
 refine wpAny_Call_Name_kw (kM I hg hm hv ?_ hn hdb)
 exact PyProof.Rows.callWith_builtin1 (bD (ha pos pins s σ H _ I h) fun us s1 ⟨vs,H1,I1,r1,q1⟩=>hc pins s1 σ H1 vs us Q I1 r1 q1) he hpl
theorem zc(hc:cn X (.type T) r)(hg:Gl X x)(hm:X.mg x=none)(hv:bootBuiltins x=some (.type T))(ha:PA X (e::es) t)(hn:x≠"__name__":=by decide)(hdb:(x==("__debug__":Str))=false:=by decide)
 (he:starEach (e::es) X.env=(false,eval e X.env)::starEach es X.env:=by rfl) (hpl:(backTo pos (starEach es X.env)).any (·.1)=false:=by rfl):PE X (.Call (.Name x p) (e::es) [] pos) (Ex r t):=by
 intro pins s σ H Q I h
 refine wpAny_Call_Name_kw (kM I hg hm hv ?_ hn hdb)
 exact PyProof.Rows.callWith_type1 (bD (ha pos pins s σ H _ I h) fun us s1 ⟨vs,H1,I1,r1,q1⟩=>hc pins s1 σ H1 vs us Q I1 r1 q1) he hpl
end
end L2
namespace HT
open PySem PyProof.Rows
section
open PySem.SeqAt
open PySem.AutoSeq1 (wpAny_loadPart')
open PySem.MeetsSeq PySem.MeetsSeq2 PySem.MeetsSeq3
end
section
variable {prog:Program}{w:World}{A:Around}{E:Value→Shared→Prop}{s:Shared}
theorem DR{t b:Addr}{vs ws:List Value}{Q:Value→Shared→Prop}(ht:IsTup s.heap t vs.toArray)(hb:IsTup s.heap b ws.toArray)(hv:vs≠ [])
 (h1:ws=[]→Q (.ref t) s) (h2:ws≠ []→Q (.ref s.heap.objs.size) {s with heap:=s.heap.push {cls:= .type "tuple",data:= .seq (vs++ws).toArray}})
 (hsz:vs.length+ws.length≤sizeLine):wpAny (model prog w) A (binaryOp .Add (.ref t) (.ref b)) Q E s:=by
 obtain⟨⟨cls,dd,data,sl⟩,ho,hc,n,hd⟩:=id ht
 obtain⟨⟨cls2,dd2,data2,sl2⟩,ho2,hc2,n2,hd2⟩:=id hb
 simp only at hc hd hc2 hd2
 subst hc hd hc2 hd2
 have e:vs.toArray++ws.toArray=(vs++ws).toArray:=by simp
 by_cases hw:ws=[]
 · exact concat_meets ⟨_,ho,rfl⟩ ⟨_,ho2,rfl⟩ noFill_tuple_add seq_tuple_add PySem.F.slot_tuple_add PySem.F.entry_tuple_add (PySem.F.args_tuple_add_2 _ _)
    (tuple_addW1 t b vs.toArray ws.toArray n n2 dd dd2 sl sl2 (by simpa using hv) (by simp[hw])) ⟨ho,ho2,h1 hw⟩
 · refine concat_meets ⟨_,ho,rfl⟩ ⟨_,ho2,rfl⟩ noFill_tuple_add seq_tuple_add PySem.F.slot_tuple_add PySem.F.entry_tuple_add (PySem.F.args_tuple_add_2 _ _)
    (tuple_addW2 t b vs.toArray ws.toArray n n2 dd dd2 sl sl2 (by simpa using hv) (by simpa using hw) (by rw[List.size_toArray,List.size_toArray];exact hsz)) ⟨ho,ho2,?_⟩
   rw[e]
   exact h2 hw
noncomputable def bL(n d:Nat):Option Int→Nat
 |none=>d
 |some v=>if v<0 then(v+(n:Int)).toNat else min v.toNat n
theorem vd(n d:Nat):bL n d none=d:=rfl
theorem wO(n d k:Nat):bL n d (some (k:Int))=min k n:=by
 show(if(k:Int)<0 then((k:Int)+(n:Int)).toNat else min (k:Int).toNat n)=min k n
 rw[if_neg (by omega),Int.toNat_natCast]
theorem ER(n d:Nat)(hd:d≤n)(o:Option Int):bL n d o≤n:=by
 cases o with
 |none=>exact hd
 |some v=>
  show(if v<0 then(v+(n:Int)).toNat else min v.toNat n)≤n
  by_cases hv:v<0
  · rw[if_pos hv];omega
  · rw[if_neg hv];exact Nat.min_le_right _ _
theorem we(v:Int)(n d:Nat):(if v<0 then max (v+(n:Int)) 0 else min v (n:Int))=((bL n d (some v):Nat):Int):=by
 show(if v<0 then max (v+(n:Int)) 0 else min v (n:Int))=(((if v<0 then(v+(n:Int)).toNat else min v.toNat n):Nat):Int)
 by_cases hv:v<0
 · simp only[if_pos hv];omega
 · simp only[if_neg hv];omega
theorem xf(lo hi:Option Int)(n:Nat):Builtin.Slice.sliceAdjust lo hi 1 (n:Int)=(((bL n 0 lo:Nat):Int),((bL n n hi:Nat):Int)):=by
 have h1:¬((1:Int)<0):=by omega
 unfold Builtin.Slice.sliceAdjust
 simp only[h1,if_false]
 refine Prod.ext ?_ ?_
 · cases lo with
   |none=>rfl
   |some v=>exact we v n 0
 · cases hi with
   |none=>rfl
   |some v=>exact we v n n
theorem xO(i j:Nat):Builtin.Slice.slicePlaces (i:Int) (j:Int) 1=j-i:=by
 unfold Builtin.Slice.slicePlaces
 have h1:(1:Int)>0:=by omega
 simp only[h1,if_true,Int.ediv_one]
 split<;>omega
theorem rf{v:Value}{o:Option Int}{Q:Option Int→Shared→Prop}(p:IsPart v o)(h:Q o s):wpAny (model prog w) A (Builtin.Slice.slicePartIndex v) Q E s:=by
 cases p with
 |none=>exact slicePart_none h
 |int i t=>exact slicePart_int h
theorem kX{sl:Addr}{vl vu:Value}{lo hi:Option Int}{n:Nat}{Q:Int×Int×Nat→Shared→Prop}(hs:s.heap.IsSliceOf sl vl vu .none)(pl:IsPart vl lo)(pu:IsPart vu hi)
 (h:Q (((bL n 0 lo:Nat):Int),1,bL n n hi-bL n 0 lo) s):wpAny (model prog w) A (Builtin.Slice.sliceApplied (.ref sl) (pure (n:Int))) Q E s:=by
 obtain⟨os,hos,hcs,hds⟩:=id hs
 unfold Builtin.Slice.sliceApplied Builtin.Slice.sliceFields
 refine wpAny_bind (wpAny_bind (wpAny_field hos hds (x:=vl) rfl (wpAny_bind (wpAny_field hos hds (x:=vu) rfl (wpAny_bind (wpAny_field hos hds (x:= .none) rfl (wpAny_pure ?_)))))))
 refine wpAny_bind (slicePart_none ?_)
 show wpAny _ _ (if((1:Int)==0)=true then _ else _) _ _ s
 rw[if_neg (by decide)]
 refine wpAny_bind (rf pl (wpAny_bind (rf pu (wpAny_bind (wpAny_pure ?_)))))
 show wpAny _ _ (match Builtin.Slice.sliceAdjust lo hi 1 (n:Int)with|(lo,hi)=>pure (lo,(1:Int),Builtin.Slice.slicePlaces lo hi 1)) _ _ s
 rw[xf lo hi n]
 show wpAny _ _ (pure (((bL n 0 lo:Nat):Int),(1:Int),Builtin.Slice.slicePlaces ((bL n 0 lo:Nat):Int) ((bL n n hi:Nat):Int) 1)) _ _ s
 rw[xO]
 exact wpAny_pure h
theorem Ax(xs:Array Value)(i k:Nat):((List.range k).filterMap fun(m:Nat)=>xs[((i:Int)+(m:Int)*1).toNat]?).toArray=((xs.toList.drop i).take k).toArray:=by
 have e:(fun(m:Nat)=>xs[((i:Int)+(m:Int)*1).toNat]?)=fun m=>xs[i+m]?:=by
  funext m
  have:((i:Int)+(m:Int)*1).toNat=i+m:=by omega
  rw[this]
 rw[e]
 have:=pick_run xs i k
 rw[List.filterMap_map]at this
 have e2:((fun x=>xs[x]?)∘fun x=>i+x)=fun m=>xs[i+m]?:=rfl
 rw[e2]at this
 rw[this]
theorem pf{t sl:Addr}{items:Array Value}{vl vu:Value}{lo hi:Option Int}{Q:Value→Shared→Prop}(ht:IsTup s.heap t items)(hs:s.heap.IsSliceOf sl vl vu .none)(pl:IsPart vl lo)(pu:IsPart vu hi)
 (hw:¬(bL items.size 0 lo=0∧bL items.size items.size hi=items.size))
 (h:Q (.ref s.heap.objs.size) {s with heap:=s.heap.push {cls:= .type "tuple",data:= .seq ((items.toList.drop (bL items.size 0 lo)).take (bL items.size items.size hi-bL items.size 0 lo)).toArray}})
 (hsz:items.size≤sizeLine):wpAny (model prog w) A (getItem (.ref t) (.ref sl)) Q E s:=by
 have htake:sizeOk (.seq ((items.toList.drop (bL items.size 0 lo)).take (bL items.size items.size hi-bL items.size 0 lo)).toArray):=by
  show((items.toList.drop (bL items.size 0 lo)).take (bL items.size items.size hi-bL items.size 0 lo)).toArray.size≤sizeLine
  rw[List.size_toArray,List.length_take,List.length_drop,Array.length_toList]
  omega
 have hj:bL items.size items.size hi≤items.size:=ER _ _ (Nat.le_refl _) hi
 obtain⟨os,hos,hcs,hds⟩:=id hs
 have hTs:s.TypeIs (.ref sl) "slice":=⟨os,hos,hcs⟩
 unfold getItem
 try with_reducible refine wpAny_holding ?_
 first|refine wpAny_bind (wpAny_pure ?_)|skip
 refine wpAny_bind (wpAny_sequenceKey ht.typeIs (by decide) ?_)
 refine wpAny_bind (wpAny_callSpecial?_slot (name:=Str.ofString "__getitem__") ht.typeIs PyProof.Rows.slot_tuple_getitem
  (wpAny_call_entry PyProof.Rows.slot_tuple_getitem ht.typeIs entry_tuple_getitem ?_ (args_tuple_getitem _ _)))
 show wpAny _ _ (Builtin.Tuple.tupleItemsOf (.ref t) >>= _) _ _ s
 refine wpAny_bind (tupleItemsOf_ ht ?_)
 refine wpAny_bind (wpAny_typeOf hTs ?_)
 rw[if_pos (by decide)]
 refine wpAny_bind (kX hs pl pu ?_)
 have hno:¬((((bL items.size 0 lo:Nat):Int)==0&&(1:Int)==1&&(bL items.size items.size hi-bL items.size 0 lo)==items.size)=true):=by
  intro q
  rw[Bool.and_eq_true,Bool.and_eq_true]at q
  have q1:((bL items.size 0 lo:Nat):Int)=0:=eq_of_beq q.1.1
  have q2:bL items.size items.size hi-bL items.size 0 lo=items.size:=eq_of_beq q.2
  exact hw ⟨by omega,by omega⟩
 show wpAny _ _ (if(((bL items.size 0 lo:Nat):Int)==0&&(1:Int)==1&&(bL items.size items.size hi-bL items.size 0 lo)==items.size)=true then _ else _) _ _ s
 rw[if_neg hno,Ax]
 first
  |exact wpAny_bind (m:=Builtin.Tuple.tupleExact _) (wpAny_newObj_type (wpAny_pure ⟨_,rfl,wpAny_pure h⟩) htake)
  |exact wpAny_bind (m:=Builtin.Tuple.tupleExact _) (wpAny_newObj_type (wpAny_bind (wpAny_pure (wpAny_pure ⟨_,rfl,wpAny_pure h⟩))) htake)
  |exact wpAny_bind (wpAny_bind (m:=Builtin.Tuple.tupleExact _) (wpAny_newObj_type (wpAny_pure (wpAny_pure ⟨_,rfl,wpAny_pure h⟩)) htake))
  |exact wpAny_bind (wpAny_bind (m:=Builtin.Tuple.tupleExact _) (wpAny_newObj_type (wpAny_pure ⟨_,rfl,wpAny_pure h⟩) htake))
end
end HT
namespace L2
open PySem PySem.Spec PyProof.Rows
noncomputable abbrev TO:=St→Hp→(Option Int→Hp→Prop)→Prop
noncomputable def PO(X:Cx)(e:Option Expr)(t:TO):Prop:=
 ∀(pins:List (Addr×Obj)) (s:Shared) (σ:St) (H:Hp) (Q:Option Int→Hp→Prop),Inv X pins σ H s→t σ H Q→
  wpAny (model X.prog X.w) X.A (evalPart e X.env) (fun u s'=>∃o H',Inv X pins σ H' s'∧IsPart u o∧Q o H') X.xe s
noncomputable def CT:TO:=fun _ H Q=>Q none H
noncomputable def HB(t:TE):TO:=fun σ H Q=>t σ H fun x H1=>∃i,x= .int i∧Q (some i) H1
section
variable {X:Cx}{e:Expr}{te:TE}{lo hi:Option Expr}{tl th:TO}{pos p2:Pos}
theorem CL:PO X none CT:=by
 intro pins s σ H Q I h
 rw[evalPart_none]
 exact wpAny_pure ⟨none,H,I,.none,h⟩
theorem Dl(h:PE X e te):PO X (some e) (HB te):=by
 intro pins s σ H Q I hw
 rw[evalPart_some]
 refine bD (h pins s σ H _ I hw) fun u s1 ⟨x,H1,I1,r1,q1⟩=>?_
 obtain⟨i,rfl,q⟩:=q1
 obtain⟨t,rfl⟩:=r1
 exact⟨some i,H1,I1,.int i t,q⟩
noncomputable def zG(X:Cx)(r:V→Option Int→Option Int→Hp→VK→Prop):Prop:=
 ∀(pins:List (Addr×Obj)) (s:Shared) (σ:St) (H:Hp) (x:V) (v vl vu:Value) (lo hi:Option Int) (sl:Addr) (Q:VK),Inv X pins σ H s→RelV x v→s.heap.IsSliceOf sl vl vu .none→IsPart vl lo→IsPart vu hi→r x lo hi H Q→
  ∃T id,typeLookup (.type T) "__getitem__"=pure (some (.builtin id))∧s.TypeIs v T∧wpAny (model X.prog X.w) X.A (getItem v (.ref sl)) (EP X pins σ Q) X.xe s
noncomputable def J5(r:V→Option Int→Option Int→Hp→VK→Prop)(te:TE)(tl th:TO):TE:=fun σ H Q=>te σ H fun x H1=>tl σ H1 fun l H2=>th σ H2 fun u H3=>r x l u H3 Q
theorem AY{r:V→Option Int→Option Int→Hp→VK→Prop}(hr:zG X r)(he:PE X e te)(hl:PO X lo tl)(hu:PO X hi th):PE X (.Subscript e (.Slice lo hi none p2) pos) (J5 r te tl th):=by
 intro pins s σ H Q I h
 refine Subscript_ (bD (he pins s σ H _ I h) fun v s1 ⟨x,H1,I1,r1,q1⟩=>?_)
 refine wpAny_Slice (bD (hl pins s1 σ H1 _ I1 q1) fun vl s2 ⟨l,H2,I2,pl,q2⟩=>bD (hu pins s2 σ H2 _ I2 q2) fun vu s3 ⟨u,H3,I3,pu,q3⟩=>?_)
 rw[evalPart_none]
 refine wpAny_pure ?_
 have I4:Inv X pins σ H3 {s3 with heap:=s3.heap.push {cls:= .type "slice",data:= .fields #[vl,vu,.none]}}:=I3.kept (t':=s3.toks) fun b ob q=>Heap.get?_push_of_some _ q
 obtain⟨T,id,hT,ht,hg⟩:=hr pins {s3 with heap:=s3.heap.push {cls:= .type "slice",data:= .fields #[vl,vu,.none]}} σ H3 x v vl vu l u s3.heap.objs.size Q I4 r1 (Heap.IsSliceOf.new ..) pl pu q3
 show wpAny (model X.prog X.w) X.A (subscriptTail e (.Slice lo hi none p2) v (.ref s3.heap.objs.size)) (EP X pins σ Q) X.xe {s3 with heap:=s3.heap.push {cls:= .type "slice",data:= .fields #[vl,vu,.none]}}
 exact tail_any (ops:=[.ref s3.heap.objs.size,v]) ht hT hg (by with_unfolding_all rfl)
noncomputable def mK(xs:List V)(lo hi:Option Int):List V:=(xs.drop (HT.bL xs.length 0 lo)).take (HT.bL xs.length xs.length hi-HT.bL xs.length 0 lo)
theorem pG(xs:List V)(lo hi:Option Int):(mK xs lo hi).length≤xs.length:=by
 unfold mK
 rw[List.length_take,List.length_drop]
 omega
noncomputable def Jr(K:PySem.W.Frag):V→Option Int→Option Int→Hp→VK→Prop:=fun x lo hi H Q=>∃a xs,x= .ref a∧ix K H a xs∧
 ¬(HT.bL xs.length 0 lo=0∧HT.bL xs.length xs.length hi=xs.length)∧∀p,H p=none→Q (.ref p) (upd H p (.tup (mK xs lo hi)))
theorem EJ:zG X (Jr X.K):=by
 intro pins s σ H x v vl vu lo hi sl Q I rx hs pl pu h
 obtain⟨a,xs,rfl,hx,hw,q⟩:=h
 cases rx
 obtain⟨its,r,ht,hz⟩:=I.tuple hx
 have hlen:its.toArray.size=xs.length:=by rw[List.size_toArray];exact r.length.symm
 refine⟨"tuple",_,PyProof.Rows.slot_tuple_getitem.lookup,ht.typeIs,?_⟩
 refine HT.pf ht hs pl pu (by rw[hlen];exact hw) ?_ (by rw[hlen];exact hz)
 rw[hlen]
 refine⟨.ref s.heap.objs.size,_,I.laid (t':=s.toks) (o:= .tup (mK xs lo hi)) (fun b ob q=>Heap.get?_push_of_some _ q) (Nat.le_refl _) ?_,rfl,q _ (I.aT.fresh (Nat.le_refl _))⟩
 exact⟨Nat.le_trans (pG xs lo hi) hz,_,(r.drop (HT.bL xs.length 0 lo)).take (HT.bL xs.length xs.length hi-HT.bL xs.length 0 lo),IsTup.new _ _⟩
noncomputable def GX(K:PySem.W.Frag):R2:=fun x y H Q=>∃a b xs ys,x= .ref a∧y= .ref b∧ix K H a xs∧ix K H b ys∧xs≠ []∧xs.length+ys.length≤sizeLine∧
 (ys=[]→Q (.ref a) H)∧(ys≠ []→∀p,H p=none→Q (.ref p) (upd H p (.tup (xs++ys))))
theorem Vals.oQ{xs:List V}{us:List Value}(r:Vals xs us):us=[]↔xs=[]:=by
 cases r with
 |nil=>simp
 |cons _ _=>simp
theorem Dd:bR X (binaryOp .Add) (GX X.K):=by
 intro pins s σ H x y v u Q I rx ry h
 obtain⟨a,b,xs,ys,rfl,rfl,ha,hb,hx,hz,q1,q2⟩:=h
 cases rx
 cases ry
 obtain⟨its,r1,p1,_⟩:=I.tuple ha
 obtain⟨its2,r2,p2,_⟩:=I.tuple hb
 refine HT.DR p1 p2 (fun z=>hx (r1.oQ.mp z)) (fun z=>⟨.ref a,H,I,rfl,q1 (r2.oQ.mp z)⟩) (fun z=>?_) (by rw[←r1.length,←r2.length];exact hz)
 refine⟨.ref s.heap.objs.size,_,I.laid (t':=s.toks) (o:= .tup (xs++ys)) (fun b ob q=>Heap.get?_push_of_some _ q) (Nat.le_refl _) ?_,rfl,q2 (fun w=>z (r2.oQ.mpr w)) _ (I.aT.fresh (Nat.le_refl _))⟩
 exact⟨by rw[List.length_append];exact hz,_,r1.append r2,IsTup.new _ _⟩
end
end L2
namespace L2
open PySem PySem.Spec PyProof.Rows
noncomputable def jA(n:Nat)(i:Int):Option Nat:=if 0≤i then(if i<n then some i.toNat else none)else if-(n:Int)≤i then some (i+n).toNat else none
noncomputable def dY{α:Type}(xs:List α)(i:Int):Option α:=(jA xs.length i).bind fun j=>xs[j]?
theorem rW{n:Nat}{i:Int}{j:Nat}(h:jA n i=some j):seqIndex? i n=some j∧j<n∧ -(n:Int)≤i∧i<n:=by
 unfold jA at h
 by_cases h0:0≤i
 · rw[if_pos h0]at h
   by_cases h1:i<n
   · rw[if_pos h1]at h
     have e:i.toNat=j:=Option.some.inj h
     exact⟨by rw[seqIndex_of h0 h1,e],by omega,by omega,h1⟩
   · rw[if_neg h1]at h;cases h
 · rw[if_neg h0]at h
   by_cases h1: -(n:Int)≤i
   · rw[if_pos h1]at h
     have e:(i+n).toNat=j:=Option.some.inj h
     exact⟨by rw[seqIndex_neg (by omega) h1,e],by omega,h1,by omega⟩
   · rw[if_neg h1]at h;cases h
theorem so{α:Type}{xs:List α}{i:Int}{v:α}(h:dY xs i=some v):∃j,seqIndex? i xs.length=some j∧xs[j]?=some v∧j<xs.length∧ -(xs.length:Int)≤i∧i<xs.length:=by
 unfold dY at h
 cases e:jA xs.length i with
 |none=>rw[e]at h;cases h
 |some j=>
  rw[e]at h
  obtain⟨h1,h2,h3,h4⟩:=rW e
  exact⟨j,h1,h,h2,h3,h4⟩
theorem gR{α:Type}{xs:List α}{j:Nat}{v:α}(h:xs[j]?=some v):dY xs (j:Int)=some v:=by
 have hj:j<xs.length:=(List.getElem?_eq_some_iff.mp h).1
 have e:jA xs.length (j:Int)=some j:=by
  unfold jA
  rw[if_pos (by omega),if_pos (by omega)];simp
 unfold dY;rw[e];exact h
theorem An{α:Type}(xs:List α)(v:α):dY (xs++[v]) (-1)=some v:=by
 have hl:(xs++[v]).length=xs.length+1:=by simp
 have e:jA (xs++[v]).length (-1)=some xs.length:=by
  unfold jA
  rw[hl,if_neg (by decide),if_pos (by omega)]
  congr 1
  omega
 unfold dY
 rw[e]
 show(xs++[v])[xs.length]?=some v
 simp
noncomputable def oy(b:Expr):Prop:=∀o i,subscripted b false o i=operate [o,i] (getItem o i)
noncomputable def Ci(X:Cx)(r:R2):Prop:=
 ∀(value slice:Expr) (pins:List (Addr×Obj)) (s:Shared) (σ:St) (H:Hp) (x y:V) (v u:Value) (Q:VK),Inv X pins σ H s→RelV x v→RelV y u→r x y H Q→
  subscripted slice false v u=operate [v,u] (getItem v u)→wpAny (model X.prog X.w) X.A (subscriptTail value slice v u) (EP X pins σ Q) X.xe s
noncomputable def IY(X:Cx)(id:String)(r:V→List V→Hp→VK→Prop):Prop:=
 ∀(pins:List (Addr×Obj)) (s:Shared) (σ:St) (H:Hp) (x:V) (xs:List V) (v:Value) (us:List Value) (Q:VK),Inv X pins σ H s→RelV x v→Vals xs us→r x xs H Q→
  wpAny (model X.prog X.w) X.A (call (.builtin id) (v::us)) (EP X pins σ Q) X.xe s
section
variable {X:Cx}{a b:Expr}{ta tb:TE}{pos:Pos}
theorem Ir{r:R2}(hr:Ci X r)(ha:PE X a ta)(hb:PE X b tb)(hs:oy b):PE X (.Subscript a b pos) (zx r ta tb):=by
 intro pins s σ H Q I h
 exact Subscript_ (AN ha hb I h fun v u s2 x y H2 I2 rx ry q=>hr a b pins s2 σ H2 x y v u Q I2 rx ry q (hs _ _))
noncomputable def JU(K:PySem.W.Frag):R2:=fun x y H Q=>∃p xs i v,x= .ref p∧y= .int i∧j4 K H p xs∧dY xs i=some v∧Q v H
noncomputable def Jk(K:PySem.W.Frag):R2:=fun x y H Q=>∃p xs i v,x= .ref p∧y= .int i∧ix K H p xs∧dY xs i=some v∧Q v H
theorem vZ:Ci X (JU X.K):=by
 intro value slice pins s σ H x y v u Q I rx ry h hs
 obtain⟨p,xs,i,z,rfl,rfl,hq,he,q⟩:=h
 cases rx
 obtain⟨t,rfl⟩:=ry
 obtain⟨its,r,pl,hz⟩:=I.list hq
 obtain⟨j,h1,h2,h3,h4,h5⟩:=so he
 obtain⟨w,ew,rw'⟩:=r.get h2
 have hl:=r.length
 have hn:=mx
 have fin:EP X pins σ Q w s:=⟨z,H,I,rw',q⟩
 by_cases h0:0≤i
 · have hj:i.toNat=j:=by
    rw[seqIndex_of h0 h5]at h1
    exact Option.some.inj h1
   exact item_listR pl.isList h0 (by omega) (by rw[hj];simpa using ew) fin hs
 · have hj:(i+(its.toArray.size:Int)).toNat=j:=by
    rw[seqIndex_neg (by omega) h4]at h1
    rw[List.size_toArray,←hl]
    exact Option.some.inj h1
   exact subscriptTail_builtinR (x:=w) pl.isList.typeIs slot_list_getitem.lookup
    (wpAny_getItem_list_neg (Q:=fun r s'=>r=w∧EP X pins σ Q r s') pl.isList (by omega) (by rw[List.size_toArray]<;>omega) (by omega) (by rw[hj];simpa using ew) ⟨rfl,fin⟩) hs
theorem Gs:Ci X (Jk X.K):=by
 intro value slice pins s σ H x y v u Q I rx ry h hs
 obtain⟨p,xs,i,z,rfl,rfl,hq,he,q⟩:=h
 cases rx
 obtain⟨t,rfl⟩:=ry
 obtain⟨its,r,pl,hz⟩:=I.tuple hq
 obtain⟨j,h1,h2,h3,h4,h5⟩:=so he
 obtain⟨w,ew,rw'⟩:=r.get h2
 have hl:=r.length
 have hn:=mx
 have fin:EP X pins σ Q w s:=⟨z,H,I,rw',q⟩
 exact subscriptTail_builtinR (x:=w) pl.typeIs slot_tuple_getitem.lookup
  (getItem_tuple (j:=j) (Q:=fun r s'=>r=w∧EP X pins σ Q r s') pl (by omega) (by omega) (by rw[List.size_toArray,←hl];exact h1) (by simpa using ew) ⟨rfl,fin⟩) hs
theorem xY(its:List Value)(n j:Nat)(u:Value):Obj.mapSeq (·.setIfInBounds j u) {cls:= .type "list",data:= .seq its.toArray n}= {cls:= .type "list",data:= .seq (its.set j u).toArray n}:=by
 simp[Obj.mapSeq]
theorem Inv.lst{pins:List (Addr×Obj)}{σ:St}{H:Hp}{s:Shared}{p:Addr}{xs:List V}(I:Inv X pins σ H s)(h:H p=some (.lst xs)):
 ∃(its:List Value) (n:Nat),Vals xs its∧s.heap.get? p=some {cls:= .type "list",data:= .seq its.toArray n}∧xs.length≤sizeLine:=by
 obtain⟨z,its,n,r,e⟩:=I.aT p _ h
 exact⟨its,n,r,e,z⟩
theorem Inv.Gu{pins:List (Addr×Obj)}{σ:St}{H:Hp}{s:Shared}{p:Addr}{xs ys:List V}{its its':List Value}{n n':Nat}{f:Obj→Obj}(I:Inv X pins σ H s)(h:H p=some (.lst xs))
 (ho:s.heap.get? p=some {cls:= .type "list",data:= .seq its.toArray n}) (hf:f {cls:= .type "list",data:= .seq its.toArray n}= {cls:= .type "list",data:= .seq its'.toArray n'}) (r:Vals ys its') (hz:ys.length≤sizeLine) (t:Nat):
 Inv X pins σ (upd H p (.lst ys)) {s with heap:=s.heap.update p f,toks:=t}:=by
 have e:(s.heap.update p f).get? p=some {cls:= .type "list",data:= .seq its'.toArray n'}:=by
  rw[Heap.get?_update_self f ho (by rw[hf]<;>rfl),hf]
 refine I.write (x:=p) (e:=p) (by rw[h];trivial) (.inl rfl) (fun b u hb q=>(Heap.get?_update_other _ _ (Ne.symm hb)).trans q) ⟨_,e⟩ ?_
 exact⟨hz,its',n',r,e⟩
noncomputable def tF:V→V→V→Hp→(Hp→Prop)→Prop:=fun o i v H Q=>∃p xs k j,o= .ref p∧i= .int k∧H p=some (.lst xs)∧jA xs.length k=some j∧Q (upd H p (.lst (xs.set j v)))
theorem set_list:Bp X tF:=by
 intro pins s σ H o i v ov iv u Q I ro ri rv h
 obtain⟨p,xs,k,j,rfl,rfl,hp,hj,q⟩:=h
 cases ro
 obtain⟨t,rfl⟩:=ri
 obtain⟨its,n,r,ho,hz⟩:=I.lst hp
 obtain⟨h1,h2,h3,h4⟩:=rW hj
 have hl:=r.length
 have hn:=mx
 have I':Inv X pins σ (upd H p (.lst (xs.set j v))) {s with heap:=s.heap.update p (Obj.mapSeq (·.setIfInBounds j u))}:=
  I.Gu hp ho (xY its n j u) (r.set rv j) (by rw[List.length_set];exact hz) s.toks
 by_cases h0:0≤k
 · have hk:k.toNat=j:=by
    rw[seqIndex_of h0 h4]at h1
    exact Option.some.inj h1
   exact PySem.W.ki_setAt ho h0 (by omega) (by rw[List.size_toArray,←hl];exact h4) (by rw[hk];exact⟨_,I',q⟩)
 · have hk:(k+(its.toArray.size:Int)).toNat=j:=by
    rw[seqIndex_neg (by omega) h3]at h1
    rw[List.size_toArray,←hl]
    exact Option.some.inj h1
   exact PySem.W.ki_setBack ho (by omega) (by rw[List.size_toArray,←hl];exact h3) (by omega) (by rw[hk];exact⟨_,I',q⟩)
theorem u6(lo hi:Option Int)(n:Nat):(sliceBounds lo hi none n).1=((HT.bL n 0 lo:Nat):Int)∧(sliceBounds lo hi none n).2.1=((HT.bL n n hi:Nat):Int)∧(sliceBounds lo hi none n).2.2=1:=by
 refine⟨?_,?_,rfl⟩
 · cases lo with
   |none=>simp[sliceBounds,HT.bL]
   |some i=>
    simp only[sliceBounds,HT.bL,Option.getD_none,show(1:Int)>0 by decide,if_true]
    by_cases h:i<0
    · simp only[h,if_true]<;>omega
    · simp only[h,if_false]<;>omega
 · cases hi with
   |none=>simp[sliceBounds,HT.bL]
   |some i=>
    simp only[sliceBounds,HT.bL,Option.getD_none,show(1:Int)>0 by decide,if_true]
    by_cases h:i<0
    · simp only[h,if_true]<;>omega
    · simp only[h,if_false]<;>omega
theorem tx(its:List Value)(lo hi:Option Int):slicePick its.toArray lo hi none=((its.drop (HT.bL its.length 0 lo)).take (HT.bL its.length its.length hi-HT.bL its.length 0 lo)).toArray:=by
 obtain⟨h1,h2,h3⟩:=u6 lo hi its.toArray.size
 unfold slicePick
 rw[h1,h2,h3]
 simp only[sliceRange_one,pick_run,List.size_toArray]<;>rfl
noncomputable def Jm(K:PySem.W.Frag):V→Option Int→Option Int→Hp→VK→Prop:=fun x lo hi H Q=>∃a xs,x= .ref a∧j4 K H a xs∧∀p,H p=none→Q (.ref p) (upd H p (.lst (mK xs lo hi)))
theorem vT:zG X (Jm X.K):=by
 intro pins s σ H x v vl vu lo hi sl Q I rx hs pl pu h
 obtain⟨a,xs,rfl,hx,q⟩:=h
 cases rx
 obtain⟨its,r,ht,hz⟩:=I.list hx
 have hlen:=r.length
 refine⟨"list",_,slot_list_getitem.lookup,ht.isList.typeIs,?_⟩
 refine wpAny_getItem_list_slice ht.isList hs pl pu .none (by simp) ?_ (by rw[List.size_toArray]<;>omega)
 rw[tx,←hlen]
 refine⟨.ref s.heap.objs.size,_,I.laid (t':=s.toks) (o:= .lst (mK xs lo hi)) (fun b ob q=>Heap.get?_push_of_some _ q) (Nat.le_refl _) ?_,rfl,q _ (I.aT.fresh (Nat.le_refl _))⟩
 exact⟨Nat.le_trans (pG xs lo hi) hz,_,0,(r.drop (HT.bL xs.length 0 lo)).take (HT.bL xs.length xs.length hi-HT.bL xs.length 0 lo),Heap.get?_push_size _ rfl⟩
theorem vh:cn X (.builtin "len") (fun xs H Q=>∃p ys,xs=[.ref p]∧(j4 X.K H p ys∨ix X.K H p ys)∧Q (.int ys.length) H):=by
 intro pins s σ H xs us Q I r h
 obtain⟨p,ys,rfl,hq,q⟩:=h
 obtain⟨u,rfl,rx⟩:=vals1 r
 cases rx
 have hn:=mx
 rcases hq with hq|hq
 · obtain⟨its,r',pl,hz⟩:=I.list hq
   have hlen:=r'.length
   exact Calls.call_len_list pl.isList (by simp only[List.size_toArray]<;>omega) ⟨.int ys.length,H,I.tok _,⟨s.toks+1,by rw[List.size_toArray,hlen]⟩,q⟩
 · obtain⟨its,r',pl,hz⟩:=I.tuple hq
   have hlen:=r'.length
   exact len_tuple pl (by simp only[List.size_toArray]<;>omega) ⟨.int ys.length,H,I.tok _,⟨s.toks+1,by rw[List.size_toArray,hlen]⟩,q⟩
theorem va:cn X (.builtin "len") (fun xs H Q=>∃z,xs=[.str z]∧z.length≤sizeLine∧Q (.int z.length) H):=by
 intro pins s σ H xs us Q I r h
 obtain⟨z,rfl,hz,q⟩:=h
 obtain⟨u,rfl,t,rfl⟩:=vals1 r
 have hn:=mx
 exact len_str (by omega) ⟨.int z.length,H,I.tok _,⟨_,rfl⟩,q⟩
theorem nH:cn X (.type "list") (fun xs H Q=>∃p ys,xs=[.ref p]∧(j4 X.K H p ys∨ix X.K H p ys)∧∀l,H l=none→Q (.ref l) (upd H l (.lst ys))):=by
 intro pins s σ H xs us Q I r h
 obtain⟨p,ys,rfl,hq,q⟩:=h
 obtain⟨u,rfl,rx⟩:=vals1 r
 cases rx
 have fin:∀(its:List Value),Vals ys its→ys.length≤sizeLine→∀(h':Heap) (c':Nat),(∀b o',s.heap.get? b=some o'→h'.get? b=some o')→
  h'.get? s.heap.objs.size=some {cls:= .type "list",dict:=none,data:= .seq its.toArray c',slots:= #[]}→EP X pins σ Q (.ref s.heap.objs.size) {s with heap:=h'}:=fun its r' hz h' c' kp e=>
  ⟨.ref s.heap.objs.size,_,I.laid (t':=s.toks) kp (Nat.le_refl _) (show gi X.prog X.w _ h' _ (.lst ys)from⟨hz,its,c',r',e⟩),rfl,q _ (I.aT.fresh (Nat.le_refl _))⟩
 rcases hq with hq|hq
 · obtain⟨its,r',pl,hz⟩:=I.list hq
   have hlen:=r'.length
   obtain⟨o,ho,hc,n,hd⟩:=pl.isList
   exact call_list_seq p (.inl rfl) ho hc hd (fun h' c' kp e=>fin its r' hz h' c' kp e) (by simp only[List.size_toArray]<;>omega)
 · obtain⟨its,r',pl,hz⟩:=I.tuple hq
   have hlen:=r'.length
   obtain⟨o,ho,hc,n,hd⟩:=pl
   exact call_list_seq p (.inr rfl) ho hc hd (fun h' c' kp e=>fin its r' hz h' c' kp e) (by simp only[List.size_toArray]<;>omega)
theorem tu:cn X (.type "tuple") (fun xs H Q=>∃p ys,xs=[.ref p]∧((j4 X.K H p ys∧∀l,H l=none→Q (.ref l) (upd H l (.tup ys)))∨(ix X.K H p ys∧Q (.ref p) H))):=by
 intro pins s σ H xs us Q I r h
 obtain⟨p,ys,rfl,h⟩:=h
 obtain⟨u,rfl,rx⟩:=vals1 r
 cases rx
 rcases h with⟨hq,q⟩|⟨hq,q⟩
 · obtain⟨its,r',pl,hz⟩:=I.list hq
   have hlen:=r'.length
   refine call_tuple_list pl.isList (fun h' kp=>?_) (by simp only[List.size_toArray]<;>omega)
   have I1:Inv X pins σ H {s with heap:=h'}:=I.kept (t':=s.toks) kp
   have I2:Inv X pins σ (upd H h'.objs.size (.tup ys)) {s with heap:=h'.push {cls:= .type "tuple",data:= .seq its.toArray}}:=
    I1.laid (t':=s.toks) (fun b o e=>Heap.get?_push_of_some _ e) (Nat.le_refl _) (show gi X.prog X.w _ _ _ (.tup ys)from⟨hz,its,r',IsTup.new _ _⟩)
   exact⟨.ref h'.objs.size,_,I2,rfl,q _ (I1.aT.fresh (Nat.le_refl _))⟩
 · obtain⟨its,r',pl,hz⟩:=I.tuple hq
   exact call_tuple_same pl ⟨.ref p,H,I,rfl,q⟩
noncomputable def IM(K:PySem.W.Frag)(T:String)(x:V)(H:Hp):Prop:=match x with
 | .str _=>T="str"
 | .int _=>T="int"
 | .ref p=>(T="list"∧∃xs,j4 K H p xs)∨(T="tuple"∧∃o,K.lookup p=some o∧o.cls= .type "tuple"∧o.dict=none)∨
    (T="dict"∧((∃kvs,H p=some (.dK kvs))∨∃kvs,H p=some (.dT kvs)))∨(T="set"∧∃S n,H p=some (.set S n))
 |_=>False
theorem EC{pins:List (Addr×Obj)}{σ:St}{H:Hp}{s:Shared}{T:String}{x:V}{v:Value}(I:Inv X pins σ H s)(r:RelV x v)(ty:IM X.K T x H):
 s.TypeIs v T∧∀a,v= .ref a→∃ob,s.heap.get? a=some ob∧ob.dict=none:=by
 cases x with
 |str z=>
  obtain⟨t,rfl⟩:=r
  cases (show T="str" from ty)
  exact⟨typeIs_str s z t,fun _ e=>nomatch e⟩
 |int i=>
  obtain⟨t,rfl⟩:=r
  cases (show T="int" from ty)
  exact⟨typeIs_int s i t,fun _ e=>nomatch e⟩
 |ref p=>
  cases r
  rcases ty with⟨rfl,xs,hq⟩|⟨rfl,o,hk,hc,hd⟩|⟨rfl,hk⟩|⟨rfl,S,n,hk⟩
  · obtain⟨its,_,pl,_⟩:=I.list hq
    refine⟨pl.isList.typeIs,fun a e=>?_⟩
    cases e
    obtain⟨o,n,e,c,hd,_⟩:=pl
    exact⟨o,e,hd⟩
  · refine⟨⟨o,I.lE p o hk,hc⟩,fun a e=>?_⟩
    cases e
    exact⟨o,I.lE _ o hk,hd⟩
  · have z:∃o,s.heap.get? p=some o∧o.ExactDict:=by
     rcases hk with⟨kvs,hk⟩|⟨kvs,hk⟩
     · obtain⟨_,_,_,_,o,_,_,e,ex,_⟩:=I.aT p _ hk
       exact⟨o,e,ex⟩
     · obtain⟨_,_,_,_,o,_,_,e,ex,_⟩:=I.aT p _ hk
       exact⟨o,e,ex⟩
    obtain⟨o,e,ex⟩:=z
    refine⟨⟨o,e,ex.1⟩,fun a e2=>?_⟩
    cases e2
    exact⟨o,e,ex.2.1⟩
  · obtain⟨o,_,_,_,e,ex,_⟩:=I.aT p _ hk
    refine⟨⟨o,e,ex.1⟩,fun a e2=>?_⟩
    cases e2
    exact⟨o,e,ex.2.1⟩
 |_=>exact False.elim ty
noncomputable def IL(K:PySem.W.Frag)(T:String)(r:V→List V→Hp→VK→Prop)(to:TE)(t:TA):TE:=fun σ H Q=>to σ H fun x H1=>IM K T x H1∧t σ H1 fun xs H2=>r x xs H2 Q
variable {o e:Expr}{es:List Expr}{to:TE}{t:TA}{name:Str}{apos cpos:Pos}{T id:String}{r:V→List V→Hp→VK→Prop}
theorem HZ(pa:PlainAttrs T)(slot:Slot T name id)(hty:typeOf (.builtin id)=pure (.type "method_descriptor"))(hm:IY X id r)(ho:PE X o to)(ha:PA X (e::es) t)
 (hbase:attributeBase o name X.env (eval o X.env)=eval o X.env:=by rfl)
 (hfew:((backTo cpos (starEach (e::es) X.env)).all (fun x=> !x.1)&&(backToKw cpos (keywordEach [] X.env)).all (fun x=>x.1.isSome)
   &&decide ((e::es).length+([]:List Keyword).length+(if([]:List Keyword).isEmpty then 0 else 1)<30))=true:=by rfl)
 (hline:(apos.endLine==cpos.line)=true:=by rfl) (hs:starEach (e::es) X.env=(false,eval e X.env)::starEach es X.env:=by rfl) (hplain:(backTo cpos (starEach es X.env)).any (·.1)=false:=by rfl):
 PE X (.Call (.Attribute o name apos) (e::es) [] cpos) (IL X.K T r to t):=by
 intro pins s σ H Q I h
 refine wpAny_Call_method_late hbase hfew hline rfl (bD (ho pins s σ H _ I h) fun v s1 ⟨x,H1,I1,r1,ty,q1⟩=>?_)
 obtain⟨h1,h2⟩:=EC I1 r1 ty
 refine⟨T,id,pa,slot,hty,h1,h2,?_⟩
 have hA:=ha cpos pins s1 σ H1 _ I1 q1
 rw[hs]at hA⊢
 refine Calls.callWith_builtin (by show(false||(backTo cpos (starEach es X.env)).any (·.1))=false;rw[hplain]<;>rfl) (Calls.evalArgs_plain ?_)
 exact bD hA fun us s2 ⟨vs,H2,I2,r2,q2⟩=>hm pins s2 σ H2 x vs v us Q I2 r1 r2 q2
/-xs.append(e),list.index on a module's tuple .. are IY facts of 06m-/
end
end L2
namespace L2
open PySem PySem.Spec PyProof.Rows
noncomputable def J4(X:Cx)(id:String)(r:V→List V→Hp→VK→Prop):Prop:=
 ∀(pins:List (Addr×Obj)) (s:Shared) (σ:St) (H:Hp) (x:V) (xs:List V) (v:Value) (us:List Value) (Q:VK),Inv X pins σ H s→RelV x v→Vals xs us→r x xs H Q→
  wpAny (model X.prog X.w) X.A (call (.builtin id) (v::us)) (EP X pins σ Q) X.xe s
theorem Vals.one:∀ {x:V} {us:List Value},Vals [x] us→∃u,us=[u]∧RelV x u
 |_,_,.cons r .nil=>⟨_,rfl,r⟩
theorem Vals.rep{xs:List V}{us:List Value}(h:Vals xs us):∀k:Nat,Vals (List.replicate k xs).flatten (List.replicate k us).flatten
 |0=> .nil
 |k+1=>by
  rw[List.replicate_succ,List.replicate_succ,List.flatten_cons,List.flatten_cons]
  exact Vals.append h (Vals.rep h k)
theorem foldl_rep(its:List Value):∀(k:Nat) (acc:List Value),
 List.foldl (fun x1 x2=>x1++x2) acc.toArray (List.replicate k its.toArray)=(acc++(List.replicate k its).flatten).toArray
 |0,acc=>by simp
 |k+1,acc=>by
  have e:acc.toArray++its.toArray=(acc++its).toArray:=by simp
  have e2:(acc++its)++(List.replicate k its).flatten=acc++(List.replicate (k+1) its).flatten:=by
   rw[List.replicate_succ,List.flatten_cons,List.append_assoc]
  rw[←e2,←foldl_rep its k (acc++its),←e,List.replicate_succ,List.foldl_cons]
section
variable {X:Cx}{pins:List (Addr×Obj)}{σ:St}{H:Hp}{s:Shared}{l b:Addr}{xs ys zs:List V}
theorem Inv.Jg{its its':List Value}{n:Nat}{f:Array Value→Array Value}{t':Nat}(I:Inv X pins σ H s)(hH:H l=some (.lst xs))
 (e:s.heap.get? l=some {cls:= .type "list",data:= .seq its.toArray n}) (hf:f its.toArray=its'.toArray) (hv:Vals ys its') (hz:ys.length≤sizeLine):
 Inv X pins σ (upd H l (.lst ys)) {s with heap:=s.heap.update l (Obj.mapSeq f),toks:=t'}:=by
 have q:=PySem.IsL.update e f
 rw[hf]at q
 refine I.write (x:=l) (e:=l) (by rw[hH];exact trivial) (.inl rfl) (fun b' u hb hu=>(Heap.get?_update_other s.heap (Obj.mapSeq f) (Ne.symm hb)).trans hu) ⟨_,q⟩ ?_
 exact⟨hz,its',_,hv,q⟩
theorem Inv.Ak{its:List Value}{t':Nat}(I:Inv X pins σ H s)(hv:Vals ys its)(hz:ys.length≤sizeLine):
 Inv X pins σ (upd H s.heap.objs.size (.lst ys)) {s with heap:=s.heap.push {cls:= .type "list",data:= .seq its.toArray},toks:=t'}:=
 I.laid (fun _ _ q=>Heap.get?_push_of_some _ q) (Nat.le_refl _) ⟨hz,its,0,hv,Heap.get?_push_size _ rfl⟩
theorem Inv.fresh(I:Inv X pins σ H s):H s.heap.objs.size=none:=I.aT.fresh (Nat.le_refl _)
theorem Inv.Jn(I:Inv X pins σ H s)(hH:H l=some (.lst xs)):xs.length≤sizeLine∧∃(its:List Value) (n:Nat),Vals xs its∧xs.length=its.length∧s.heap.get? l=some {cls:= .type "list",data:= .seq its.toArray n}:=by
 obtain⟨z,its,n,r,e⟩:=I.aT l _ hH
 exact⟨z,its,n,r,r.length,e⟩
theorem Au{n:Nat}(h:n≤sizeLine):Builtin.List.listTooLong n=false:=by
 unfold Builtin.List.listTooLong
 exact decide_eq_false (by omega)
end
section
variable {X:Cx}
noncomputable def wG:V→List V→Hp→VK→Prop:=fun x vs H Q=>∃l xs y,x= .ref l∧vs=[y]∧H l=some (.lst xs)∧xs.length<sizeLine∧Q .aP (upd H l (.lst (xs++[y])))
theorem sQ:J4 X "list.append" wG:=by
 intro pins s σ H x vs v us Q I rx rv h
 obtain⟨l,xs,y,rfl,rfl,hH,hz,q⟩:=h
 cases rx
 obtain⟨u,rfl,ru⟩:=rv.one
 obtain⟨z,its,n,r,hl,e⟩:=I.Jn hH
 refine call_meets F.slot_list_append ⟨_,e,rfl⟩ F.entry_list_append (F.args_list_append_2 _ _) (PySem.list_append l its.toArray n u (by rw[List.size_toArray];omega)) ⟨e,?_⟩
 refine⟨.aP,_,I.Jg (its':=its++[u]) hH e (by simp) (r.append (.cons ru .nil)) ?_,rfl,q⟩
 rw[List.length_append,List.length_singleton]
 omega
theorem len_rep{α:Type}(xs:List α)(k:Nat):(List.replicate k xs).flatten.length=k*xs.length:=by
 induction k with
 |zero=>simp
 |succ k ih=>rw[List.replicate_succ,List.flatten_cons,List.length_append,ih,Nat.succ_mul,Nat.add_comm]
end
section
variable {prog:Program}{w:World}{A:Around}{E:Value→Shared→Prop}{s:Shared}
set_option maxRecDepth 100000 in
end
section
variable {X:Cx}
end
end L2
namespace Att
open PySem PySem.W PySem.Calls PyProof.Rows
theorem qJ{P:Params}{h:Heap}:∀(ns:List Int) (vs:List Value),WellAll P h vs (ns.map WData.int)→IntsAre vs ns:=by
 intro ns
 induction ns with
 |nil=>
  intro vs w
  rw[List.map_nil]at w
  cases w
  exact .nil
 |cons n ns ih=>
  intro vs w
  rw[List.map_cons]at w
  cases w with
  |cons a b=>
   cases a
   exact .cons _ _ (ih _ b)
theorem yW{l:OpenLaw}{n:Nat}(hn:l.most=some n){P:Params}{h:Heap}{args:List WData}{vals:List Value}
 (hpre:l.row.toRowW.claim.pre args=true) (hwl:WellAll P h vals args):
 ∃a vs ns,vals=[Value.ref a]∧args=[WData.list (ns.map WData.int)]∧h.get? a=some {cls:= .type "list",data:= .seq vs.toArray}∧IntsAre vs ns∧ns.length≤n:=by
 have hsh:WShape.hasAll [] args [.list .int]=true:=(pre_splitW hpre).1
 have hc:l.pre.holds [] {args:=args}=true:=(pre_splitW hpre).2
 obtain⟨d,r,rfl,h1,h2⟩:=hasAllW_cons hsh
 obtain rfl:=hasAllW_nil h2
 obtain⟨xs,rfl,h3⟩:=hasW_list h1
 obtain⟨ns,rfl⟩:=items_int h3
 have hlen:ns.length≤n:=by
  unfold OpenLaw.pre at hc
  have h4:(WTm.not (.lt (.lit (.int (n:Int))) (.len (.arg 0)))).holds [] {args:=[.list (ns.map .int)]}=true:=by
   have h4:=(holds_andW hc).1
   rw[hn]at h4
   exact h4
  have h5:=condW_of h4 (w_not (w_lt w_lit (w_len_list (w_arg rfl))))
  rw[List.length_map]at h5
  refine Nat.le_of_not_lt fun q=>?_
  have q':(n:Int)<((ns.length:Nat):Int):=by omega
  first
   |(rw[decide_eq_true q']at h5;exact absurd h5 (by decide))
   |(simp at h5;omega)
 cases hwl with
 |cons w1 w2=>
  cases w2
  cases w1 with
  |list ho hall=>exact⟨_,_,ns,rfl,rfl,ho,qJ ns _ hall,hlen⟩
theorem yE(l:OpenLaw)(args:List WData):l.row.toRowW.claim.post args (.bool true) args=true:=
 postW_of (r:=l.row.toRowW) (X:=(true==true))
  (show WShape.has [] (.bool true) .bool=true by first|rfl|decide|simp[WShape.has,WShape.arms,WShape.armsAll])
  (show(WTm.eq .res (.lit (.bool true))).value [] {args:=args,res:=some (.bool true),after:=args}=some (.bool (true==true))from w_eq_bool (w_res rfl) w_lit) rfl
theorem vw{l:OpenLaw}{n:Nat}{q:Program}{loose:List Str}{XP:(Str→Option Value)→Heap→Prop}{YP:World→Heap→Prop}{d:DefRec}
 (hn:l.most=some n) (hdf:d.params.defaults=[])
 (call:∀(w:World) (s₀ s₁:Shared) (mg mb:Str→Option Value) (fa:Addr) (o:Obj) (pm cd doc:Value) (a:Addr) (vs:List Value) (ns:List Int),
   Ground q loose [] XP w s₀ mg mb s₁.heap→YP w s₁.heap→
   s₁.heap.get? fa=some o→o.data= .func (docDef d.name d.params d.body d.scope pm cd doc)→s₁.heap.CodeRec cd d.name→mg d.name=some (.ref fa)→
   s₁.heap.get? a=some {cls:= .type "list",data:= .seq vs.toArray}→IntsAre vs ns→ns.length≤n→s₁.gens= #[]→
   codeAny (model l.prog w) callerA (.call (.ref fa) ⟨[.ref a],[]⟩) (fun r s'=>r= .ok (.ret (.bool true))∧OldK s₁.heap s'.heap∧s'.os=s₁.os∧AllBare s'.gens) s₁):
 WalkO q loose XP YP l.row.toRowW d [] (fun f vs=>PySem.call f vs):=by
 intro w s₀ s₁ mg mb G Y fa o pm cd doc dV kV ho hd hcd hD hmg hg args vals as hpre hlay hrd hwl hlo
 obtain rfl:dV= .none:=Dflts.none hD hdf
 obtain rfl:kV= .none:=Dflts.noKw hD
 obtain⟨a,vs,ns,rfl,rfl,hobj,hints,hlen⟩:=yW hn hpre hwl
 refine enter_call (codeAny_mono (call w s₀ s₁ mg mb fa o pm cd doc a vs ns G Y ho (fd_plain hd) hcd hmg hobj hints hlen hg) fun r s' hq=>?_)
 obtain⟨rfl,h2,h3,h4⟩:=hq
 exact⟨.inl ⟨.bool true,.bool true,[],rfl,fun _=>rfl,.bool true,yE l _,fun _=>⟨List.Pairwise.nil,fun _ hm=>(nomatch hm)⟩⟩,h2,h3,h4⟩
section
variable {prog:Program}{w:World}{A:Around}{E:Value→Shared→Prop}{s:Shared}{K:Frag}
end
end Att
namespace L2
open PySem PySem.Spec PyProof.Rows
theorem ly:∀ {vs:List Value} {ns:List Int},IntsAre vs ns→Vals (ns.map V.int) vs
 |_,_,.nil=> .nil
 |_,_,.cons n t h=> .cons ⟨t,rfl⟩ (ly h)
end L2
/-THE LAST THEOREM (shape;LID,My.*are yours):
 My.Adr:a structure of the addresses that your layer names (classes,functions);My.Txt K t:a structure (Prop) of the equations over K;
 My.txt_mk:{K} {implicit addresses ..} (e1:nsIn K mainGlobals "law"=some (some (.ref f))) (e2:K.lookup f=some ⟨oc,od,.func (fnOf "law" "law" params body scope dV kV doc pm an cdv ct),sl⟩) (e3:codeIn K cdv "law"=true) .. :∃t,My.Txt K t
set_option maxRecDepth 100000 in
set_option maxHeartbeats 0 in
(the tactic k_is has no namespace:write k_is)-/
namespace L2
open PySem PySem.Spec PyProof.Rows
noncomputable def inClass(s:Stmt)(j:Nat):Stmt:=match s with
 | .ClassDef _ _ _ body _ _ _ _ _ _ _=>body.getD j (.Pass ⟨0,0,0,0⟩)
 |_=> .Pass ⟨0,0,0,0⟩
noncomputable def aY(s:Stmt):Arguments:=match s with
 | .FunctionDef _ a _ _ _ _ _ _ _ _=>a
 |_=>{posonlyargs:=[],args:=[],vararg:=none,kwonlyargs:=[],kw_defaults:=[],kwarg:=none,defaults:=[]}
noncomputable def aV(s:Stmt):List Stmt:=match s with
 | .FunctionDef _ _ b _ _ _ _ _ _ _=>b
 |_=>[]
noncomputable def ah(s:Stmt):Scope:=match s with
 | .FunctionDef _ _ _ _ _ _ sc _ _ _=>sc
 |_=>{kind:= .function,names:=[],isGenerator:=false,isCoroutine:=false}
noncomputable abbrev aJ:pF:=fun _ _ _ _ _ _=>False
noncomputable abbrev E0:XK:=fun _ _ _=>False
theorem tH{X:Cx}:Passes aJ X E0:=fun _ _ _ _ _ _ _ h=>h.elim
structure mr(K:PySem.W.Frag)(x qual:Str)(st:Stmt)(f:Addr)(fd:FuncData):Prop where
 ex:∃(oc:Value) (od:Option Addr) (kV doc pm:Value) (an:Option Addr) (cdv ct:Value) (osl:Array (Option Value)),
  fd=PySem.W.fnOf x qual (aY st) (aV st) (ah st) .none kV doc pm an cdv ct∧K.lookup f=some ⟨oc,od,.func fd,osl⟩∧PySem.W.codeIn K cdv qual=true
 kp:PySem.W.keepIn K (.ref f)=true
section
variable {P:Program}{w:World}{K:PySem.W.Frag}{mg:Str→Option Value}{base:Heap}
theorem mr.ok{x qual:Str}{st:Stmt}{f:Addr}{fd:FuncData}{N ps:List Str}{k:Nat}{sp:Sp}(F:mr K x qual st f fd)(S:bf N ps (ah st))(len:∀vs H Q E,sp vs H Q E→vs.length=ps.length)
 (hbody:∀(cdv:Value) (A:Around) (outer:List Env) (s:Shared) (H:Hp) (vs:List V) (Q:VK) (E:XK),dm k (A.deeper (envOfC qual (ah st) s.heap.objs.size f cdv))→sp vs H Q E→
   ∃t,gv (nS aJ P w K mg base N qual (ah st) f cdv A outer s H E).uk (aV st) t∧t {nx:=fun _ H'=>Q .aP H',rt:=Q} (start N vs) H):ax P w K mg base aJ (k+1) f fd ps sp:=by
 obtain⟨oc,od,kV,doc,pm,an,cdv,ct,osl,rfl,lk,hcd⟩:=F.ex
 refine Hi lk hcd S len fun A outer s H vs Q E hr hsp=>?_
 obtain⟨t,h,q⟩:=hbody cdv A outer s H vs Q E hr hsp
 exact⟨t,h.uk,q⟩
theorem mr.binds{x qual:Str}{st:Stmt}{f:Addr}{fd:FuncData}{ps:List Str}(F:mr K x qual st f fd)
 (h:∀(kV doc pm:Value) (an:Option Addr) (cdv ct:Value) (us:List Value),us.length=ps.length→bindArgs (PySem.W.fnOf x qual (aY st) (aV st) (ah st) .none kV doc pm an cdv ct) ⟨us,[]⟩=pure (ps.zip us)):Binds K fd ps []:=by
 obtain⟨oc,od,kV,doc,pm,an,cdv,ct,osl,rfl,lk,hcd⟩:=F.ex
 exact .all (h kV doc pm an cdv ct)
theorem bS{x qual:Str}{st:Stmt}{f:Addr}{oc:Value}{od an:Option Addr}{osl:Array (Option Value)}{kV doc pm cdv ct:Value}(l:K.lookup f=some ⟨oc,od,.func (PySem.W.fnOf x qual (aY st) (aV st) (ah st) .none kV doc pm an cdv ct),osl⟩)
 (c:PySem.W.codeIn K cdv qual=true) (k:PySem.W.keepIn K (.ref f)=true):mr K x qual st f (PySem.W.fnOf x qual (aY st) (aV st) (ah st) .none kV doc pm an cdv ct):=⟨⟨oc,od,kV,doc,pm,an,cdv,ct,osl,rfl,l,c⟩,k⟩
end
section
variable {X:Cx}
end
theorem jo{A B:Prop}(h:A):if true=true then A else B:=by
 rw[if_pos rfl]
 exact h
noncomputable def Bk(H H':Hp):Prop:=∀b o,H b=some o→H' b=some o
end L2
set_option maxHeartbeats 4000000
namespace Hd
open PySem PySem.W PySem.Calls PyProof.Rows
noncomputable def bt (P:Params):BT:=(.node (boot_o_0 P) (.node (boot_o_1 P) (.node (boot_o_3 P) (.node (boot_o_7 P) .nil .nil) .nil) (.node (boot_o_5 P) (.node (boot_o_9 P) .nil .nil) .nil)) (.node (boot_o_2 P) (.node (boot_o_4 P) (.node (boot_o_8 P) .nil .nil) .nil) (.node (boot_o_6 P) (.node (boot_o_10 P) .nil .nil) .nil)))
theorem FT(P:Params):absHeap (bt P) 11 (boot_heap P).life=boot_heap P:=by kernel_rfl
noncomputable def run (p:Program) (w:World) (n:Nat) (ann:Option Value):Nat→SharedT→Thread→Option SharedT
 |0,_,_=>none
 |k+1,s,t=>match through t with
  |true=>some s
  |false=>match Fast.tw6613529449190102663 n ann t with
   |false=>none
   |true=>match Fast.tw10156331382660048174 (Fast.tw11892475500146522536 Fast.tw14364793385576792824) p w s t with
    |some (s',t')=>run p w n ann k s' t'
    |none=>none
theorem zJ{p:Program}{w:World}{n:Nat}{ann:Option Value}:∀ {k:Nat} {s s':SharedT} {t:Thread},run p w n ann k s t=some s'→topRun treeTable p w n ann k s.abs t=some s'.abs
 |0,_,_,_,h=>by cases h
 |k+1,s,s',t,h=>by
  unfold run at h
  unfold topRun
  cases he:through t with
  |true=>rw[he]at h;cases h;rfl
  |false=>
   rw[he]at h
   rw[←Fast.te6613529449190102663,←Fast.te10156331382660048174,←Fast.te11892475500146522536,←Fast.te14364793385576792824]at h
   cases hk:stepOk n ann t with
   |false=>simp only[hk]at h;cases h
   |true=>
    simp only[hk]at h
    cases hs:stepT (denote treeTable) p w s t with
    |none=>rw[hs]at h;cases h
    |some r=>obtain⟨s2,t2⟩:=r;rw[hs]at h;rw[stepT_spec hs];exact zJ h
noncomputable def b0 (w:World) (os:OsState):SharedT:=⟨bt w.params,11,(boot_heap w.params).life,⟨[]⟩,boot_drawn,boot_toks,os⟩
theorem Ek(w:World)(os:OsState):(b0 w os).abs=⟨boot_heap w.params,⟨[]⟩,boot_drawn,boot_toks,os⟩:=by
 unfold b0 SharedT.abs
 dsimp only
 rw[FT]
theorem left{p q:Program}{loose:List Str}{α:Type}{Yf:Shared→α}{Ya:World→α}{N:Nat}
 (e:opening p=plainProg p.main.scope.names) (f:∀s,fenceModules? p s=some s) (hN:Nat.ble 600 N=true)
 (h:∀(w:World) (os:OsState),(run p w 11 (some (.ref 6)) N (b0 w os) (topStub p)).bind (fun s=>match staticsOk (importedModules p.main.body) (boot_heap w.params) s.abs.heap&&namesBound p s.abs.heap&&gensDone s.abs&&laidKept (boot_heap w.params) s.abs.heap with
   |true=>some (Fast.tw4187177175401517315 q loose (importedModules p.main.body) (fun _=>true) true s.abs,Yf s.abs)
   |false=>none)=some (openGood q loose,Ya w)):LeftO p q loose (fun _=>true) Yf Ya N:=fun w=>by
 obtain⟨⟨hp,gs,d,k,os⟩,e1,e2⟩:=Option.map_eq_some_iff.mp (boot_open e hN f w)
 obtain⟨rfl,rfl,rfl,rfl⟩:hp=boot_heap w.params∧gs=⟨[]⟩∧d=boot_drawn∧k=boot_toks:=by simpa using e2
 obtain⟨s,r1,r2⟩:=Option.bind_eq_some_iff.mp (h w os)
 have r3:=zJ r1
 rw[Ek]at r3
 rw[←Fast.te4187177175401517315]at r2
 unfold openEnds
 rw[e1]
 show(topFrom treeTable p w N _).map _=_
 unfold topFrom
 rw[show((boot_heap w.params).isNs mainGlobals&&(⟨[]⟩:Array GenState).size==0)=true from by kernel_rfl]
 dsimp only
 rw[show(boot_heap w.params).objs.size=11 from by kernel_rfl,show(boot_heap w.params).nsMap mainGlobals "__annotations__"=some (.ref 6)from by kernel_rfl,r3]
 show((match staticsOk (importedModules p.main.body) (boot_heap w.params) s.abs.heap&&namesBound p s.abs.heap&&gensDone s.abs&&laidKept (boot_heap w.params) s.abs.heap with|true=>some s.abs|false=>none):Option Shared).map _=_
 cases z:(staticsOk (importedModules p.main.body) (boot_heap w.params) s.abs.heap&&namesBound p s.abs.heap&&gensDone s.abs&&laidKept (boot_heap w.params) s.abs.heap)with
 |false=>rw[z]at r2;cases r2
 |true=>rw[z]at r2;exact r2
noncomputable def fo(st:Stmt)(x q:Str)(pm cd:Value):Obj:=⟨.type "function",none,.func (fnOf x q (L2.aY st) (L2.aV st) (L2.ah st) .none .none .none pm none cd .none),#[]⟩
noncomputable abbrev e(x:Str)(t:Nat)(v:Value):Str×Nat×Value:=(x,t,v)
noncomputable abbrev k(a:Addr)(o:Obj):Addr×Obj:=(a,o)
noncomputable def no(P:Params)(n:Nat)(l:List (Str×Nat×Value)):Obj:=⟨.type "dict",none,.dict (l.map fun e=>⟨PyData.keyHash P e.1,.str e.1 e.2.1,e.2.2⟩).toArray n,#[]⟩
end Hd
namespace L3
open PySem PySem.Spec PyProof.Rows L2
section
variable {prog:Program}{w:World}{A:Around}{R:Result→Shared→Prop}{s:Shared}
theorem vE{elt target iter:Expr}{ifs:List Expr}{scope:Scope}{pos:Pos}{it acc:Value}{env:Env}(I:Nat→Shared→Prop)
 (turn:∀n s,I n s→wpAny (model prog w) A (pyNext it) (fun r s₁=>match r with
   |none=>R (.ok .next) s₁
   |some v=>wpAny (model prog w) A (letOwnedTupleGo target it v) (fun _ s₀=>wpAny (model prog w) A (assign target env v) (fun _ s₂=>
     wpAny (model prog w) A (forIn ifs true fun c r=>if r=true then do let ok ←isTrue c env (eval c env);pure (ForInStep.yield ok)else pure (ForInStep.yield r)) (fun ok s₃=>
      if ok=true then wpAny (model prog w) A (eval elt env) (fun x s₄=>
       wpAny (model prog w) A (call (.builtin "list.append") [acc,x]) (fun _ s₅=>∃m,m<n∧I m s₅) (fun _ _=>False) s₄) (fun _ _=>False) s₃
      else∃m,m<n∧I m s₃) (fun _ _=>False) s₂) (fun _ _=>False) s₀) (fun _ _=>False) s₁) (fun _ _=>False) s)
 (n:Nat) (h:I n s):
 codeAny (model prog w) A (.compLoop (.ListComp elt [⟨target,iter,ifs,0⟩] scope pos) 0 it acc env) R s:=by
 refine codeAny_loop rfl I (fun n s hI=>?_) n h
 show wpAny _ A ((compTurn (.ListComp elt [⟨target,iter,ifs,0⟩] scope pos) 0 it acc env).onRaise (fun x=>do noteFrame x env;theTreesLotGoes x)) _ _ s
 refine wpAny_noted ?_
 rw[compTurn_list]
 refine wpAny_bind (wpAny_standAt (wpAny_bind (wpAny_mono (turn n s hI) (fun r s₁ h₁=>?_) fun _ _ h'=>h'.elim)))
 cases r with
 |none=>exact wpAny_pure h₁
 |some v=>
  refine wpAny_bind (wpAny_mono h₁ (fun _ s₀ h₀=>?_) fun _ _ h'=>h'.elim)
  refine wpAny_bind (wpAny_mono h₀ (fun _ s₂ h₂=>wpAny_bind (wpAny_mono h₂ (fun ok s₃ h₃=>?_) fun _ _ h'=>h'.elim)) fun _ _ h'=>h'.elim)
  cases ok with
  |false=>exact wpAny_pure ⟨rfl,h₃⟩
  |true=>
   exact wpAny_bind (wpAny_bind (wpAny_mono h₃ (fun x s₄ h₄=>wpAny_bind (wpAny_mono h₄ (fun _ s₅ h₅=>wpAny_pure (wpAny_pure ⟨rfl,h₅⟩)) fun _ _ h'=>h'.elim)) fun _ _ h'=>h'.elim))
end
noncomputable def eZ(cells:List (Str×Addr)):List (Str×NameKind)→List (Str×Addr)→List (Str×Addr)
 | [],acc=>acc
 |(n,k)::r,acc=>if k== .free then(match cells.lookup n with|some c=>eZ cells r ((n,c)::acc)|none=>eZ cells r acc)else eZ cells r acc
theorem eP{cells:List (Str×Addr)}:∀(names:List (Str×NameKind)) (acc:List (Str×Addr)),(∀x c,acc.lookup x=some c→cells.lookup x=some c)→
 ∀x c,(eZ cells names acc).lookup x=some c→cells.lookup x=some c
 | [],acc,h,x,c,e=>h x c e
 |(n,k)::r,acc,h,x,c,e=>by
  unfold eZ at e
  split at e
  · split at e
    · rename_i d q
      refine eP r _ (fun y b e'=>?_) x c e
      rw[List.lookup_cons]at e'
      split at e'
      · rename_i z
        cases e'
        have z':y=n:=by simpa using z
        rw[z'];exact q
      · exact h y b e'
    · exact eP r _ h x c e
  · exact eP r _ h x c e
theorem j0{cells:List (Str×Addr)}{x:Str}:∀(names:List (Str×NameKind)) (acc:List (Str×Addr)),(∃c,cells.lookup x=some c)→((x,NameKind.free)∈names∨∃c,acc.lookup x=some c)→
 ∃c,(eZ cells names acc).lookup x=some c
 | [],acc,_,h=>by
   rcases h with h|h
   · simp at h
   · exact h
 |(n,k)::r,acc,hc,h=>by
  unfold eZ
  split
  · rename_i hk
    split
    · rename_i d q
      refine j0 r _ hc ?_
      rcases h with h|⟨c,h⟩
      · rcases List.mem_cons.mp h with e|e
        · cases e
          exact .inr ⟨d,by simp[List.lookup_cons]⟩
        · exact .inl e
      · refine .inr ?_
        rw[List.lookup_cons]
        split
        · exact⟨_,rfl⟩
        · exact⟨c,h⟩
    · rename_i q
      refine j0 r _ hc ?_
      rcases h with h|h
      · rcases List.mem_cons.mp h with e|e
        · cases e
          obtain⟨c,hc⟩:=hc
          rw[hc]at q;cases q
        · exact .inl e
      · exact .inr h
  · rename_i hk
    refine j0 r _ hc ?_
    rcases h with h|h
    · rcases List.mem_cons.mp h with e|e
      · cases e
        exact absurd rfl hk
      · exact .inl e
    · exact .inr h
theorem nj{scope:Scope}{env:Env}(h:∀x∈scope.names,x.2= .free→∃c,env.cells.lookup x.1=some c):closureFor scope env=pure (eZ env.cells scope.names []):=by
 have key:∀(names:List (Str×NameKind)) (acc:List (Str×Addr)),(∀x∈names,x.2= .free→∃c,env.cells.lookup x.1=some c)→
  (forIn names acc (fun(x:Str×NameKind) (cs:List (Str×Addr))=>if(x.2==NameKind.free)=true then(do let a ←cellOf env x.1;pure (ForInStep.yield ((x.1,a)::cs)):Sem (ForInStep (List (Str×Addr))))else pure (ForInStep.yield cs)))=(pure (eZ env.cells names acc):Sem (List (Str×Addr))):=by
  intro names
  induction names with
  |nil=>intro acc _;rfl
  |cons p r ih=>
   intro acc hh
   obtain⟨n,k⟩:=p
   rw[List.forIn_cons]
   have ih':=ih
   by_cases hk:(k==NameKind.free)=true
   · obtain⟨c,e⟩:=hh (n,k) List.mem_cons_self (by simpa using hk)
     simp only[hk,if_true]
     have e1:cellOf env n=pure c:=by
      unfold cellOf
      rw[e]
     rw[e1]
     simp only[pure_bind]
     rw[ih _ fun x hx=>hh x (List.mem_cons_of_mem _ hx)]
     conv=>rhs;unfold eZ
     simp only[hk,if_true]
     rw[show env.cells.lookup n=some c from e]
   · have hk':(k==NameKind.free)=false:=by simpa using hk
     simp only[hk',Bool.false_eq_true,if_false,pure_bind]
     rw[ih _ fun x hx=>hh x (List.mem_cons_of_mem _ hx)]
     conv=>rhs;unfold eZ
     simp only[hk',Bool.false_eq_true,if_false]
 unfold closureFor
 have:=key scope.names [] h
 rw[bind_pure]
 first
  |exact this
  |(simp only[bind_pure]at this⊢;exact this)
end L3
namespace L3
open PySem PySem.Spec L2
open PyProof.Rows hiding St
theorem iw(env:Env):∀(names:List (Str×NameKind)) (x:Str),
 (names.map fun(n,k)=>if(k==NameKind.free&&env.scope.kind== .function&&env.kindOf n==some .cell)then(n,NameKind.cell)else(n,k)).lookup x=
   (names.lookup x).map fun k=>if(k==NameKind.free&&env.scope.kind== .function&&env.kindOf x==some .cell)then NameKind.cell else k
 | [],_=>rfl
 |(n,k)::r,x=>by
  show List.lookup x ((if(k==NameKind.free&&env.scope.kind== .function&&env.kindOf n==some .cell)=true then(n,NameKind.cell)else(n,k))::_)=_
  cases hx:x==n with
  |true=>
   have e:x=n:=by simpa using hx
   subst e
   by_cases hc:(k==NameKind.free&&env.scope.kind== .function&&env.kindOf x==some .cell)=true
   · rw[if_pos hc];simp only[List.lookup_cons,beq_self_eq_true,Option.map_some];rw[if_pos hc]
   · rw[if_neg hc];simp only[List.lookup_cons,beq_self_eq_true,Option.map_some];rw[if_neg hc]
  |false=>
   by_cases hc:(k==NameKind.free&&env.scope.kind== .function&&env.kindOf n==some .cell)=true
   · rw[if_pos hc];simp only[List.lookup_cons,hx];exact iw env r x
   · rw[if_neg hc];simp only[List.lookup_cons,hx];exact iw env r x
theorem uY{env:Env}{scope:Scope}{x:Str}(h:scope.names.lookup x=some .free):(relabel scope env).names.lookup x=some .cell∨(relabel scope env).names.lookup x=some .free:=by
 have e:(relabel scope env).names.lookup x=_:=iw env scope.names x
 rw[e,h]
 simp only[Option.map_some]
 split
 · exact .inl rfl
 · exact .inr rfl
theorem vj{env:Env}{scope:Scope}{x:Str}(h:(relabel scope env).names.lookup x=some .cell∨(relabel scope env).names.lookup x=some .free):(x,NameKind.free)∈scope.names∨scope.names.lookup x=some .cell:=by
 have e:(relabel scope env).names.lookup x=_:=iw env scope.names x
 rw[e]at h
 cases q:scope.names.lookup x with
 |none=>rw[q]at h;rcases h with h|h<;>cases h
 |some k=>
  rw[q]at h
  simp only[Option.map_some]at h
  have m:=PySem.mem_of_lookup q
  by_cases hc:(k==NameKind.free&&env.scope.kind== .function&&env.kindOf x==some .cell)=true
  · have:k= .free:=by
     simp only[Bool.and_eq_true]at hc
     simpa using hc.1.1
    subst this;exact .inl m
  · rw[if_neg hc]at h
    rcases h with h|h
    · cases h;exact .inr rfl
    · cases h;exact .inl m
theorem fP:∀(names:List (Str×NameKind)) (L:Nat) (acc:List (Str×Addr)),cellsFrom L names acc=cellsFrom L names []++acc
 | [],_,_=>rfl
 |(n,k)::r,L,acc=>by
  unfold cellsFrom
  by_cases hk:(k==NameKind.cell)=true
  · rw[if_pos hk,if_pos hk,fP r (L+1) ((n,L)::acc),fP r (L+1) [(n,L)],List.append_assoc];rfl
  · rw[if_neg hk,if_neg hk];exact fP r L acc
theorem og:∀ {names:List (Str×NameKind)} {L:Nat} {x:Str} {c:Addr},(x,c)∈cellsFrom L names []→(x,NameKind.cell)∈names
 | [],_,_,_,h=>by unfold cellsFrom at h;cases h
 |(n,k)::r,L,x,c,h=>by
  unfold cellsFrom at h
  by_cases hk:(k==NameKind.cell)=true
  · rw[if_pos hk,fP]at h
    have hk':k= .cell:=by simpa using hk
    subst hk'
    rcases List.mem_append.mp h with h|h
    · exact List.mem_cons_of_mem _ (og h)
    · have:(x,c)=(n,L):=by simpa using h
      cases this
      exact List.mem_cons_self
  · rw[if_neg hk]at h
    exact List.mem_cons_of_mem _ (og h)
theorem mP:∀ {l1 l2:List (Str×Addr)} {x:Str} {c:Addr},(l1++l2).lookup x=some c→l1.lookup x=some c∨(l1.lookup x=none∧l2.lookup x=some c)
 | [],_,_,_,h=> .inr ⟨rfl,h⟩
 |(n,d)::l1,l2,x,c,h=>by
  rw[List.cons_append,List.lookup_cons]at h
  rw[List.lookup_cons]
  cases hx:x==n with
  |true=>rw[hx]at h;exact .inl h
  |false=>rw[hx]at h;exact mP h
theorem pC:∀ {l1 l2:List (Str×Addr)} {x:Str},l1.lookup x=none→(l1++l2).lookup x=l2.lookup x
 | [],_,_,_=>rfl
 |(n,d)::l1,l2,x,h=>by
  rw[List.lookup_cons]at h
  rw[List.cons_append,List.lookup_cons]
  cases hx:x==n with
  |true=>rw[hx]at h;cases h
  |false=>rw[hx]at h;exact pC h
noncomputable def j8(scope:Scope)(C:Addr)(cl:List (Str×Addr)):List (Str×Addr):=cellsFrom (C+1) scope.names cl
theorem ie{scope:Scope}{C:Addr}{cl:List (Str×Addr)}{x:Str}{c:Addr}(h:(j8 scope C cl).lookup x=some c):(x,c)∈cellsFrom (C+1) scope.names []∨cl.lookup x=some c:=by
 unfold j8 at h
 rw[fP]at h
 rcases mP h with h|h
 · exact .inl (PySem.mem_of_lookup h)
 · exact .inr h.2
theorem Es(names:List (Str×NameKind))(h:Heap){C:Addr}(e:h.objs.size=C+1):CellsOk (pushCells h names) (C+1) (cellsFrom (C+1) names []):=by
 have:=cellsFrom_ok names h (C+1) [] ⟨fun _ _ hm=>(nomatch hm),List.Pairwise.nil⟩ (by rw[e];exact Nat.le_refl _)
 rw[e]at this
 exact this
theorem kE{names:List (Str×NameKind)}{C:Addr}{x:Str}{c:Addr}:∀ {L:Nat},C≤L→(x,c)∈cellsFrom L names []→C≤c:=by
 induction names with
 |nil=>intro L _ h;unfold cellsFrom at h;cases h
 |cons p r ih=>
  obtain⟨n,k⟩:=p
  intro L hL h
  unfold cellsFrom at h
  by_cases hk:(k==NameKind.cell)=true
  · rw[if_pos hk,fP]at h
    rcases List.mem_append.mp h with h|h
    · exact ih (Nat.le_trans hL (Nat.le_succ L)) h
    · have:(x,c)=(n,L):=by simpa using h
      cases this
      exact hL
  · rw[if_neg hk]at h
    exact ih hL h
theorem own_apart{names:List (Str×NameKind)}{x y:Str}{c:Addr}:∀ {L:Nat},(x,c)∈cellsFrom L names []→(y,c)∈cellsFrom L names []→x=y:=by
 induction names with
 |nil=>intro L h;unfold cellsFrom at h;cases h
 |cons p r ih=>
  obtain⟨n,k⟩:=p
  intro L h1 h2
  unfold cellsFrom at h1 h2
  by_cases hk:(k==NameKind.cell)=true
  · rw[if_pos hk,fP]at h1 h2
    rcases List.mem_append.mp h1 with g1|g1<;>rcases List.mem_append.mp h2 with g2|g2
    · exact ih g1 g2
    · have e2:(y,c)=(n,L):=by simpa using g2
      have ec:c=L:=(Prod.mk.inj e2).2
      have:=kE (C:=L+1) (Nat.le_refl _) g1
      rw[ec]at this
      exact absurd this (Nat.not_succ_le_self _)
    · have e1:(x,c)=(n,L):=by simpa using g1
      have ec:c=L:=(Prod.mk.inj e1).2
      have:=kE (C:=L+1) (Nat.le_refl _) g2
      rw[ec]at this
      exact absurd this (Nat.not_succ_le_self _)
    · have e1:(x,c)=(n,L):=by simpa using g1
      have e2:(y,c)=(n,L):=by simpa using g2
      exact(Prod.mk.inj e1).1.trans (Prod.mk.inj e2).1.symm
  · rw[if_neg hk]at h1 h2
    exact ih h1 h2
theorem qf{M:Model}{A:Around}{E:Value→Shared→Prop}{s:Shared}{scope:Scope}{globals:Addr}{cl:List (Str×Addr)}{qual:Str}{env:Env}{Q:Env→Shared→Prop}
 (hQ:Q (newEnv scope s.heap.objs.size globals (j8 scope s.heap.objs.size cl) qual none .none (some env) builtinsNs) {s with heap:=pushCells (s.heap.push {cls:= .type "dict",data:= .dict #[]}) scope.names}):
 wpAny M A (newFunctionEnv scope globals cl [] qual none .none (some env)) Q E s:=by
 simp only[newFunctionEnv,Option.isSome_some,if_true]
 refine wpAny_bind (wpAny_alloc ?_)
 refine wpAny_bind (wpAny_layCells _ (fun name kind cells=>by cases hkc:kind==NameKind.cell<;>simp[hkc]) _ _ _ _ ?_)
 rw[show({s with heap:=s.heap.push {cls:= .type "dict",data:= .dict #[]}}:Shared).heap.objs.size=s.heap.objs.size+1 from Heap.size_push ..]
 rw[List.forIn_nil]
 exact wpAny_bind (wpAny_pure (wpAny_pure hQ))
structure cc(X:Cx)(scope:Scope)(Nc:List Str)(fr:List (Option Nat)):Prop where
 kind:scope.kind= .function
 cells:∀x∈scope.names,x.2= .cell→scope.names.lookup x.1=some .cell
 names:∀x∈scope.names,x.2= .local→scope.names.lookup x.1=some .local
 free:∀x∈scope.names,x.2= .free→X.env.kindOf x.1=some .cell∨X.env.kindOf x.1=some .free
 len:fr.length=Nc.length
 map:∀(i j:Nat) (x:Str),Nc[i]?=some x→fr[i]?=some (some j)→X.N[j]?=some x∧scope.names.lookup x=some .free∧(X.env.kindOf x=some .cell∨X.env.kindOf x=some .free)
noncomputable def σC(fr:List (Option Nat))(σ:St):St:=fr.map fun o=>o.bind fun j=>(σ[j]?).join
noncomputable def fG(X:Cx)(scope:Scope)(Nc:List Str)(C:Addr)(s:Shared)(H:Hp)(ex:List Addr):Cx:=
 {X with N:=Nc,s₀:=s,H₀:=H,env:=compEnvC scope (j8 scope C (eZ X.env.cells scope.names [])) C X.env,outer:=X.stack,stack:=X.stack,ex:=ex,fn:=fun x=>scope.names.lookup x==some .cell,pn:=[],xe:=fun _ _=>False}
noncomputable def q_(wi:TI)(fr:List (Option Nat))(g:TG)(c:TT)(te:TE):TE:=fun σ H Q=>wi σ H fun J H1=>∀l,H1 l=none→
 ∃W:Nat→Nat→L2.St→Hp→Prop,(∃m,W 0 m (σC fr σ) (upd H1 l (.lst [])))∧∀i m σ H,W i m σ H→
  (J.stop i H∧Q (.ref l) H)∨(J.go i H∧∃N:L2.St→Hp→Prop,(∀σ' H',N σ' H'→∃m',m'<m∧W (i+1) m' σ' H')∧∀x H',J.lL i H x H'→
    g x σ H' fun σ2 H2=>c σ2 H2 fun b H3=>if b=true then te σ2 H3 fun y H4=>∃ys,H4 l=some (.lst ys)∧ys.length<sizeLine∧N σ2 (upd H4 l (.lst (ys++[y])))else N σ2 H3)
noncomputable def qP(X:Cx)(ifs:List Expr)(t:TT):Prop:=
 ∀(pins:List (Addr×Obj)) (s:Shared) (σ:St) (H:Hp) (Q:Bool→Hp→Prop),Inv X pins σ H s→t σ H Q→
  wpAny (model X.prog X.w) X.A (forIn ifs true fun c r=>if r=true then do let ok ←isTrue c X.env (eval c X.env);pure (ForInStep.yield ok)else pure (ForInStep.yield r)) (TP X pins σ Q) X.xe s
noncomputable def Hw:TT:=fun _ H Q=>Q true H
theorem CZ{X:Cx}:qP X [] Hw:=fun _ _ _ H _ I h=>wpAny_tests_nil ⟨H,I,h⟩
section
variable {X:Cx}{scope:Scope}{Nc:List Str}{fr:List (Option Nat)}{pins:List (Addr×Obj)}{σ:St}{H:Hp}{s:Shared}
theorem Gd{C:Addr}{fp:List Addr}(S:cc X scope Nc fr)(I:Inv X pins σ H s)(hC:C=s.heap.objs.size)(hf:∀b∈fp,jJ X pins H b)(hlt:∀b∈fp,b<s.heap.objs.size)(hnc:∀b∈fp,∀x c,X.env.cells.lookup x=some c→c≠b):
 (fG X scope Nc C s H fp).Ok where
 mod:=I.ok.mod
 kind:=S.kind
 glob:=I.ok.glob
 blt:=I.ok.blt
 above:=Nat.le_of_eq hC.symm
 inj:=fun x y c h1 h2=>by
  have low:∀ {z},(eZ X.env.cells scope.names []).lookup z=some c→c<s.heap.objs.size:=fun{z} hz=>by
   obtain⟨v,q⟩:=I.cell z c (eP _ [] (fun _ _ e=>by cases e) z c hz)
   exact q.lt
  rcases ie h1 with h1|h1<;>rcases ie h2 with h2|h2
  · exact own_apart h1 h2
  · have a:=kE (C:=C+1) (Nat.le_refl _) h1
    have b:c<C:=by rw[hC];exact low h2
    exact absurd a (Nat.not_le_of_gt (Nat.lt_succ_of_lt b))
  · have a:=kE (C:=C+1) (Nat.le_refl _) h2
    have b:c<C:=by rw[hC];exact low h1
    exact absurd a (Nat.not_le_of_gt (Nat.lt_succ_of_lt b))
  · exact I.ok.inj x y c (eP _ [] (fun _ _ e=>by cases e) x c h1) (eP _ [] (fun _ _ e=>by cases e) y c h2)
 has:=fun x hx=>by
  rcases vj hx with m|m
  · obtain⟨c,e⟩:=j0 scope.names [] (I.ok.has x (S.free _ m rfl)) (.inl m)
    exact Option.isSome_iff_exists.mp (PySem.W.cellsFrom_some _ _ _ (.inr (by rw[e];rfl)))
  · exact Option.isSome_iff_exists.mp (PySem.W.cellsFrom_some _ _ _ (.inl m))
 wu:=fun x c hf h=>by
  have hl:scope.names.lookup x=some .cell:=by
   have:(scope.names.lookup x==some .cell)=true:=hf
   simpa using this
  obtain⟨c',e⟩:=Option.isSome_iff_exists.mp (PySem.W.cellsFrom_some (x:=x) scope.names (C+1) [] (.inl hl))
  have h':(cellsFrom (C+1) scope.names []++eZ X.env.cells scope.names []).lookup x=some c:=by
   rw[←fP];exact h
  rcases mP h' with q|q
  · have:=kE (C:=C+1) (Nat.le_refl _) (PySem.mem_of_lookup q)
    show s.heap.objs.size≤c
    rw[←hC];exact Nat.le_of_succ_le this
  · rw[q.1]at e;cases e
 hd:=I.ok.hd
 frames:=I.ok.frames
 yr:= .inl rfl
 BN:=fun b hb=>⟨by rw[show(fG X scope Nc C s H fp).env.locals=s.heap.objs.size from hC];exact Nat.ne_of_lt (hlt b hb),fun x c h=>by
  rcases ie h with h|h
  · have a:=kE (C:=C+1) (Nat.le_refl _) h
    have b':b<C:=by rw[hC];exact hlt b hb
    exact Nat.ne_of_gt (Nat.lt_of_lt_of_le b' (Nat.le_of_succ_le a))
  · exact hnc b hb x c (eP _ [] (fun _ _ e=>by cases e) x c h)⟩
 bs:=I.bs
 qZ:=Nat.le_trans I.ok.qZ I.sz
 sr:=fun b o e hb=>by
  have hn:=(hf b hb).2.2.2.1
  rcases hn with hn|hn
  · exact I.ok.sr b o e hn
  · exact absurd (Heap.lt_size (I.ok.bs b o e).1) (Nat.not_lt.mpr hn)
 rL:=fun b hb z=>by
  have q:=I.ug b z
  rcases List.mem_cons.mp q with q|q
  · exact(hf b hb).2.1 q
  · exact(hf b hb).2.2.1 q
 jN:=I.stack
 sO:=fun b hb=>I.wb b hb
 gt:=I.ok.gt
theorem Ds{i:Nat}{v:V}(h:(σC fr σ)[i]?=some (some v)):∃j,fr[i]?=some (some j)∧σ[j]?=some (some v):=by
 unfold σC at h
 rw[List.getElem?_map]at h
 cases q:fr[i]? with
 |none=>rw[q]at h;cases h
 |some o=>
  rw[q]at h
  cases o with
  |none=>simp at h
  |some j=>
   simp only[Option.map_some,Option.some.injEq,Option.bind_some]at h
   refine⟨j,rfl,?_⟩
   cases r:σ[j]? with
   |none=>rw[r]at h;cases h
   |some u=>rw[r]at h;simp at h;rw[h]
theorem AO{s':Shared}{h':Heap}{C:Addr}{fp:List Addr}{t':Nat}(S:cc X scope Nc fr)(I:Inv X pins σ H s)(hC:C=s.heap.objs.size)(ok:(fG X scope Nc C s H fp).Ok)(hfr:∀b∈fp,H b=none)
 (k:∀b o,s.heap.get? b=some o→h'.get? b=some o) (hn:h'.Ns C (fun _=>none)) (hcs:∀x c,(x,c)∈cellsFrom (C+1) scope.names []→h'.IsCell c none):Inv (fG X scope Nc C s H fp) [] (σC fr σ) H {s with heap:=h',toks:=t'} where
 ok:=ok
 os:=rfl
 bare:=I.bare
 base:=Un.kept k
 loc:=⟨_,hn,fun i x v h1 h2 h3=>by
  obtain⟨j,q1,q2⟩:=Ds h2
  obtain⟨n1,n2,n3⟩:=S.map i j x h1 q1
  obtain⟨m,hm,hl⟩:=I.loc
  have vis:ui X.env.scope x:=by
   rcases n3 with z|z
   · exact .inr (.inl z)
   · exact .inr (.inr z)
  obtain⟨u,r,lk⟩:=hl j x v n1 q2 vis
  refine⟨u,r,?_⟩
  rcases lk with⟨z,_⟩|⟨z,c,e,ic⟩
  · rcases n3 with y|y
    · rw[y]at z;cases z
    · rw[y]at z;cases z
  · refine .inr ⟨uY n2,?_⟩
    obtain⟨c',e'⟩:=j0 scope.names [] ⟨c,e⟩ (.inl (PySem.mem_of_lookup n2))
    have e2:=eP _ [] (fun _ _ e=>by cases e) x c' e'
    rw[e]at e2;cases e2
    refine⟨c,?_,ic.keeps k⟩
    show(j8 scope C (eZ X.env.cells scope.names [])).lookup x=some c
    unfold j8
    rw[fP,pC ?_]
    · exact e'
    · cases q:(cellsFrom (C+1) scope.names []).lookup x with
      |none=>rfl
      |some c2=>
       have:=S.cells _ (og (PySem.mem_of_lookup q)) rfl
       rw[n2]at this;cases this⟩
 cell:=fun x c h=>by
  rcases ie h with h|h
  · exact⟨_,hcs x c h⟩
  obtain⟨v,q⟩:=I.cell x c (eP _ [] (fun _ _ e=>by cases e) x c h)
  exact⟨v,q.keeps k⟩
 free:=by show H C=none;rw[hC];exact I.aT.fresh (Nat.le_refl _)
 jb:=fun x c h=>by
  rcases ie h with h|h
  · have a:=kE (C:=C+1) (Nat.le_refl _) h
    exact I.aT.fresh (by rw[←hC];exact Nat.le_of_succ_le a)
  · exact I.jb x c (eP _ [] (fun _ _ e=>by cases e) x c h)
 pin:=fun p hp=>by cases hp
 aT:=I.aT.kept k
 len:=by unfold σC;rw[List.length_map];exact S.len
theorem Inv.forget{C:Addr}{h':Heap}(I:Inv X pins σ H s)(f:jJ X pins H C)(hs:Heap.SameBut C s.heap h'):Inv X pins σ H {s with heap:=h'}:=by
 refine I.B8 (s':={s with heap:=h'}) (ch:=[C]) rfl ?_ ?_ I.bare fun b hb=>?_
 · have ne:∀b,b∉[C]→b≠C:=fun b hb z=>hb (by simp[z])
   exact{keep:=fun b o q _ _ hx=>(hs.2 b (ne b hx)).trans q,slot:=fun b o q _ _ hx=>⟨o.slots,(hs.2 b (ne b hx)).trans q⟩,free:=fun b o q n _=>n,there:=fun b o q hx=>⟨o,(hs.2 b (ne b hx)).trans q⟩,m8:=fun _ _ e=>e,lX:=fun _ _ _ e=>e,lR:=fun b ps e=>⟨#[],by rw[e];simp⟩}
 · intro a o q
   have na:∀b u,H b=some u→b≠C:=fun b u q z=>by rw[z,f.1]at q;cases q
   refine(I.aT a o q).nZ (fun b u hb e=>?_) (fun _ q=>q) fun _ _ q=>q
   rw[hs.2 b ?_]
   · exact e
   · rcases hb with rfl|hb
     · exact na _ _ q
     · exact na _ _ hb
 · have:b=C:=by simpa using hb
   subst this
   exact⟨f.2.2.2.1,f.2.1,f.2.2.2.2.1,f.2.2.2.2.2⟩
theorem rg{elt tg iter:Expr}{ifs:List Expr}{wi:TI}{g:TG}{c:TT}{te:TE}{pos:Pos}{Q:VK}{RR:Value→Addr→Result→Shared→Prop}(hx:X.xe=fun _ _=>False)(hc:X.calm=true)(S:cc X scope Nc fr)(hi:PI X tg iter wi)
 (hg:∀C s H ex,PG (fG X scope Nc C s H ex) tg g) (ht:∀C s H ex,qP (fG X scope Nc C s H ex) ifs c) (he:∀C s H ex,PE (fG X scope Nc C s H ex) elt te) (I:Inv X pins σ H s) (h:q_ wi fr g c te σ H Q)
 (fin:∀(l C:Addr) (s6:Shared) (H5:Hp) (m:Str→Option Value),s6.heap.Ns C m→jJ X pins H5 C→Inv X pins σ H5 s6→Q (.ref l) H5→RR (.ref l) C (.ok .next) s6):
 wpAny (model X.prog X.w) X.A (eval iter X.env) (fun x s₁=>wpAny (model X.prog X.w) X.A (pyIter x) (fun it s₂=>wpAny (model X.prog X.w) X.A (newList []) (fun acc s₃=>
  wpAny (model X.prog X.w) X.A (newFunctionEnv scope X.env.globals (eZ X.env.cells scope.names []) [] X.env.qual none .none (some X.env)) (fun cenv s₄=>
   codeAny (model X.prog X.w) X.A (.compStart (.ListComp elt [⟨tg,iter,ifs,0⟩] scope pos) 0 it acc {cenv with scope:=relabel scope X.env}) (RR acc cenv.locals) s₄) X.xe s₃) X.xe s₂) X.xe s₁) X.xe s:=by
 refine bD (hi pins s σ H _ I h) fun v s1 h1=>bD h1 fun itv s2 h2=>?_
 obtain⟨it,fp,tn,J,H2,e,I2,T,st2,f2,hR⟩:=h2
 subst e
 refine wpAny_newList ?_ (Nat.zero_le _)
 have I3:=I2.Ak (t':=s2.toks) (its:=[]) (ys:=[]) .nil (Nat.zero_le _)
 generalize e3:({s2 with heap:=s2.heap.push {cls:= .type "list",data:= .seq ([]:List Value).toArray}}:Shared)=s3
 have I3:Inv X pins σ (upd H2 s2.heap.objs.size (.lst [])) s3:=by rw[←e3];exact I3
 have ml:s2.heap.objs.size<s3.heap.objs.size:=by rw[←e3];show _<(s2.heap.push _).objs.size;rw[Heap.size_push];omega
 have k3:∀b o,s2.heap.get? b=some o→s3.heap.get? b=some o:=fun b o q=>by rw[←e3];exact Heap.get?_push_of_some _ q
 obtain⟨W,⟨m0,w0⟩,turn⟩:=hR s2.heap.objs.size (I2.aT.fresh (Nat.le_refl _))
 refine qf ?_
 have hn:(pushCells (s3.heap.push {cls:= .type "dict",data:= .dict #[]}) scope.names).Ns s3.heap.objs.size (fun _=>none):=(Heap.Ns.new s3.heap (.type "dict")).keeps (pushCells_keeps _ _)
 have hcs:∀x c,(x,c)∈cellsFrom (s3.heap.objs.size+1) scope.names []→(pushCells (s3.heap.push {cls:= .type "dict",data:= .dict #[]}) scope.names).IsCell c none:=fun x c h=>((Es scope.names _ (Heap.size_push ..)).empty x c h).1
 have k4:∀b o,s3.heap.get? b=some o→(pushCells (s3.heap.push {cls:= .type "dict",data:= .dict #[]}) scope.names).get? b=some o:=fun b o q=>pushCells_keeps _ _ b o (Heap.get?_push_of_some _ q)
 generalize(pushCells (s3.heap.push {cls:= .type "dict",data:= .dict #[]}) scope.names)=h' at hn hcs k4⊢
 have hobj:∀b∈fp,∃o,s2.heap.get? b=some o∧∀v,o.data≠ .cell v:=T.obj _ _ st2
 have hlt2:∀b∈fp,b<s3.heap.objs.size:=fun b hb=>let⟨o,q,_⟩:=hobj b hb;Heap.lt_size (k3 b o q)
 have hnl:∀b∈fp,b≠s2.heap.objs.size:=fun b hb=>by
  obtain⟨o,q,_⟩:=hobj b hb
  exact Nat.ne_of_lt (Heap.lt_size q)
 have f3:∀b∈fp,jJ X pins (upd H2 s2.heap.objs.size (.lst [])) b:=fun b hb=>⟨by rw[aC (hnl b hb)];exact(f2 b hb).1,(f2 b hb).2⟩
 have ok:=Gd (C:=s3.heap.objs.size) (fp:=fp) S I3 rfl f3 hlt2 fun b hb=>(f2 b hb).2.2.2.2.1
 have I4:Inv (fG X scope Nc s3.heap.objs.size s3 (upd H2 s2.heap.objs.size (.lst [])) fp) [] (σC fr σ) (upd H2 s2.heap.objs.size (.lst [])) {s3 with heap:=h',toks:=s3.toks}:=
  AO (s':=s3) S I3 rfl ok (fun b hb=>(f3 b hb).1) k4 hn hcs
 have st4:tn 0 h':=T.keep _ _ _ st2 fun b _ o q=>k4 b o (k3 b o q)
 generalize hXc:fG X scope Nc s3.heap.objs.size s3 (upd H2 s2.heap.objs.size (.lst [])) fp=Xc at I4
 have hgc:PG Xc tg g:=by rw[←hXc];exact hg _ _ _ _
 have htc:qP Xc ifs c:=by rw[←hXc];exact ht _ _ _ _
 have hec:PE Xc elt te:=by rw[←hXc];exact he _ _ _ _
 have xP:Xc.prog=X.prog:=by rw[←hXc];rfl
 have xW:Xc.w=X.w:=by rw[←hXc];rfl
 have xK:Xc.K=X.K:=by rw[←hXc];rfl
 have xc:Xc.calm=true:=by rw[←hXc];exact hc
 have xA:Xc.A=X.A:=by rw[←hXc];rfl
 have xE:Xc.env=compEnvC scope (j8 scope s3.heap.objs.size (eZ X.env.cells scope.names [])) s3.heap.objs.size X.env:=by rw[←hXc];rfl
 have xx:Xc.xe=fun _ _=>False:=by rw[←hXc];rfl
 have fpc:∀ {H':Hp},(∀b∈fp,H' b=none)→∀b∈fp,jJ Xc [] H' b:=fun{H'} hn b hb=>by
  rw[←hXc]
  refine⟨hn b hb,Nat.ne_of_lt (hlt2 b hb),ok.rL b hb,.inl hb,(ok.BN b hb).2,fun p hp=>by cases hp⟩
 have loop:codeAny (model X.prog X.w) X.A (.compLoop (.ListComp elt [⟨tg,iter,ifs,0⟩] scope pos) 0 (.ref it) (.ref s2.heap.objs.size) (compEnvC scope (j8 scope s3.heap.objs.size (eZ X.env.cells scope.names [])) s3.heap.objs.size X.env))
  (RR (.ref s2.heap.objs.size) s3.heap.objs.size) {s3 with heap:=h',toks:=s3.toks}:=by
  refine vE (fun n s'=>∃i σ' H',Inv Xc [] σ' H' s'∧tn i s'.heap∧(∀b∈fp,H' b=none)∧W i n σ' H') ?_ m0 ⟨0,_,_,I4,st4,fun b hb=>(f3 b hb).1,w0⟩
  rintro n s5 ⟨i,σ5,H5,I5,st5,fr5,w5⟩
  rcases turn i n σ5 H5 w5 with⟨stop,qn⟩|⟨go,N,hN,step⟩
  · have q:=T.done Xc xP xW xK xc i [] s5 σ5 H5 (fun _ _=>False) I5 (fpc fr5) st5 stop
    rw[xA]at q
    refine bD q fun r s6 ⟨hr,I6⟩=>?_
    subst hr
    obtain⟨m,hm,_⟩:=I6.loc
    rw[xE]at hm
    have free6:H5 s3.heap.objs.size=none:=by have:=I6.free;rw[xE]at this;exact this
    have un6:Un (mD X.stack) fp (upd H2 s2.heap.objs.size (.lst [])) H5 s3.heap s6.heap:=by have:=I6.base;rw[←hXc]at this;exact this
    have os6:s6.os=s3.os:=by have:=I6.os;rw[←hXc]at this;exact this
    have hok6:gN X.prog X.w H5 s6.heap:=by have:=I6.aT;rw[xP,xW]at this;exact this
    have J:=I3.B8 (s':=s6) (ch:=fp) os6 un6 hok6 I6.bare fun b hb=>⟨(f3 b hb).2.2.2.1,(f3 b hb).2.1,(f3 b hb).2.2.2.2.1,(f3 b hb).2.2.2.2.2⟩
    exact fin _ _ s6 H5 m hm (I3.pZ (Nat.le_refl _) free6) J qn
  · have q:=T.item Xc xP xW xK xc i [] s5 σ5 H5 (fun _ _=>False) I5 (fpc fr5) st5 go
    rw[xA]at q
    refine bD q fun r s6 ⟨u,hr,h6⟩=>?_
    subst hr
    refine bD h6 fun _ s7 ⟨x,H7,I7,r7,y7,st7,fr7⟩=>?_
    have I7':=I7.pinned (fpc fr7) (T.obj _ _ st7)
    have q8:=hgc _ s7 σ5 H7 x u _ I7' r7 (step x H7 y7)
    rw[xP,xW,xA,xE,xx]at q8
    refine bD q8 fun _ s8 ⟨σ8,H8,I8,q8⟩=>?_
    have q9:=htc _ s8 σ8 H8 _ I8 q8
    rw[xP,xW,xA,xE,xx]at q9
    refine bD q9 fun b s9 ⟨H9,I9,q9⟩=>?_
    have again:∀ {H':Hp} {s':Shared},Inv Xc ([]++ny fp s7.heap) σ8 H' s'→N σ8 H'→∃m,m<n∧∃i σ' H',Inv Xc [] σ' H' s'∧tn i s'.heap∧(∀b∈fp,H' b=none)∧W i m σ' H':=fun{H' s'} J nn=>by
     obtain⟨m',hm,w7⟩:=hN σ8 H' nn
     refine⟨m',hm,i+1,σ8,H',J.mM,T.keep _ _ _ st7 fun b hb o e=>(J.pin (b,o) (List.mem_append_right _ (List.mem_append_right _ (kg hb e)))).1,fun b hb=>?_,w7⟩
     obtain⟨o,e,d⟩:=T.obj _ _ st7 b hb
     exact(J.pin (b,o) (List.mem_append_right _ (List.mem_append_right _ (kg hb e)))).2.1
    cases b with
    |false=>exact again I9 q9
    |true=>
     have qe:=hec _ s9 σ8 H9 _ I9 q9
     rw[xP,xW,xA,xE,xx]at qe
     refine bD qe fun y s10 ⟨vy,H10,I10,ry,ys,hy,hlt,qN⟩=>?_
     have qa:=sQ (X:=Xc) _ s10 σ8 H10 (.ref s2.heap.objs.size) [vy] (.ref s2.heap.objs.size) [y] (fun _ H'=>N σ8 H') I10 rfl (.cons ry .nil) ⟨_,ys,vy,rfl,rfl,hy,hlt,qN⟩
     rw[xP,xW,xA,xx]at qa
     exact bD qa fun _ s11 ⟨_,H11,I11,_,q11⟩=>again I11 q11
 refine codeAny_compStart_list ?_ ?_
 · exact loop
 · exact T.self _ 0 _ _ _ st4 loop
theorem wQ{elt tg iter:Expr}{ifs:List Expr}{wi:TI}{g:TG}{c:TT}{te:TE}{pos:Pos}(hx:X.xe=fun _ _=>False)(hc:X.calm=true)(S:cc X scope Nc fr)(hi:PI X tg iter wi)
 (hg:∀C s H ex,PG (fG X scope Nc C s H ex) tg g) (ht:∀C s H ex,qP (fG X scope Nc C s H ex) ifs c) (he:∀C s H ex,PE (fG X scope Nc C s H ex) elt te)
 (hs:∀x,foldedSetIterable iter X.env x=pure x:=by intro _;rfl):PE X (.ListComp elt [⟨tg,iter,ifs,0⟩] scope pos) (q_ wi fr g c te):=by
 intro pins s σ H Q I h
 rw[eval_ListComp]
 have hcl:closureFor scope X.env=pure (eZ X.env.cells scope.names []):=nj fun x hx hk=>I.ok.has x.1 (S.free x hx hk)
 refine wpAny_comprehension_free rfl hs hcl S.kind S.names ?_
 exact rg (RR:=fun acc C=>compPost (model X.prog X.w) X.A X.xe none (EP X pins σ Q) acc C) hx hc S hi hg ht he I h fun l C s6 H5 m hm f J q=>⟨m,hm,fun h'' hs''=>⟨.ref l,H5,Inv.forget J f hs'',rfl,q⟩⟩
theorem Dn{elt tg iter:Expr}{ifs:List Expr}{wi:TI}{g:TG}{c:TT}{te:TE}{pos pos' spos:Pos}{i:Nat}{x:Str}(hx:X.xe=fun _ _=>False)(hc:X.calm=true)(S:cc X scope Nc fr)(hi:PI X tg iter wi)
 (hg:∀C s H ex,PG (fG X scope Nc C s H ex) tg g) (ht:∀C s H ex,qP (fG X scope Nc C s H ex) ifs c) (he:∀C s H ex,PE (fG X scope Nc C s H ex) elt te) (hN:X.N.Nodup) (hni:X.N[i]?=some x) (hl:Loc X.env.scope x) (hf:X.fn x=true∨X.env.scope.names.lookup x=some .local)
 (hsw:swapsWith (.ListComp elt [⟨tg,iter,ifs,0⟩] scope pos) (some (.Name x pos')) spos.line X.env=pure true)
 (hs:∀x,foldedSetIterable iter X.env x=pure x:=by intro _;rfl):PS X (.Assign [.Name x pos'] (.ListComp elt [⟨tg,iter,ifs,0⟩] scope pos) spos) (m4 (q_ wi fr g c te) (iL i)):=by
 intro pins s σ H D I h
 have hcl:closureFor scope X.env=pure (eZ X.env.cells scope.names []):=nj fun x hx hk=>I.ok.has x.1 (S.free x hx hk)
 rw[exec_Assign_Name_used _ _ _ _ hsw]
 refine wpAny_bind (wpAny_standAt (wpAny_bind ?_))
 show wpAny _ X.A (do let _ ←comprehension (.ListComp elt [⟨tg,iter,ifs,0⟩] scope pos) scope X.env _ (newList []) false (eval iter X.env) (some (assign (.Name x pos') X.env))) _ _ s
 refine wpAny_bind (wpAny_mono (wpAny_comprehension_free (use:=some (assign (.Name x pos') X.env)) (Q:=fun _ s'=>SP X pins D .next s') rfl hs hcl S.kind S.names
  (rg (RR:=fun acc C=>compPost (model X.prog X.w) X.A X.xe (some (assign (.Name x pos') X.env)) (fun _ s'=>SP X pins D .next s') acc C) hx hc S hi hg ht he I h fun l C s6 H5 m hm f J q=>?_)) (fun _ s' hq=>wpAny_pure (wpAny_pure hq)) fun _ _ e=>e)
 show wpAny _ X.A (assign (.Name x pos') X.env (.ref l)) _ _ _
 refine wpAny_assign_Name (sM J hN hni hl (show RelV (.ref l) (.ref l)from rfl) (fun s7 J7 hch=>?_) hf)
 obtain⟨a,hsame,ha⟩:=hch
 have hCa:C≠a:=by
  rcases ha with rfl|ha
  · exact f.2.1
  · exact fun z=>f.2.2.2.2.1 x a ha z.symm
 refine⟨m,hm.sameBut hsame hCa,fun h'' hs''=>⟨σ.set i (some (.ref l)),H5,Inv.forget J7 f hs'',q⟩⟩
end
end L3
namespace L3
open PySem PySem.Spec L2
open PyProof.Rows hiding St
inductive D where
 |aP|bl (b:Bool)|int (i:Int)|str (x:Str)|ty (n:String)|ref (n:Nat)|lst (xs:List D)|tup (xs:List D)
inductive Cell where
 |lst (xs:List D)|ins (C:Addr) (fs:List (Str×D))|dead
  |tab (P:Addr) (pos:Pos) (qual:Str) (b:Bool)
noncomputable abbrev ae:=List Cell
noncomputable abbrev bJ:=List (Option D)
mutual
noncomputable def Rep(α:List (Option Addr))(H:Hp):D→V→Prop
 | .aP,v=>v= .aP
 | .bl b,v=>v= .bl b
 | .int i,v=>v= .int i
 | .str x,v=>v= .str x
 | .ty n,v=>v= .ty n
 | .ref n,v=>α[n]?=some none∨∃a,α[n]?=some (some a)∧v= .ref a
 | .lst xs,v=>∃a vs,v= .ref a∧some a∉α∧Rd H a (.lst vs)∧aG α H xs vs
 | .tup xs,v=>∃a vs,v= .ref a∧some a∉α∧H a=some (.tup vs)∧aG α H xs vs
noncomputable def aG(α:List (Option Addr))(H:Hp):List D→List V→Prop
 | [],vs=>vs=[]
 |d::ds,vs=>∃v r,vs=v::r∧Rep α H d v∧aG α H ds r
end
theorem aR{α:List (Option Addr)}{H:Hp}:∀ {ds:List D} {vs:List V},aG α H ds vs↔Paired (Rep α H) ds vs
 | [],vs=>by
   unfold aG
   constructor
   · rintro rfl;exact .nil
   · intro h;cases h;rfl
 |d::ds,vs=>by
  unfold aG
  constructor
  · rintro⟨v,r,rfl,h1,h2⟩;exact .cons h1 (aR.mp h2)
  · intro h;cases h with|cons h1 h2=>exact⟨_,_,rfl,h1,aR.mpr h2⟩
section
variable {α:List (Option Addr)}{H:Hp}
theorem aG.length{ds:List D}{vs:List V}(h:aG α H ds vs):ds.length=vs.length:=Paired.length (aR.mp h)
theorem qy{A B:Type}{F:A→B→Prop}:∀ {xs:List A} {ys:List B} {i:Nat} {x:A},Paired F xs ys→xs[i]?=some x→∃y,ys[i]?=some y∧F x y
 |_,_,_,_,.nil,e=>by simp at e
 |_,_,0,_,.cons r _,e=>by simp at e;subst e;exact⟨_,rfl,r⟩
 |_,_,i+1,x,.cons _ t,e=>by
  obtain⟨u,h1,h2⟩:=qy (i:=i) (x:=x) t (by simpa using e)
  exact⟨u,by simpa using h1,h2⟩
theorem d9{A B:Type}{F:A→B→Prop}:∀ {xs xs':List A} {ys ys':List B},Paired F xs ys→Paired F xs' ys'→Paired F (xs++xs') (ys++ys')
 |_,_,_,_,.nil,s=>s
 |_,_,_,_,.cons r t,s=> .cons r (d9 t s)
theorem pv{A B:Type}{F:A→B→Prop}:∀ {xs:List A} {ys:List B} (n:Nat),Paired F xs ys→Paired F (xs.take n) (ys.take n)
 |_,_,0,_=> .nil
 |_,_,_+1,.nil=> .nil
 |_,_,n+1,.cons r t=> .cons r (pv n t)
theorem pA{A B:Type}{F:A→B→Prop}:∀ {xs:List A} {ys:List B} (n:Nat),Paired F xs ys→Paired F (xs.drop n) (ys.drop n)
 |_,_,0,r=>r
 |_,_,_+1,.nil=> .nil
 |_,_,n+1,.cons _ t=>pA n t
theorem m9{A B:Type}{F:A→B→Prop}{x:A}{y:B}(r:F x y):∀ {xs:List A} {ys:List B} (i:Nat),Paired F xs ys→Paired F (xs.set i x) (ys.set i y)
 |_,_,_,.nil=> .nil
 |_,_,0,.cons _ t=> .cons r t
 |_,_,i+1,.cons q t=> .cons q (m9 r i t)
theorem lS{A B:Type}{F:A→B→Prop}{xs:List A}{ys:List B}(h:Paired F xs ys):∀k:Nat,Paired F (List.replicate k xs).flatten (List.replicate k ys).flatten
 |0=> .nil
 |k+1=>by
  rw[List.replicate_succ,List.replicate_succ,List.flatten_cons,List.flatten_cons]
  exact d9 h (lS h k)
theorem aG.get{ds:List D}{vs:List V}{i:Nat}{d:D}(h:aG α H ds vs)(e:ds[i]?=some d):∃v,vs[i]?=some v∧Rep α H d v:=qy (aR.mp h) e
end
structure Step(α:List (Option Addr))(H:Hp)(α':List (Option Addr))(H':Hp):Prop where
 ext:∀b o,some b∉α→H b=some o→H' b=some o
 pre:∀(n:Nat) (x:Option Addr),α[n]?=some x→α'[n]?=some x∨α'[n]?=some none
 new:∀b,some b∈α'→some b∉α→H b=none
theorem Step.refl{α:List (Option Addr)}{H:Hp}:Step α H α H:=⟨fun _ _ _ h=>h,fun _ _ h=> .inl h,fun _ h n=>absurd h n⟩
theorem Step.trans{α α1 α2:List (Option Addr)}{H H1 H2:Hp}(a:Step α H α1 H1)(b:Step α1 H1 α2 H2):Step α H α2 H2 where
 ext:=fun c o hc e=>b.ext c o (fun z=>by rw[a.new c z hc]at e;cases e) (a.ext c o hc e)
 pre:=fun n x e=>by
  rcases a.pre n x e with h|h
  · exact b.pre n x h
  · rcases b.pre n none h with h'|h'
    · exact .inr h'
    · exact .inr h'
 new:=fun c hc n=>by
  by_cases h1:some c∈α1
  · exact a.new c h1 n
  · have:=b.new c hc h1
    cases q:H c with
    |none=>rfl
    |some o=>rw[a.ext c o n q]at this;cases this
theorem Step.laid{α:List (Option Addr)}{H:Hp}{p:Addr}{o:HO}(h:H p=none):Step α H α (upd H p o):=
 ⟨fun b u _ e=>by rw[aC (eK e h)];exact e,fun _ _ h=> .inl h,fun _ h n=>absurd h n⟩
theorem Step.cell{α:List (Option Addr)}{H:Hp}{p:Addr}{o:HO}(h:H p=none):Step α H (α++[some p]) (upd H p o):=
 ⟨fun b u _ e=>by rw[aC (eK e h)];exact e,fun n x e=> .inl (by rw[List.getElem?_append_left (List.getElem?_eq_some_iff.mp e).1];exact e),fun b hb n=>by
  rcases List.mem_append.mp hb with z|z
  · exact absurd z n
  · have:b=p:=by simpa using z
    subst this;exact h⟩
theorem Step.write{α:List (Option Addr)}{H:Hp}{p:Addr}{o:HO}(h:some p∈α):Step α H α (upd H p o):=
 ⟨fun b u n e=>by rw[aC (fun z=>by subst z;exact n h)];exact e,fun _ _ h=> .inl h,fun _ h n=>absurd h n⟩
mutual
theorem Rep.step{α α':List (Option Addr)}{H H':Hp}(s:Step α H α' H'):∀ {d:D} {v:V},Rep α H d v→Rep α' H' d v
 | .aP,_,h=>by unfold Rep at h⊢;exact h
 | .bl _,_,h=>by unfold Rep at h⊢;exact h
 | .int _,_,h=>by unfold Rep at h⊢;exact h
 | .str _,_,h=>by unfold Rep at h⊢;exact h
 | .ty _,_,h=>by unfold Rep at h⊢;exact h
 | .ref n,_,h=>by
   unfold Rep at h⊢
   rcases h with h|⟨a,e,r⟩
   · rcases s.pre _ _ h with z|z<;>exact .inl z
   · rcases s.pre _ _ e with z|z
     · exact .inr ⟨a,z,r⟩
     · exact .inl z
 | .lst xs,_,h=>by
   unfold Rep at h⊢
   obtain⟨a,vs,e,n,r,q⟩:=h
   refine⟨a,vs,e,fun z=>?_,?_,aG.step s q⟩
   · have:=s.new a z n
     rcases r with r|⟨o,r⟩<;>(rw[this]at r;cases r)
   · rcases r with r|⟨o,r⟩
     · exact .inl (s.ext _ _ n r)
     · exact .inr ⟨o,s.ext _ _ n r⟩
 | .tup xs,_,h=>by
   unfold Rep at h⊢
   obtain⟨a,vs,e,n,r,q⟩:=h
   exact⟨a,vs,e,(fun z=>by rw[s.new a z n]at r;exact nomatch r),s.ext _ _ n r,aG.step s q⟩
theorem aG.step{α α':List (Option Addr)}{H H':Hp}(s:Step α H α' H'):∀ {ds:List D} {vs:List V},aG α H ds vs→aG α' H' ds vs
 | [],_,h=>by unfold aG at h⊢;exact h
 |d::ds,_,h=>by
  unfold aG at h⊢
  obtain⟨v,r,e,h1,h2⟩:=h
  exact⟨v,r,e,Rep.step s h1,aG.step s h2⟩
end
structure cm(G F H:Hp):Prop where
 eq:∀b,H b=(G b).or (F b)
 t6:∀b o,G b=some o→F b=none
section
variable {G F H:Hp}
theorem cm.get(P:cm G F H){b:Addr}{o:HO}(h:G b=some o):H b=some o:=by rw[P.eq b,h];rfl
theorem cm.same(P:cm G F H):Bk G H:=fun _ _ h=>P.get h
theorem cm.none(P:cm G F H){b:Addr}(h:H b=none):G b=none∧F b=none:=by
 have e:=P.eq b
 rw[h]at e
 cases q:G b with
 |none=>rw[q]at e;exact⟨rfl,e.symm⟩
 |some o=>rw[q]at e;cases e
theorem cm.frame(P:cm G F H){b:Addr}{o:HO}(h:F b=some o):H b=some o∧G b=Option.none:=by
 have hn:G b=Option.none:=by
  cases q:G b with
  |none=>rfl
  |some u=>rw[P.t6 b u q]at h;cases h
 exact⟨by rw[P.eq b,hn,h];rfl,hn⟩
theorem cm.laid(P:cm G F H){p:Addr}{o:HO}(h:H p=Option.none):cm (upd G p o) F (upd H p o):=by
 obtain⟨h1,h2⟩:=P.none h
 refine⟨fun b=>?_,fun b u e=>?_⟩
 · by_cases hb:b=p
   · subst hb;rw[br,br];rfl
   · rw[aC hb,aC hb];exact P.eq b
 · by_cases hb:b=p
   · subst hb;exact h2
   · rw[aC hb]at e;exact P.t6 b u e
theorem cm.write(P:cm G F H){p:Addr}{o o':HO}(h:G p=some o):cm (upd G p o') F (upd H p o'):=by
 refine⟨fun b=>?_,fun b u e=>?_⟩
 · by_cases hb:b=p
   · subst hb;rw[br,br];rfl
   · rw[aC hb,aC hb];exact P.eq b
 · by_cases hb:b=p
   · subst hb;exact P.t6 b o h
   · rw[aC hb]at e;exact P.t6 b u e
theorem cm.hide(P:cm G F H){p:Addr}{o:HO}(h:H p=Option.none):cm G (upd F p o) (upd H p o):=by
 obtain⟨h1,h2⟩:=P.none h
 refine⟨fun b=>?_,fun b u e=>?_⟩
 · by_cases hb:b=p
   · subst hb;rw[br,br,h1];rfl
   · rw[aC hb,aC hb];exact P.eq b
 · by_cases hb:b=p
   · subst hb;rw[h1]at e;cases e
   · rw[aC hb];exact P.t6 b u e
theorem cm.J_(P:cm G F H){p:Addr}{o o':HO}(h:F p=some o):cm G (upd F p o') (upd H p o'):=by
 have h1:=(P.frame h).2
 refine⟨fun b=>?_,fun b u e=>?_⟩
 · by_cases hb:b=p
   · subst hb;rw[br,br,h1];rfl
   · rw[aC hb,aC hb];exact P.eq b
 · by_cases hb:b=p
   · subst hb;rw[h1]at e;cases e
   · rw[aC hb];exact P.t6 b u e
theorem cm.show{p:Addr}{o:HO}(P:cm G (upd F p o) H)(h:F p=Option.none):cm (upd G p o) F H:=by
 have h1:=(P.frame (b:=p) br)
 refine⟨fun b=>?_,fun b u e=>?_⟩
 · by_cases hb:b=p
   · subst hb;rw[br,h1.1];rfl
   · rw[aC hb,P.eq b,aC hb]
 · by_cases hb:b=p
   · subst hb;exact h
   · rw[aC hb]at e
     have:=P.t6 b u e
     rw[aC hb]at this;exact this
end
mutual
theorem Rep.mono{α:List (Option Addr)}{G H:Hp}(s:Bk G H):∀ {d:D} {v:V},Rep α G d v→Rep α H d v
 | .aP,_,h=>by unfold Rep at h⊢;exact h
 | .bl _,_,h=>by unfold Rep at h⊢;exact h
 | .int _,_,h=>by unfold Rep at h⊢;exact h
 | .str _,_,h=>by unfold Rep at h⊢;exact h
 | .ty _,_,h=>by unfold Rep at h⊢;exact h
 | .ref n,_,h=>by unfold Rep at h⊢;exact h
 | .lst xs,_,h=>by
   unfold Rep at h⊢
   obtain⟨a,vs,e,n,r,q⟩:=h
   refine⟨a,vs,e,n,?_,aG.mono s q⟩
   rcases r with r|⟨o,r⟩
   · exact .inl (s _ _ r)
   · exact .inr ⟨o,s _ _ r⟩
 | .tup xs,_,h=>by
   unfold Rep at h⊢
   obtain⟨a,vs,e,n,r,q⟩:=h
   exact⟨a,vs,e,n,s _ _ r,aG.mono s q⟩
theorem aG.mono{α:List (Option Addr)}{G H:Hp}(s:Bk G H):∀ {ds:List D} {vs:List V},aG α G ds vs→aG α H ds vs
 | [],_,h=>by unfold aG at h⊢;exact h
 |d::ds,_,h=>by
  unfold aG at h⊢
  obtain⟨v,r,e,h1,h2⟩:=h
  exact⟨v,r,e,Rep.mono s h1,aG.mono s h2⟩
end
noncomputable def iW(α:List (Option Addr))(H:Hp):List (Str×D)→List (Str×V)→Prop:=Paired fun p q=>p.1=q.1∧Rep α H p.2 q.2
noncomputable def jg(α:List (Option Addr))(H:Hp)(a:Addr):Cell→Prop
 | .lst xs=>∃vs,H a=some (.lst vs)∧aG α H xs vs
 | .ins C fs=>∃dx vs,H a=some (.ins C dx vs)∧iW α H fs vs
 | .dead=>False
 | .tab P pos qual b=>a=P∧∃ps:Array Value,H a=some (.kW ps)∧TriplesOk ps.toList∧
    ((b=false∧codeAmong pos ps.toList=none)∨(b=true∧∃c o vs t,codeAmong pos ps.toList=some (.ref c)∧some c∉α∧H c=some (.mw o (.own c))∧o.data= .fields vs∧vs[1]?=some (.str qual t)))
structure aU(α:List (Option Addr))(st:ae)(H:Hp):Prop where
 len:α.length=st.length
 nd:∀(i j:Nat) (a:Addr),α[i]?=some (some a)→α[j]?=some (some a)→i=j
 at':∀(n:Nat) (c:Cell),st[n]?=some c→(c= .dead∧α[n]?=some none)∨∃a,α[n]?=some (some a)∧jg α H a c
theorem iW.step{α α':List (Option Addr)}{H H':Hp}(s:Step α H α' H'){ds:List (Str×D)}{vs:List (Str×V)}(h:iW α H ds vs):iW α' H' ds vs:=Paired.AB h fun _ _ z=>⟨z.1,z.2.step s⟩
theorem jg.same{α α':List (Option Addr)}{H H':Hp}{a:Addr}{c:Cell}(s:Step α H α' H')(e:H' a=H a)(h:jg α H a c):jg α' H' a c:=by
 cases c with
 |lst xs=>obtain⟨vs,h1,h2⟩:=h;exact⟨vs,e.trans h1,h2.step s⟩
 |ins C fs=>obtain⟨dx,vs,h1,h2⟩:=h;exact⟨dx,vs,e.trans h1,h2.step s⟩
 |dead=>exact h.elim
 |tab P pos qual b=>
  obtain⟨z,ps,h1,h2,h3⟩:=h
  refine⟨z,ps,e.trans h1,h2,?_⟩
  rcases h3 with h3|⟨hb,c,o,vs,t,q1,q2,q3,q4⟩
  · exact .inl h3
  · exact .inr ⟨hb,c,o,vs,t,q1,(fun y=>by rw[s.new c y q2]at q3;cases q3),s.ext c _ q2 q3,q4⟩
theorem jg.some{α:List (Option Addr)}{H:Hp}{a:Addr}{c:Cell}(h:jg α H a c):∃o,H a=some o:=by
 cases c with
 |lst xs=>obtain⟨vs,h1,h2⟩:=h;exact⟨_,h1⟩
 |ins C fs=>obtain⟨dx,vs,h1,h2⟩:=h;exact⟨_,h1⟩
 |dead=>exact h.elim
 |tab P pos qual b=>obtain⟨_,ps,h1,_⟩:=h;exact⟨_,h1⟩
theorem d7{α:List (Option Addr)}{H:Hp}{n:Nat}{v:V}{a:Addr}(e:α[n]?=Option.some (Option.some a))(r:Rep α H (.ref n) v):v= .ref a:=by
 unfold Rep at r
 rcases r with r|⟨b,eb,rfl⟩
 · rw[e]at r;cases r
 · rw[e]at eb;cases eb;rfl
section
variable {α:List (Option Addr)}{st:ae}{H:Hp}
theorem aU.g5(S:aU α st H){n:Nat}{xs:List D}(e:st[n]?=Option.some (.lst xs)):∃a,α[n]?=Option.some (Option.some a)∧∃vs,H a=Option.some (.lst vs)∧aG α H xs vs:=by
 rcases S.at' n _ e with⟨z,_⟩|z
 · cases z
 · exact z
theorem aU.qM(S:aU α st H){n:Nat}{C:Addr}{fs:List (Str×D)}(e:st[n]?=Option.some (.ins C fs)):∃a,α[n]?=Option.some (Option.some a)∧∃dx vs,H a=Option.some (.ins C dx vs)∧iW α H fs vs:=by
 rcases S.at' n _ e with⟨z,_⟩|z
 · cases z
 · exact z
theorem aU.mem(S:aU α st H){a:Addr}(h:Option.some a∈α):∃(n:Nat) (c:Cell),α[n]?=Option.some (Option.some a)∧st[n]?=Option.some c∧jg α H a c:=by
 obtain⟨n,hn,e⟩:=List.mem_iff_getElem.mp h
 have hl:n<st.length:=by rw[←S.len];exact hn
 have e':α[n]?=Option.some (Option.some a):=by rw[List.getElem?_eq_getElem hn,e]
 rcases S.at' n st[n] (by simp[hl])with⟨_,q⟩|⟨a',q,ca⟩
 · rw[e']at q;cases q
 · rw[e']at q;cases q
   exact⟨n,_,e',by simp[hl],ca⟩
theorem aU.lN(S:aU α st H){p:Addr}(h:H p=none):Option.some p∉α:=fun z=>by
 obtain⟨n,c,_,_,ca⟩:=S.mem z
 obtain⟨o,e⟩:=ca.some
 rw[h]at e;cases e
theorem aU.laid(S:aU α st H){p:Addr}{o:HO}(h:H p=none):aU α st (upd H p o):=
 ⟨S.len,S.nd,fun n c e=>by
  rcases S.at' n c e with z|⟨a,q,ca⟩
  · exact .inl z
  · exact .inr ⟨a,q,ca.same (Step.laid h) (aC (by obtain⟨u,z⟩:=ca.some;exact eK z h))⟩⟩
theorem aU.cell(S:aU α st H){p:Addr}{o:HO}{c:Cell}(h:H p=none)(hc:jg (α++[Option.some p]) (upd H p o) p c):aU (α++[Option.some p]) (st++[c]) (upd H p o) where
 len:=by rw[List.length_append,List.length_append,S.len];rfl
 nd:=fun i j a ei ej=>by
  have key:∀(i:Nat) (a:Addr),(α++[Option.some p])[i]?=Option.some (Option.some a)→(i<α.length∧α[i]?=Option.some (Option.some a))∨(i=α.length∧a=p):=by
   intro i a e
   by_cases hi:i<α.length
   · rw[List.getElem?_append_left hi]at e;exact .inl ⟨hi,e⟩
   · rw[List.getElem?_append_right (Nat.le_of_not_lt hi)]at e
     have h0:i-α.length=0:=by
      cases q:i-α.length with
      |zero=>rfl
      |succ k=>rw[q]at e;simp at e
     rw[h0]at e
     have:p=a:=by simpa using e
     exact .inr ⟨by omega,this.symm⟩
  rcases key i a ei with⟨h1,e1⟩|⟨h1,e1⟩<;>rcases key j a ej with⟨h2,e2⟩|⟨h2,e2⟩
  · exact S.nd i j a e1 e2
  · subst e2;exact absurd (List.mem_of_getElem? e1) (S.lN h)
  · subst e1;exact absurd (List.mem_of_getElem? e2) (S.lN h)
  · omega
 at':=fun n d e=>by
  by_cases hn:n<st.length
  · rw[List.getElem?_append_left hn]at e
    have hl:n<α.length:=by rw[S.len];exact hn
    rcases S.at' n d e with⟨z,q⟩|⟨a,q,ca⟩
    · exact .inl ⟨z,by rw[List.getElem?_append_left hl];exact q⟩
    · exact .inr ⟨a,by rw[List.getElem?_append_left hl];exact q,ca.same (Step.cell h) (aC (by obtain⟨u,z⟩:=ca.some;exact eK z h))⟩
  · rw[List.getElem?_append_right (Nat.le_of_not_lt hn)]at e
    have h0:n-st.length=0:=by
     cases q:n-st.length with
     |zero=>rfl
     |succ k=>rw[q]at e;simp at e
    rw[h0]at e
    have hd:c=d:=by simpa using e
    subst hd
    refine .inr ⟨p,?_,hc⟩
    rw[List.getElem?_append_right (by rw[S.len];exact Nat.le_of_not_lt hn),S.len,h0]
    rfl
theorem aU.write(S:aU α st H){p:Addr}{o:HO}{c:Cell}{n:Nat}(e:α[n]?=Option.some (Option.some p))(hc:jg α (upd H p o) p c):aU α (st.set n c) (upd H p o) where
 len:=by rw[List.length_set];exact S.len
 nd:=S.nd
 at':=fun m d q=>by
  have hp:Option.some p∈α:=List.mem_of_getElem? e
  by_cases hm:m=n
  · subst hm
    have hl:m<st.length:=by
     have:=(List.getElem?_eq_some_iff.mp q).1
     rw[List.length_set]at this;exact this
    rw[List.getElem?_set_self hl]at q
    cases q
    exact .inr ⟨p,e,hc⟩
  · rw[List.getElem?_set_ne (Ne.symm hm)]at q
    rcases S.at' m d q with z|⟨a,r,ca⟩
    · exact .inl z
    · refine .inr ⟨a,r,ca.same (Step.write hp) (aC fun z=>?_)⟩
      subst z
      exact hm (S.nd m n _ r e)
end
end L3
namespace L3
open PySem PySem.Spec L2
open PyProof.Rows hiding St
noncomputable abbrev DK:=D→ae→Prop
noncomputable abbrev DE:=bJ→ae→DK→Prop
noncomputable abbrev DT:=bJ→ae→(Bool→ae→Prop)→Prop
noncomputable abbrev DA:=bJ→ae→(List D→ae→Prop)→Prop
structure jr where
 nx:bJ→ae→Prop
 rt:DK
 bk:bJ→ae→Prop:=fun _ _=>False
 ct:bJ→ae→Prop:=fun _ _=>False
noncomputable abbrev DS:=jr→bJ→ae→Prop
structure d6(α:List (Option Addr))(H:Hp)(σd:bJ)(σ:L2.St):Prop where
 len:σd.length=σ.length
 at':∀(i:Nat) (d:D),σd[i]?=some (some d)→∃v,σ[i]?=some (some v)∧Rep α H d v
theorem d6.step{α α':List (Option Addr)}{H H':Hp}{σd:bJ}{σ:L2.St}(s:Step α H α' H')(h:d6 α H σd σ):d6 α' H' σd σ:=
 ⟨h.len,fun i d e=>let⟨v,q,r⟩:=h.at' i d e;⟨v,q,r.step s⟩⟩
theorem d6.set{α:List (Option Addr)}{H:Hp}{σd:bJ}{σ:L2.St}(h:d6 α H σd σ)(i:Nat){d:D}{v:V}(r:Rep α H d v):d6 α H (σd.set i (some d)) (σ.set i (some v)):=by
 refine⟨by rw[List.length_set,List.length_set,h.len],fun j e q=>?_⟩
 have hl:=h.len
 by_cases hj:j=i
 · subst hj
   have hlt:j<σd.length:=by
    have:=(List.getElem?_eq_some_iff.mp q).1
    rw[List.length_set]at this;exact this
   rw[List.getElem?_set_self hlt]at q
   cases q
   exact⟨v,List.getElem?_set_self (by omega),r⟩
 · rw[List.getElem?_set_ne (Ne.symm hj)]at q
   rw[List.getElem?_set_ne (Ne.symm hj)]
   exact h.at' j e q
noncomputable def LK(α:List (Option Addr))(G F:Hp)(K:DK)(Q:VK):Prop:=∀d st',K d st'→∀α' G' H' v,Step α G α' G'→cm G' F H'→aU α' st' G'→Rep α' G' d v→Q v H'
noncomputable def Co(α:List (Option Addr))(G F:Hp)(K:Bool→ae→Prop)(Q:Bool→Hp→Prop):Prop:=∀b st',K b st'→∀α' G' H',Step α G α' G'→cm G' F H'→aU α' st' G'→Q b H'
noncomputable def J6(α:List (Option Addr))(G F:Hp)(K:List D→ae→Prop)(Q:List V→Hp→Prop):Prop:=∀ds st',K ds st'→∀α' G' H' vs,Step α G α' G'→cm G' F H'→aU α' st' G'→aG α' G' ds vs→Q vs H'
inductive IB(t:DE)(σ:L2.St)(H:Hp)(Q:VK):Prop
 |mk (α:List (Option Addr)) (σd:bJ) (st:ae) (K:DK) (G F:Hp) (P:cm G F H) (R:d6 α G σd σ) (S:aU α st G) (h:t σd st K) (k:LK α G F K Q):IB t σ H Q
noncomputable def LE(t:DE):TE:=IB t
inductive Jd(t:DT)(σ:L2.St)(H:Hp)(Q:Bool→Hp→Prop):Prop
 |mk (α:List (Option Addr)) (σd:bJ) (st:ae) (K:Bool→ae→Prop) (G F:Hp) (P:cm G F H) (R:d6 α G σd σ) (S:aU α st G) (h:t σd st K) (k:Co α G F K Q):Jd t σ H Q
noncomputable def LT(t:DT):TT:=Jd t
inductive IF(t:DA)(σ:L2.St)(H:Hp)(Q:List V→Hp→Prop):Prop
 |mk (α:List (Option Addr)) (σd:bJ) (st:ae) (K:List D→ae→Prop) (G F:Hp) (P:cm G F H) (R:d6 α G σd σ) (S:aU α st G) (h:t σd st K) (k:J6 α G F K Q):IF t σ H Q
noncomputable def LA(t:DA):TA:=IF t
theorem LK.here{α:List (Option Addr)}{G F H:Hp}{K:DK}{Q:VK}(h:LK α G F K Q)(P:cm G F H){d:D}{st:ae}{v:V}(k:K d st)(S:aU α st G)(r:Rep α G d v):Q v H:=h d st k α G H v Step.refl P S r
theorem LK.at{α α1:List (Option Addr)}{G F G1:Hp}{K:DK}{Q:VK}(h:LK α G F K Q)(s:Step α G α1 G1):LK α1 G1 F K Q:=fun d st' k α' G' H' v s' P S r=>h d st' k α' G' H' v (s.trans s') P S r
theorem Co.at{α α1:List (Option Addr)}{G F G1:Hp}{K:Bool→ae→Prop}{Q:Bool→Hp→Prop}(h:Co α G F K Q)(s:Step α G α1 G1):Co α1 G1 F K Q:=fun d st' k α' G' H' s' P S=>h d st' k α' G' H' (s.trans s') P S
section
variable {X:Cx}{a b c e:Expr}{es:List Expr}{ta tb tc te:DE}{pos:Pos}
theorem PE.imp{t t':TE}(h:PE X e t)(f:∀σ H Q,t' σ H Q→t σ H Q):PE X e t':=fun pins s σ H Q I q=>h pins s σ H Q I (f σ H Q q)
theorem PT.imp{t t':TT}(h:PT X e t)(f:∀σ H Q,t' σ H Q→t σ H Q):PT X e t':=fun pins s σ H Q I q=>h pins s σ H Q I (f σ H Q q)
theorem PW.imp{t t':TT}(h:PW X e t)(f:∀σ H Q,t' σ H Q→t σ H Q):PW X e t':=fun w pins s σ H Q I q=>h w pins s σ H Q I (f σ H Q q)
theorem PA.imp{t t':TA}(h:PA X es t)(f:∀σ H Q,t' σ H Q→t σ H Q):PA X es t':=fun p pins s σ H Q I q=>h p pins s σ H Q I (f σ H Q q)
noncomputable def aa(i:Nat):DE:=fun σ st K=>match σ[i]? with|some (some d)=>K d st|_=>False
noncomputable def dC(d:D):DE:=fun _ st K=>K d st
theorem HF{i:Nat}{x:Str}(h:PE X (.Name x pos) (Fb i)):PE X (.Name x pos) (LE (aa i)):=PE.imp h fun σ H Q ⟨α,σd,st,K,G,F,P,R,S,t,k⟩=>by
 unfold aa at t
 split at t
 · rename_i d q
   obtain⟨v,e,r⟩:=R.at' i d q
   exact⟨v,e,k.here P t S r⟩
 · exact t.elim
theorem sj{v:V}{d:D}(h:PE X e (tC v))(r:∀α H,Rep α H d v):PE X e (LE (dC d)):=PE.imp h fun σ H Q ⟨α,σd,st,K,G,F,P,R,S,t,k⟩=>k.here P t S (r α G)
theorem H_{i:Int}{j:Nat}:PE X (.Constant (.int i) j pos) (LE (dC (.int i))):=sj FX fun _ _=>by unfold Rep;rfl
theorem JV{i:Bool}{j:Nat}:PE X (.Constant (.bool i) j pos) (LE (dC (.bl i))):=sj Hr fun _ _=>by unfold Rep;rfl
theorem Hb{j:Nat}:PE X (.Constant .none j pos) (LE (dC .aP)):=sj FK fun _ _=>by unfold Rep;rfl
noncomputable abbrev di:=D→D→ae→DK→Prop
noncomputable abbrev t4:=D→ae→DK→Prop
noncomputable abbrev gf:=List D→ae→DK→Prop
inductive IC(r:di)(x y:V)(H:Hp)(Q:VK):Prop
 |mk (α:List (Option Addr)) (d e:D) (st:ae) (K:DK) (G F:Hp) (P:cm G F H) (rx:Rep α G d x) (ry:Rep α G e y) (S:aU α st G) (h:r d e st K) (k:LK α G F K Q):IC r x y H Q
noncomputable def LR(r:di):R2:=IC r
inductive E5(r:t4)(x:V)(H:Hp)(Q:VK):Prop
 |mk (α:List (Option Addr)) (d:D) (st:ae) (K:DK) (G F:Hp) (P:cm G F H) (rx:Rep α G d x) (S:aU α st G) (h:r d st K) (k:LK α G F K Q):E5 r x H Q
noncomputable def BV(r:t4):V→Hp→VK→Prop:=E5 r
inductive GH(r:gf)(xs:List V)(H:Hp)(Q:VK):Prop
 |mk (α:List (Option Addr)) (ds:List D) (st:ae) (K:DK) (G F:Hp) (P:cm G F H) (rx:aG α G ds xs) (S:aU α st G) (h:r ds st K) (k:LK α G F K Q):GH r xs H Q
noncomputable def ij(r:gf):List V→Hp→VK→Prop:=GH r
noncomputable def aj(r:di)(ta tb:DE):DE:=fun σ st K=>ta σ st fun x st1=>tb σ st1 fun y st2=>r x y st2 K
noncomputable def lM(r:t4)(ta:DE):DE:=fun σ st K=>ta σ st fun x st1=>r x st1 K
theorem LE.op{r:di}{σ:L2.St}{H:Hp}{Q:VK}(h:LE (aj r ta tb) σ H Q):zx (LR r) (LE ta) (LE tb) σ H Q:=by
 obtain⟨α,σd,st,K,G,F,P,R,S,t,k⟩:=h
 refine⟨α,σd,st,_,G,F,P,R,S,t,fun d st1 q α1 G1 H1 v s1 P1 S1 r1=>?_⟩
 refine⟨α1,σd,st1,_,G1,F,P1,R.step s1,S1,q,fun d2 st2 q2 α2 G2 H2 v2 s2 P2 S2 r2=>?_⟩
 exact⟨α2,d,d2,st2,K,G2,F,P2,r1.step s2,r2,S2,q2,(k.at s1).at s2⟩
theorem LE.un{r:t4}{σ:L2.St}{H:Hp}{Q:VK}(h:LE (lM r ta) σ H Q):Ja (BV r) (LE ta) σ H Q:=by
 obtain⟨α,σd,st,K,G,F,P,R,S,t,k⟩:=h
 refine⟨α,σd,st,_,G,F,P,R,S,t,fun d st1 q α1 G1 H1 v s1 P1 S1 r1=>?_⟩
 exact⟨α1,d,st1,K,G1,F,P1,r1,S1,q,k.at s1⟩
theorem Js{op:Operator}{r:di}(ho:bR X (binaryOp op) (LR r))(ha:PE X a (LE ta))(hb:PE X b (LE tb)):PE X (.BinOp a op b pos) (LE (aj r ta tb)):=PE.imp (HJ ho ha hb) fun _ _ _ h=>LE.op h
theorem Jj{op:UnaryOp}{r:t4}(ho:vW X (unaryOp op) (BV r))(ha:PE X a (LE ta)):PE X (.UnaryOp op a pos) (LE (lM r ta)):=PE.imp (Il ho ha) fun _ _ _ h=>LE.un h
theorem HA{op:CmpOp}{r:di}(ho:bR X (compareOp op) (LR r))(ha:PE X a (LE ta))(hb:PE X b (LE tb))(hm:behindInMarks op b=false:=by first|exact cW _|rfl):PE X (.Compare a [op] [b] pos) (LE (aj r ta tb)):=PE.imp (CK ho ha hb hm) fun _ _ _ h=>LE.op h
noncomputable def dg(t:DE):DT:=fun σ st K=>t σ st fun d st1=>match d with| .bl b=>K b st1|_=>False
theorem LT.test{σ:L2.St}{H:Hp}{Q:Bool→Hp→Prop}(h:LT (dg te) σ H Q):LE te σ H fun x H'=>∃k,x= .bl k∧Q k H':=by
 obtain⟨α,σd,st,K,G,F,P,R,S,t,k⟩:=h
 refine⟨α,σd,st,_,G,F,P,R,S,t,fun d st1 q α1 G1 H1 v s1 P1 S1 r1=>?_⟩
 cases d with
 |bl b=>
  unfold Rep at r1
  exact⟨b,r1,k b st1 q α1 G1 H1 s1 P1 S1⟩
 |_=>exact q.elim
theorem Fl{op:CmpOp}{r:di}(ho:bR X (compareOp op) (LR r))(ha:PE X a (LE ta))(hb:PE X b (LE tb))(hm:behindInMarks op b=false:=by first|exact cW _|rfl):PT X (.Compare a [op] [b] pos) (LT (dg (aj r ta tb))):=PT.imp (DX ho ha hb hm) fun σ H Q h=>by
 have q:=LT.test h
 exact LE.op (Q:=fun x H'=>∃k,x= .bl k∧Q k H') q
theorem Gr(he:PE X e (LE te))(hv:∀whole,isTrue e X.env whole=(do let v ←whole;standAt e.pos;holding [v] (truthy v)):=by intro _;rfl):PT X e (LT (dg te)):=PT.imp (EI he hv) fun σ H Q h=>LT.test h
noncomputable def xp(t:DT):DT:=fun σ st K=>t σ st fun b st1=>K (!b) st1
noncomputable def qV(t u:DT):DT:=fun σ st K=>t σ st fun b st1=>if b=true then u σ st1 K else K false st1
noncomputable def xX(t u:DT):DT:=fun σ st K=>t σ st fun b st1=>if b=true then K true st1 else u σ st1 K
theorem Fi{t:DT}(ha:PT X a (LT t)):PT X (.UnaryOp .Not a pos) (LT (xp t)):=PT.imp (EH ha) fun σ H Q ⟨α,σd,st,K,G,F,P,R,S,t,k⟩=>
 ⟨α,σd,st,_,G,F,P,R,S,t,fun b st1 q α1 G1 H1 s1 P1 S1=>k _ st1 q α1 G1 H1 s1 P1 S1⟩
theorem LT.and{t u:DT}{σ:L2.St}{H:Hp}{Q:Bool→Hp→Prop}(h:LT (qV t u) σ H Q):FZ (LT t) (LT u) σ H Q:=by
 obtain⟨α,σd,st,K,G,F,P,R,S,t,k⟩:=h
 refine⟨α,σd,st,_,G,F,P,R,S,t,fun b st1 q α1 G1 H1 s1 P1 S1=>?_⟩
 cases b with
 |true=>exact⟨α1,σd,st1,K,G1,F,P1,R.step s1,S1,q,k.at s1⟩
 |false=>exact k _ st1 q α1 G1 H1 s1 P1 S1
theorem LT.or{t u:DT}{σ:L2.St}{H:Hp}{Q:Bool→Hp→Prop}(h:LT (xX t u) σ H Q):IG (LT t) (LT u) σ H Q:=by
 obtain⟨α,σd,st,K,G,F,P,R,S,t,k⟩:=h
 refine⟨α,σd,st,_,G,F,P,R,S,t,fun b st1 q α1 G1 H1 s1 P1 S1=>?_⟩
 cases b with
 |false=>exact⟨α1,σd,st1,K,G1,F,P1,R.step s1,S1,q,k.at s1⟩
 |true=>exact k _ st1 q α1 G1 H1 s1 P1 S1
theorem Ee{t:DT}(ha:PT X a (LT t)):PW X (.BoolOp .And [a] pos) (LT t):=pw_and1 ha
theorem FA{t:DT}(ha:PT X a (LT t)):PW X (.BoolOp .Or [a] pos) (LT t):=pw_or1 ha
theorem Ej{t u:DT}(ha:PT X a (LT t))(hb:PW X (.BoolOp .And (b::es) pos) (LT u)):PW X (.BoolOp .And (a::b::es) pos) (LT (qV t u)):=PW.imp (pw_and ha hb) fun _ _ _ h=>LT.and h
theorem GW{t u:DT}(ha:PT X a (LT t))(hb:PW X (.BoolOp .Or (b::es) pos) (LT u)):PW X (.BoolOp .Or (a::b::es) pos) (LT (xX t u)):=PW.imp (pw_or ha hb) fun _ _ _ h=>LT.or h
noncomputable def BD(t:DT)(ta tb:DE):DE:=fun σ st K=>t σ st fun b st1=>if b=true then ta σ st1 K else tb σ st1 K
theorem HC{t:DT}(hc:PT X c (LT t))(ha:PE X a (LE ta))(hb:PE X b (LE tb)):PE X (.IfExp c a b pos) (LE (BD t ta tb)):=PE.imp (Br hc ha hb) fun σ H Q ⟨α,σd,st,K,G,F,P,R,S,t,k⟩=>by
 refine⟨α,σd,st,_,G,F,P,R,S,t,fun b st1 q α1 G1 H1 s1 P1 S1=>?_⟩
 cases b with
 |true=>exact⟨α1,σd,st1,K,G1,F,P1,R.step s1,S1,q,k.at s1⟩
 |false=>exact⟨α1,σd,st1,K,G1,F,P1,R.step s1,S1,q,k.at s1⟩
noncomputable def aw:DA:=fun _ st K=>K [] st
noncomputable def ag(ta:DE)(tr:DA):DA:=fun σ st K=>ta σ st fun x st1=>tr σ st1 fun xs st2=>K (x::xs) st2
theorem yT:PA X [] (LA aw):=PA.imp EV fun σ H Q ⟨α,σd,st,K,G,F,P,R,S,t,k⟩=>k [] st t α G H [] Step.refl P S (by unfold aG;rfl)
theorem wq{tr:DA}(ha:PE X e (LE te))(hr:PA X es (LA tr))(hs:starEach (e::es) X.env=(false,eval e X.env)::starEach es X.env:=by rfl):PA X (e::es) (LA (ag te tr)):=PA.imp (C_ ha hr hs) fun σ H Q ⟨α,σd,st,K,G,F,P,R,S,t,k⟩=>by
 refine⟨α,σd,st,_,G,F,P,R,S,t,fun d st1 q α1 G1 H1 v s1 P1 S1 r1=>?_⟩
 refine⟨α1,σd,st1,_,G1,F,P1,R.step s1,S1,q,fun ds st2 q2 α2 G2 H2 vs s2 P2 S2 r2=>?_⟩
 exact k _ st2 q2 α2 G2 H2 (v::vs) (s1.trans s2) P2 S2 (by unfold aG;exact⟨v,vs,rfl,r1.step s2,r2⟩)
noncomputable def w9(t:DA):DE:=fun σ st K=>t σ st fun ds st1=>ds.length≤sizeLine∧K (.tup ds) st1
noncomputable def iz(t:DA):DE:=fun σ st K=>t σ st fun ds st1=>ds.length≤sizeLine∧K (.lst ds) st1
noncomputable def kL(t:DA):DE:=fun σ st K=>t σ st fun ds st1=>ds.length≤sizeLine∧K (.ref st1.length) (st1++[.lst ds])
theorem LK.tup{α:List (Option Addr)}{G F H:Hp}{K:DK}{Q:VK}{ds:List D}{vs:List V}{st:ae}{p:Addr}(k:LK α G F K Q)(P:cm G F H)(q:K (.tup ds) st)(S:aU α st G)(r:aG α G ds vs)(hp:H p=none):Q (.ref p) (upd H p (.tup vs)):=
 have hg:=(P.none hp).1
 k _ st q α _ _ _ (Step.laid hg) (P.laid hp) (S.laid hg) (by unfold Rep;exact⟨p,vs,rfl,S.lN hg,br,r.step (Step.laid hg)⟩)
theorem LK.lst{α:List (Option Addr)}{G F H:Hp}{K:DK}{Q:VK}{ds:List D}{vs:List V}{st:ae}{p:Addr}(k:LK α G F K Q)(P:cm G F H)(q:K (.lst ds) st)(S:aU α st G)(r:aG α G ds vs)(hp:H p=none):Q (.ref p) (upd H p (.lst vs)):=
 have hg:=(P.none hp).1
 k _ st q α _ _ _ (Step.laid hg) (P.laid hp) (S.laid hg) (by unfold Rep;exact⟨p,vs,rfl,S.lN hg,.of br,r.step (Step.laid hg)⟩)
theorem LK.new{α:List (Option Addr)}{G F H:Hp}{K:DK}{Q:VK}{ds:List D}{vs:List V}{st:ae}{p:Addr}(k:LK α G F K Q)(P:cm G F H)(q:K (.ref st.length) (st++[.lst ds]))(S:aU α st G)(r:aG α G ds vs)(hp:H p=none):Q (.ref p) (upd H p (.lst vs)):=
 have hg:=(P.none hp).1
 k _ _ q (α++[some p]) _ _ _ (Step.cell hg) (P.laid hp) (S.cell hg ⟨vs,br,r.step (Step.cell hg)⟩) (by
  unfold Rep
  refine .inr ⟨p,?_,rfl⟩
  rw[List.getElem?_append_right (by rw[S.len];exact Nat.le_refl _),S.len,Nat.sub_self]
  rfl)
theorem Hn{n:Nat}{t:DA}(h:PA X es (LA t)):PE X (.Tuple es n pos) (LE (w9 t)):=PE.imp (GF h) fun σ H Q ⟨α,σd,st,K,G,F,P,R,S,t,k⟩=>
 ⟨α,σd,st,_,G,F,P,R,S,t,fun ds st1 q α1 G1 H1 vs s1 P1 S1 r1=>⟨by rw[←r1.length];exact q.1,fun p hp=>(k.at s1).tup P1 q.2 S1 r1 hp⟩⟩
theorem Ie{t:DA}(h:PA X es (LA t)):PE X (.List es pos) (LE (iz t)):=PE.imp (zT h) fun σ H Q ⟨α,σd,st,K,G,F,P,R,S,t,k⟩=>
 ⟨α,σd,st,_,G,F,P,R,S,t,fun ds st1 q α1 G1 H1 vs s1 P1 S1 r1=>⟨by rw[←r1.length];exact q.1,fun p hp=>(k.at s1).lst P1 q.2 S1 r1 hp⟩⟩
theorem Iw{t:DA}(h:PA X es (LA t)):PE X (.List es pos) (LE (kL t)):=PE.imp (zT h) fun σ H Q ⟨α,σd,st,K,G,F,P,R,S,t,k⟩=>
 ⟨α,σd,st,_,G,F,P,R,S,t,fun ds st1 q α1 G1 H1 vs s1 P1 S1 r1=>⟨by rw[←r1.length];exact q.1,fun p hp=>(k.at s1).new P1 q.2 S1 r1 hp⟩⟩
noncomputable abbrev cY:=List D→ae→DK→Prop
inductive Ff(T:cY)(vs:List V)(H:Hp)(Q:VK):Prop
 |mk (α:List (Option Addr)) (ds:List D) (st:ae) (K:DK) (G F:Hp) (P:cm G F H) (rx:aG α G ds vs) (S:aU α st G) (h:T ds st K) (k:LK α G F K Q):Ff T vs H Q
noncomputable def aL(S:cY):Sp:=fun vs H Q _=>Ff S vs H Q
noncomputable def bg(S:cY)(t:DA):DE:=fun σ st K=>t σ st fun ds st1=>S ds st1 K
theorem LE.call{S:cY}{t:DA}{σ:L2.St}{H:Hp}{Q:VK}(h:LE (bg S t) σ H Q):Ck (aL S) [] E0 (LA t) σ H Q:=by
 obtain⟨α,σd,st,K,G,F,P,R,S,t,k⟩:=h
 refine⟨α,σd,st,_,G,F,P,R,S,t,fun ds st1 q α1 G1 H1 vs s1 P1 S1 r1=>?_⟩
 try dsimp only
 rw[List.append_nil]
 exact⟨α1,ds,st1,K,G1,F,P1,r1,S1,q,k.at s1⟩
theorem Gb{S:cY}{k:Nat}{f:Addr}{fd:FuncData}{ps:List Str}{x:Str}{p:Pos}{t:DA}(F:ax X.prog X.w X.K X.mg X.base aJ k f fd ps (aL S))(hr:dm k X.A)(hg:Gl X x)(hm:X.mg x=some (.ref f))(hk:PySem.W.keepIn X.K (.ref f)=true)(hb:Binds X.K fd ps [])
 (ha:PA X (e::es) (LA t)) (hdb:(x==("__debug__":Str))=false:=by decide) (he:starEach (e::es) X.env=(false,eval e X.env)::starEach es X.env:=by rfl) (hpl:(backTo pos (starEach es X.env)).any (·.1)=false:=by rfl):
 PE X (.Call (.Name x p) (e::es) [] pos) (LE (bg S t)):=PE.imp (Df F hr hg hm hk hb .nil tH ha hdb he hpl) fun _ _ _ h=>LE.call h
noncomputable def dZ(r:gf)(t:DA):DE:=fun σ st K=>t σ st fun ds st1=>r ds st1 K
theorem LE.cb{r:gf}{t:DA}{σ:L2.St}{H:Hp}{Q:VK}(h:LE (dZ r t) σ H Q):Ex (ij r) (LA t) σ H Q:=by
 obtain⟨α,σd,st,K,G,F,P,R,S,t,k⟩:=h
 refine⟨α,σd,st,_,G,F,P,R,S,t,fun ds st1 q α1 G1 H1 vs s1 P1 S1 r1=>?_⟩
 exact⟨α1,ds,st1,K,G1,F,P1,r1,S1,q,k.at s1⟩
end
end L3
namespace L3
open PySem PySem.Spec L2
open PyProof.Rows hiding St
section
variable {X:Cx}
theorem bR.imp{f:Value→Value→Sem Value}{r r':R2}(h:bR X f r)(k:∀x y H Q,r' x y H Q→r x y H Q):bR X f r':=fun pins s σ H x y v u Q I rx ry q=>h pins s σ H x y v u Q I rx ry (k x y H Q q)
theorem cn.imp{f:Value}{r r':List V→Hp→VK→Prop}(h:cn X f r)(k:∀xs H Q,r' xs H Q→r xs H Q):cn X f r':=fun pins s σ H xs us Q I rs q=>h pins s σ H xs us Q I rs (k xs H Q q)
noncomputable def nD(C:Int→Int→Prop)(g:Int→Int→D):di:=fun x y st K=>match x,y with| .int i,.int j=>C i j∧K (g i j) st|_,_=>False
theorem iA{f:Value→Value→Sem Value}{C:Int→Int→Prop}{g:Int→Int→D}{g':Int→Int→V}(hg:∀i j α H,Rep α H (g i j) (g' i j))(h:bR X f (rI C g')):bR X f (LR (nD C g)):=bR.imp h fun x y H Q ⟨α,d,e,st,K,G,F',P,r1,r2,S,q,k⟩=>by
 cases d<;>cases e<;>first
  |exact q.elim
  |(unfold Rep at r1 r2;exact⟨_,_,r1,r2,q.1,k.here P q.2 S (hg _ _ _ _)⟩)
noncomputable abbrev T2:Int→Int→Prop:=fun _ _=>True
theorem qo{g:Int→Int→V}{f:Value→Value→Sem Value}(h:bR X f (qT g)):bR X f (rI T2 g):=bR.imp h fun x y H Q ⟨i,j,e1,e2,_,q⟩=>⟨i,j,e1,e2,q⟩
noncomputable abbrev By:di:=nD T2 fun i j=> .int (i-j)
noncomputable abbrev zR:di:=nD (fun _ j=>j≠0∧j.natAbs.log2<9000) fun i j=> .int (i.fdiv j)
noncomputable abbrev Cq:di:=nD (fun _ j=>j≠0) fun i j=> .int (i.fmod j)
noncomputable abbrev BY:di:=nD Aw fun i j=> .int (i^j.toNat)
noncomputable abbrev E4:di:=nD T2 fun i j=> .bl (decide (i<j))
noncomputable abbrev ET:di:=nD T2 fun i j=> .bl (decide (i≤j))
noncomputable abbrev GN:di:=nD T2 fun i j=> .bl (decide (j<i))
noncomputable abbrev Ey:di:=nD T2 fun i j=> .bl (decide (j≤i))
theorem He:bR X (binaryOp .Sub) (LR By):=iA (fun _ _ _ _=>by unfold Rep;rfl) (qo GO)
theorem Em:bR X (binaryOp .FloorDiv) (LR zR):=iA (fun _ _ _ _=>by unfold Rep;rfl) (wV fun i j _ _ _ _ _ hc q=>floordiv_int hc.1 q (.inl (PyProof.noPylong_of_log2 hc.2)))
theorem Hu:bR X (binaryOp .Mod) (LR Cq):=iA (fun _ _ _ _=>by unfold Rep;rfl) DJ
theorem Hz:bR X (binaryOp .Pow) (LR BY):=iA (fun _ _ _ _=>by unfold Rep;rfl) FV
theorem Jl:bR X (compareOp .Lt) (LR E4):=iA (fun _ _ _ _=>by unfold Rep;rfl) (qo Iy)
theorem Jh:bR X (compareOp .LtE) (LR ET):=iA (fun _ _ _ _=>by unfold Rep;rfl) (qo GU)
theorem JJ:bR X (compareOp .Gt) (LR GN):=iA (fun _ _ _ _=>by unfold Rep;rfl) (qo GS)
theorem Ju:bR X (compareOp .GtE) (LR Ey):=iA (fun _ _ _ _=>by unfold Rep;rfl) (qo Hx)
noncomputable def Cv:t4:=fun x st K=>match x with| .int i=>K (.int (-i)) st|_=>False
theorem HW:vW X (unaryOp .USub) (BV Cv):=fun pins s σ H x v Q I rx ⟨α,d,st,K,G,F',P,r,S,q,k⟩=>by
 cases d<;>first
  |exact q.elim
  |(unfold Rep at r;exact EY pins s σ H x v Q I rx ⟨_,r,k.here P q S (by unfold Rep;rfl)⟩)
theorem Inv.rJ{pins:List (Addr×Obj)}{σ:L2.St}{H:Hp}{s:Shared}{l:Addr}{xs:List V}(I:Inv X pins σ H s)(h:Rd H l (.lst xs)):
 xs.length≤sizeLine∧∃(its:List Value) (n:Nat),Vals xs its∧xs.length=its.length∧s.heap.get? l=some {cls:= .type "list",data:= .seq its.toArray n}:=by
 obtain⟨z,its,n,r,e⟩:=h.ok I.aT
 exact⟨z,its,n,r,r.length,e⟩
theorem fK{G F H:Hp}(P:cm G F H){a:Addr}{u:HO}(h:Rd G a u):Rd H a u:=by
 rcases h with h|⟨o,h⟩
 · exact .inl (P.get h)
 · exact .inr ⟨o,P.get h⟩
theorem rX:bR X (binaryOp .Add) (fun x y H Q=>∃l b xs zs,x= .ref l∧y= .ref b∧Rd H l (.lst xs)∧Rd H b (.lst zs)∧xs.length+zs.length≤sizeLine∧∀p,H p=none→Q (.ref p) (upd H p (.lst (xs++zs)))):=by
 intro pins s σ H x y v u Q I rx ry h
 obtain⟨l,b,xs,zs,rfl,rfl,hH,hB,hz,q⟩:=h
 cases rx
 cases ry
 obtain⟨z,its,n,r,hl,e⟩:=Inv.rJ I hH
 obtain⟨z2,its2,n2,r2,hl2,e2⟩:=Inv.rJ I hB
 refine PySem.P.add_list e e2 ?_ (by rw[List.size_toArray,List.size_toArray];omega)
 have ea:its.toArray++its2.toArray=(its++its2).toArray:=by simp
 rw[ea]
 exact⟨.ref _,_,I.Ak (t':=s.toks) (r.append r2) (by rw[List.length_append];omega),rfl,q _ I.fresh⟩
theorem Dq:bR X (binaryOp .Mult) (fun x y H Q=>∃l k xs,x= .ref l∧y= .int k∧Rd H l (.lst xs)∧ -(2^63)≤k∧k<2^63∧xs.length*k.toNat≤sizeLine∧
 ∀p,H p=none→Q (.ref p) (upd H p (.lst (List.replicate k.toNat xs).flatten))):=by
 intro pins s σ H x y v u Q I rx ry h
 obtain⟨l,k,xs,rfl,rfl,hH,h1,h2,hz,q⟩:=h
 cases rx
 obtain⟨t,rfl⟩:=ry
 obtain⟨z,its,n,r,hl,e⟩:=Inv.rJ I hH
 have hlen:its.toArray.size*k.toNat≤sizeLine:=by rw[List.size_toArray,←hl];exact hz
 have hcap:¬its.toArray.size*k.toNat>(2^63-1)/8:=by
  have:(sizeLine:Nat)≤(2^63-1)/8:=by decide
  omega
 have hfit:¬(!Builtin.List.listFitsIndex k)=true:=by
  rw[fitsIndex_both h1 h2]
  exact Bool.false_ne_true
 have hlong:¬Builtin.List.listTooLong (its.toArray.size*k.toNat)=true:=by
  rw[Au hlen]
  exact Bool.false_ne_true
 have hnew:List.foldl (fun x1 x2=>x1++x2) #[] (List.replicate (if its.toArray.isEmpty=true then 0 else k.toNat) its.toArray)=(List.replicate k.toNat its).flatten.toArray:=by
  have f0:∀m:Nat,List.foldl (fun x1 x2=>x1++x2) #[] (List.replicate m its.toArray)=(List.replicate m its).flatten.toArray:=fun m=>by
   have:=foldl_rep its m []
   rw[List.nil_append]at this
   exact this
  rw[f0]
  cases its with
  |nil=>simp
  |cons a r'=>rw[if_neg (by simp)]
 refine wpAny_binaryOp_repeat_ref (T:="list") (U:="int") (by decide) ⟨_,e,rfl⟩ (fun s'=>typeIs_int s' k t) noFill_list_mul F.fills_int_mul F.slot_int_rmul repeat_list F.slot_int_index.lookup
  (call_meets F.slot_int_rmul (typeIs_int s k t) F.entry_int_rmul (F.args_int_rmul_2 _ _) (int___rmul___int_list k t l its.toArray n)
    ⟨e,rfl,⟨_,e,rfl⟩,call_meets F.slot_list_mul ⟨_,e,rfl⟩ F.entry_list_mul (F.args_list_mul_2 _ _) (AutoListH.list___mul___list_int_3 l its.toArray n k t hfit hcap hlong) ⟨e,?_⟩⟩)
 rw[hnew]
 exact⟨.ref _,_,I.Ak (t':=s.toks) (r.rep k.toNat) (by rw[len_rep,Nat.mul_comm];exact hz),rfl,q _ I.fresh⟩
theorem Aj:bR X (binaryOp .Add) (fun x y H Q=>∃a b xs ys,x= .ref a∧y= .ref b∧H a=some (.tup xs)∧H b=some (.tup ys)∧xs.length+ys.length≤sizeLine∧
 (xs=[]→Q (.ref b) H)∧(xs≠ []→ys=[]→Q (.ref a) H)∧(xs≠ []→ys≠ []→∀p,H p=none→Q (.ref p) (upd H p (.tup (xs++ys))))):=by
 intro pins s σ H x y v u Q I rx ry h
 obtain⟨a,b,xs,ys,rfl,rfl,ha,hb,hz,q0,q1,q2⟩:=h
 by_cases hx:xs=[]
 · cases rx
   cases ry
   obtain⟨its,r1,p1,_⟩:=I.tuple (.of ha)
   obtain⟨its2,r2,p2,_⟩:=I.tuple (.of hb)
   obtain⟨⟨cls,dd,data,sl⟩,ho,hc,n,hd⟩:=id p1
   obtain⟨⟨cls2,dd2,data2,sl2⟩,ho2,hc2,n2,hd2⟩:=id p2
   simp only at hc hd hc2 hd2
   subst hc hd hc2 hd2
   have hi:its=[]:=(L2.Vals.oQ r1).mpr hx
   exact concat_meets ⟨_,ho,rfl⟩ ⟨_,ho2,rfl⟩ noFill_tuple_add seq_tuple_add PySem.F.slot_tuple_add PySem.F.entry_tuple_add (PySem.F.args_tuple_add_2 _ _)
    (tuple_addW0 a b its.toArray its2.toArray n n2 dd dd2 sl sl2 (by simp[hi])) ⟨ho,ho2,⟨.ref b,H,I,rfl,q0 hx⟩⟩
 · exact Dd pins s σ H _ _ v u Q I rx ry ⟨a,b,xs,ys,rfl,rfl,.of ha,.of hb,hx,hz,q1 hx,q2 hx⟩
theorem rK:fillsNumberSlot (.type "tuple") "mul"=pure false:=
 PySem.fillsNumberSlot_seq (id:="tuple.__mul__") (r:=some (.builtin "tuple.__rmul__")) F.slot_tuple_mul.lookup (by decide+kernel) F.slot_tuple_rmul.lookup (by decide+kernel)
theorem ye:seqRepeat? (.type "tuple")=pure (some (.builtin "tuple.__mul__")):=by
 unfold seqRepeat?
 rw[PySem.seqSlot_of (T:="tuple") (name:="__mul__") (id:="tuple.__mul__") F.slot_tuple_mul.lookup (by decide+kernel),PySem.seqSlot_of (T:="tuple") (name:="__rmul__") (id:="tuple.__rmul__") F.slot_tuple_rmul.lookup (by decide+kernel)]
 rfl
theorem uT(a:Int)(t:Tok)(l:Addr)(its:Array Value)(n:Nat)(dd:Option Addr)(sl:Array (Option Value)):Meets (Builtin.«int.__rmul__» ⟨[.int a t,.ref l],[]⟩) (fun _ R s=>s.heap.get? l=some {cls:= .type "tuple",dict:=dd,data:= .seq its n,slots:=sl}∧R (.ok (.ret Value.notImplemented)) s):=
 .of_wp fun P w A R s h=>by
  obtain⟨hp,g,d,tk,os⟩:=s
  obtain⟨hl,h⟩:=h
  wp_walk
  exact⟨_,rfl,h⟩
theorem uR(l:Addr)(its:Array Value)(n:Nat)(dd:Option Addr)(sl:Array (Option Value))(x:Int)(u:Tok)(h0:(decide (x< -(2^63))||decide (x≥2^63))=false)(h1:(its.isEmpty||x==1)=true):
 Meets (Builtin.«tuple.__mul__» ⟨[.ref l,.int x u],[]⟩) (fun _ R s=>s.heap.get? l=some {cls:= .type "tuple",dict:=dd,data:= .seq its n,slots:=sl}∧R (.ok (.ret (.ref l))) s):=
 .of_wp fun P w A R s h=>by
  obtain⟨hp,g,d,tk,os⟩:=s
  obtain⟨hl,h⟩:=h
  wp_walk
  refine wpAny_ite_false (by rw[h0];rfl) ?_
  wp_walk
  exact⟨_,rfl,h⟩
theorem ud(l:Addr)(its:Array Value)(n:Nat)(dd:Option Addr)(sl:Array (Option Value))(x:Int)(u:Tok)(h0:(decide (x< -(2^63))||decide (x≥2^63))=false)(h1:(its.isEmpty||x==1)=false)(h2:(decide (x≤0)||its.isEmpty)=true):
 Meets (Builtin.«tuple.__mul__» ⟨[.ref l,.int x u],[]⟩) (fun _ R s=>s.heap.get? l=some {cls:= .type "tuple",dict:=dd,data:= .seq its n,slots:=sl}∧R (.ok (.ret (.ref s.heap.objs.size))) {s with heap:=s.heap.push {cls:= .type "tuple",data:= .seq #[]}}):=
 .of_wp fun P w A R s h=>by
  obtain⟨hp,g,d,tk,os⟩:=s
  obtain⟨hl,h⟩:=h
  wp_walk
  refine wpAny_ite_false (by rw[h0];rfl) ?_
  wp_walk
  exact⟨_,rfl,h⟩
theorem uh(l:Addr)(its:Array Value)(n:Nat)(dd:Option Addr)(sl:Array (Option Value))(x:Int)(u:Tok)(h0:(decide (x< -(2^63))||decide (x≥2^63))=false)(h1:(its.isEmpty||x==1)=false)(h2:(decide (x≤0)||its.isEmpty)=false)(h3:¬((its.size:Int)*x>(2^63-1)/8))(h4:Builtin.Tuple.tupleTooMany (its.size*x)=false)
 (hz:(List.foldl (fun x1 x2=>x1++x2) #[] (List.replicate x.toNat its)).size≤sizeLine):
 Meets (Builtin.«tuple.__mul__» ⟨[.ref l,.int x u],[]⟩) (fun _ R s=>s.heap.get? l=some {cls:= .type "tuple",dict:=dd,data:= .seq its n,slots:=sl}∧R (.ok (.ret (.ref s.heap.objs.size))) {s with heap:=s.heap.push {cls:= .type "tuple",data:= .seq (List.foldl (fun x1 x2=>x1++x2) #[] (List.replicate x.toNat its))}}):=
 .of_wp fun P w A R s h=>by
  obtain⟨hp,g,d,tk,os⟩:=s
  obtain⟨hl,h⟩:=h
  wp_walk
  refine wpAny_ite_false (by rw[h0];rfl) ?_
  wp_walk
  refine wpAny_ite_false (decide_eq_false h3) ?_
  wp_walk
  exact⟨_,rfl,h⟩
theorem C0:bR X (binaryOp .Mult) (fun x y H Q=>∃l k xs,x= .ref l∧y= .int k∧H l=some (.tup xs)∧ -(2^63)≤k∧k<2^63∧xs.length*k.toNat≤sizeLine∧
 ((xs=[]∨k=1)→Q (.ref l) H)∧(¬(xs=[]∨k=1)→∀p,H p=none→Q (.ref p) (upd H p (.tup (List.replicate k.toNat xs).flatten)))):=by
 intro pins s σ H x y v u Q I rx ry h
 obtain⟨l,k,xs,rfl,rfl,hH,h1,h2,hz,q1,q2⟩:=h
 cases rx
 obtain⟨t,rfl⟩:=ry
 obtain⟨its,r,p1,_⟩:=I.tuple (.of hH)
 obtain⟨⟨cls,dd,data,sl⟩,ho,hc,n,hd⟩:=id p1
 simp only at hc hd
 subst hc hd
 have hl:xs.length=its.length:=r.length
 have f0:(decide (k< -(2^63))||decide (k≥2^63))=false:=by
  rw[decide_eq_false (by omega),decide_eq_false (by omega)];rfl
 refine wpAny_binaryOp_repeat_ref (T:="tuple") (U:="int") (by decide) ⟨_,ho,rfl⟩ (fun s'=>typeIs_int s' k t) rK F.fills_int_mul F.slot_int_rmul ye F.slot_int_index.lookup
  (call_meets F.slot_int_rmul (typeIs_int s k t) F.entry_int_rmul (F.args_int_rmul_2 _ _) (uT k t l its.toArray n dd sl) ⟨ho,rfl,⟨_,ho,rfl⟩,?_⟩)
 by_cases hs:xs=[]∨k=1
 · have f1:(its.toArray.isEmpty||k==1)=true:=by
    rcases hs with z|z
    · have:its=[]:=List.length_eq_zero_iff.mp (by rw[←hl,z];rfl)
      rw[this];rfl
    · rw[z];simp
   exact call_meets F.slot_tuple_mul ⟨_,ho,rfl⟩ F.entry_tuple_mul (F.args_tuple_mul_2 _ _) (uR l its.toArray n dd sl k t f0 f1) ⟨ho,⟨.ref l,H,I,rfl,q1 hs⟩⟩
 · have hne:its≠ []:=fun z=>hs (.inl (List.length_eq_zero_iff.mp (by rw[hl,z];rfl)))
   have hk1:k≠1:=fun z=>hs (.inr z)
   have e1:its.toArray.isEmpty=false:=by simpa using hne
   have f1:(its.toArray.isEmpty||k==1)=false:=by rw[e1];simpa using hk1
   have new:∀(us:List Value) (ys:List V),Vals ys us→ys.length≤sizeLine→Inv X pins σ (upd H s.heap.objs.size (.tup ys)) {s with heap:=s.heap.push {cls:= .type "tuple",data:= .seq us.toArray}}:=fun us ys hv hy=>
    I.laid (t':=s.toks) (fun _ _ q=>Heap.get?_push_of_some _ q) (Nat.le_refl _) ⟨hy,us,hv,⟨_,Heap.get?_push_size _ rfl,rfl,_,rfl⟩⟩
   by_cases h0:k≤0
   · have f2:(decide (k≤0)||its.toArray.isEmpty)=true:=by rw[decide_eq_true h0];rfl
     refine call_meets F.slot_tuple_mul ⟨_,ho,rfl⟩ F.entry_tuple_mul (F.args_tuple_mul_2 _ _) (ud l its.toArray n dd sl k t f0 f1 f2) ⟨ho,?_⟩
     have ez:k.toNat=0:=by omega
     rw[ez]at q2
     exact⟨.ref _,_,new [] [] .nil (Nat.zero_le _),rfl,q2 hs _ I.fresh⟩
   · have f2:(decide (k≤0)||its.toArray.isEmpty)=false:=by rw[decide_eq_false h0,e1];rfl
     have hk:(k.toNat:Int)=k:=by omega
     have hlen:its.toArray.size*k.toNat≤sizeLine:=by rw[List.size_toArray,←hl];exact hz
     have hsz:((its.toArray.size:Nat):Int)*k≤(sizeLine:Int):=by
      rw[←hk]
      exact_mod_cast hlen
     have f3:¬(((its.toArray.size:Nat):Int)*k>(2^63-1)/8):=by
      have:((sizeLine:Nat):Int)≤(2^63-1)/8:=by decide
      omega
     have f4:Builtin.Tuple.tupleTooMany (((its.toArray.size:Nat):Int)*k)=false:=by
      unfold Builtin.Tuple.tupleTooMany
      exact decide_eq_false (by omega)
     have hnew:List.foldl (fun x1 x2=>x1++x2) #[] (List.replicate k.toNat its.toArray)=(List.replicate k.toNat its).flatten.toArray:=by
      have:=foldl_rep its k.toNat []
      rw[List.nil_append]at this
      exact this
     have hfl:(List.replicate k.toNat its).flatten.length=its.length*k.toNat:=by rw[len_rep,Nat.mul_comm]
     refine call_meets F.slot_tuple_mul ⟨_,ho,rfl⟩ F.entry_tuple_mul (F.args_tuple_mul_2 _ _) (uh l its.toArray n dd sl k t f0 f1 f2 f3 f4 (by rw[hnew,List.size_toArray,hfl];exact hlen)) ⟨ho,?_⟩
     rw[hnew]
     exact⟨.ref _,_,new _ _ (r.rep k.toNat) (by rw[len_rep,Nat.mul_comm];exact hz),rfl,q2 hs _ I.fresh⟩
noncomputable def BM:di:=fun x y st K=>match x,y with
 | .int i,.int j=>K (.int (i+j)) st
 | .tup xs,.tup ys=>xs.length+ys.length≤sizeLine∧K (.tup (xs++ys)) st
 | .lst xs,.lst ys=>xs.length+ys.length≤sizeLine∧K (.lst (xs++ys)) st
 | .str x,.str y=>x.length+y.length≤sizeLine∧K (.str (x++y)) st
 |_,_=>False
theorem Ih:bR X (binaryOp .Add) (LR BM):=fun pins s σ H x y v u Q I rx ry ⟨α,d,e,st,K,G,F',P,r1,r2,S,q,k⟩=>by
 cases d<;>cases e<;>try exact q.elim
 · unfold Rep at r1 r2
   exact Eo pins s σ H x y v u Q I rx ry ⟨_,_,r1,r2,k.here P q S (by unfold Rep;rfl)⟩
 · unfold Rep at r1 r2
   exact xM pins s σ H x y v u Q I rx ry ⟨_,_,r1,r2,q.1,k.here P q.2 S (by unfold Rep;rfl)⟩
 · unfold Rep at r1 r2
   obtain⟨a,vs,rfl,na,ha,ra⟩:=r1
   obtain⟨b,ws,rfl,nb,hb,rb⟩:=r2
   refine rX pins s σ H _ _ v u Q I rx ry ⟨a,b,vs,ws,rfl,rfl,fK P ha,fK P hb,by rw[←ra.length,←rb.length];exact q.1,fun p hp=>?_⟩
   exact k.lst P q.2 S (aR.mpr (d9 (aR.mp ra) (aR.mp rb))) hp
 · rename_i xs ys
   unfold Rep at r1 r2
   obtain⟨a,vs,rfl,na,ha,ra⟩:=r1
   obtain⟨b,ws,rfl,nb,hb,rb⟩:=r2
   have hl1:=ra.length
   have hl2:=rb.length
   refine Aj pins s σ H _ _ v u Q I rx ry ⟨a,b,vs,ws,rfl,rfl,P.get ha,P.get hb,by rw[←hl1,←hl2];exact q.1,fun z=>?_,fun _ z=>?_,fun _ _ p hp=>?_⟩
   · refine k.here P q.2 S ?_
     unfold Rep
     have:xs=[]:=by rw[z]at hl1;exact List.length_eq_zero_iff.mp hl1
     subst this
     exact⟨b,ws,rfl,nb,hb,rb⟩
   · refine k.here P q.2 S ?_
     unfold Rep
     have:ys=[]:=by rw[z]at hl2;exact List.length_eq_zero_iff.mp hl2
     subst this
     rw[List.append_nil]
     exact⟨a,vs,rfl,na,ha,ra⟩
   · exact k.tup P q.2 S (aR.mpr (d9 (aR.mp ra) (aR.mp rb))) hp
noncomputable def Ct:di:=fun x y st K=>match x,y with
 | .int i,.int j=>IntMulOk i j∧K (.int (i*j)) st
 | .lst xs,.int k=>(-(2^63)≤k∧k<2^63∧xs.length*k.toNat≤sizeLine)∧K (.lst (List.replicate k.toNat xs).flatten) st
 | .tup xs,.int k=>(-(2^63)≤k∧k<2^63∧xs.length*k.toNat≤sizeLine)∧K (.tup (List.replicate k.toNat xs).flatten) st
 |_,_=>False
theorem Hl:bR X (binaryOp .Mult) (LR Ct):=fun pins s σ H x y v u Q I rx ry ⟨α,d,e,st,K,G,F',P,r1,r2,S,q,k⟩=>by
 cases d<;>cases e<;>try exact q.elim
 · unfold Rep at r1 r2
   have h:bR X (binaryOp .Mult) (rI IntMulOk fun i j=> .int (i*j)):=wV fun _ _ _ _ _ _ _ hc q=>mul_int q hc
   exact h pins s σ H x y v u Q I rx ry ⟨_,_,r1,r2,q.1,k.here P q.2 S (by unfold Rep;rfl)⟩
 · unfold Rep at r1 r2
   obtain⟨a,vs,rfl,na,ha,ra⟩:=r1
   refine Dq pins s σ H _ _ v u Q I rx ry ⟨a,_,vs,rfl,r2,fK P ha,q.1.1,q.1.2.1,by rw[←ra.length];exact q.1.2.2,fun p hp=>?_⟩
   exact k.lst P q.2 S (aR.mpr (lS (aR.mp ra) _)) hp
 · rename_i xs m
   have r1':=r1
   unfold Rep at r1 r2
   obtain⟨a,vs,rfl,na,ha,ra⟩:=r1
   refine C0 pins s σ H _ _ v u Q I rx ry ⟨a,_,vs,rfl,r2,P.get ha,q.1.1,q.1.2.1,by rw[←ra.length];exact q.1.2.2,fun hs=>?_,fun _ p hp=>k.tup P q.2 S (aR.mpr (lS (aR.mp ra) _)) hp⟩
   have e:(List.replicate m.toNat xs).flatten=xs:=by
    rcases hs with z|z
    · have:xs=[]:=List.length_eq_zero_iff.mp (by rw[ra.length,z];rfl)
      rw[this];simp
    · rw[z];simp
   have q2:=q.2
   rw[e]at q2
   exact k.here P q2 S r1'
noncomputable def live(st:ae):D→Bool
 | .ref n=>(match st[n]? with|some (.lst _)=>true|some (.ins _ _)=>true|_=>false)
 |_=>true
theorem vt{α:List (Option Addr)}{H:Hp}{st:ae}{n:Nat}{v:V}(S:aU α st H)(h:live st (.ref n)=true)(r:Rep α H (.ref n) v):∃a,v= .ref a:=by
 unfold live at h
 simp only at h
 split at h
 · rename_i e
   obtain⟨a,ea,_⟩:=S.g5 e
   exact⟨a,d7 ea r⟩
 · rename_i e
   obtain⟨a,ea,_⟩:=S.qM e
   exact⟨a,d7 ea r⟩
 · cases h
noncomputable def m5:di:=fun x y st K=>match y with
 | .int i=>(match x with
   | .lst xs=>(match dY xs i with|some d=>K d st|none=>False)
   | .tup xs=>(match dY xs i with|some d=>K d st|none=>False)
   | .ref n=>(match st[n]? with|some (.lst xs)=>(match dY xs i with|some d=>K d st|none=>False)|_=>False)
   |_=>False)
 |_=>False
theorem aG.dY{α:List (Option Addr)}{H:Hp}{ds:List D}{vs:List V}{i:Int}{d:D}(h:aG α H ds vs)(e:L2.dY ds i=some d):∃v,L2.dY vs i=some v∧Rep α H d v:=by
 unfold L2.dY at e⊢
 rw[←h.length]
 cases q:jA ds.length i with
 |none=>rw[q]at e;cases e
 |some j=>rw[q]at e;exact h.get e
theorem JF:Ci X (LR m5):=fun value slice pins s σ H x y v u Q I rx ry ⟨α,d,e,st,K,G,F',P,r1,r2,S,q,k⟩ hs=>by
 cases e<;>try exact q.elim
 unfold Rep at r2
 cases d<;>try exact q.elim
 · rename_i i n
   unfold m5 at q
   simp only at q
   split at q
   · split at q
     · rename_i xs e1 _ d' e2
       obtain⟨a,ea,vs,hv,rv⟩:=S.g5 e1
       have r1':=d7 ea r1
       subst r1'
       obtain⟨z,ez,rz⟩:=rv.dY e2
       exact vZ value slice pins s σ H _ _ v u Q I rx ry ⟨a,vs,_,z,rfl,r2,.of (P.get hv),ez,k.here P q S rz⟩ hs
     · exact q.elim
   · exact q.elim
 · unfold m5 at q
   simp only at q
   split at q
   · rename_i xs d' e2
     unfold Rep at r1
     obtain⟨a,vs,rfl,na,ha,ra⟩:=r1
     obtain⟨z,ez,rz⟩:=ra.dY e2
     exact vZ value slice pins s σ H _ _ v u Q I rx ry ⟨a,vs,_,z,rfl,r2,.inl (fK P ha),ez,k.here P q S rz⟩ hs
   · exact q.elim
 · unfold m5 at q
   simp only at q
   split at q
   · rename_i xs d' e2
     unfold Rep at r1
     obtain⟨a,vs,rfl,na,ha,ra⟩:=r1
     obtain⟨z,ez,rz⟩:=ra.dY e2
     exact Gs value slice pins s σ H _ _ v u Q I rx ry ⟨a,vs,_,z,rfl,r2,.of (P.get ha),ez,k.here P q S rz⟩ hs
   · exact q.elim
theorem JQ{a b:Expr}{ta tb:DE}{pos:Pos}(ha:PE X a (LE ta))(hb:PE X b (LE tb))(hs:oy b:=by intro _ _;rfl):PE X (.Subscript a b pos) (LE (aj m5 ta tb)):=PE.imp (Ir JF ha hb hs) fun _ _ _ h=>LE.op h
end
end L3
namespace L3
open PySem PySem.Spec L2
open PyProof.Rows hiding St
section
variable {X:Cx}
noncomputable def items?(st:ae):D→Option (List D)
 | .lst xs=>some xs
 | .tup xs=>some xs
 | .ref n=>(match st[n]? with|some (.lst xs)=>some xs|_=>none)
 |_=>none
@[simp] theorem IT(st:ae)(xs:List D):items? st (.lst xs)=some xs:=rfl
@[simp] theorem IX(st:ae)(xs:List D):items? st (.tup xs)=some xs:=rfl
@[simp] theorem items_int(st:ae)(i:Int):items? st (.int i)=none:=rfl
@[simp] theorem JP(st:ae)(i:Bool):items? st (.bl i)=none:=rfl
@[simp] theorem items_str(st:ae)(i:Str):items? st (.str i)=none:=rfl
@[simp] theorem IH(st:ae):items? st .aP=none:=rfl
theorem aB{st:ae}{n:Nat}{xs:List D}(h:st[n]?=some (.lst xs)):items? st (.ref n)=some xs:=by unfold items?;simp only[h]
theorem lG{α:List (Option Addr)}{H:Hp}{st:ae}{d:D}{v:V}{xs:List D}(S:aU α st H)(r:Rep α H d v)(e:items? st d=some xs):
 ∃p vs,v= .ref p∧aG α H xs vs∧(Rd H p (.lst vs)∨H p=some (.tup vs)):=by
 cases d<;>try(cases e;done)
 · unfold items? at e
   simp only at e
   split at e
   · rename_i ys q
     cases e
     obtain⟨a,ea,vs,h1,h2⟩:=S.g5 q
     have r':=d7 ea r
     subst r'
     exact⟨a,vs,rfl,h2,.inl (.of h1)⟩
   · cases e
 · cases e
   unfold Rep at r
   obtain⟨a,vs,rfl,_,h1,h2⟩:=r
   exact⟨a,vs,rfl,h2,.inl h1⟩
 · cases e
   unfold Rep at r
   obtain⟨a,vs,rfl,_,h1,h2⟩:=r
   exact⟨a,vs,rfl,h2,.inr h1⟩
theorem xl{K:PySem.W.Frag}{G F H:Hp}(P:cm G F H){p:Addr}{vs:List V}(h:Rd G p (.lst vs)∨G p=some (.tup vs)):j4 K H p vs∨ix K H p vs:=h.elim (fun z=> .inl (.inl (fK P z))) fun z=> .inr (.of (P.get z))
theorem jy{α:List (Option Addr)}{H:Hp}{ds:List D}{xs:List V}{d:D}(r:aG α H ds xs)(e:ds=[d]):∃v,xs=[v]∧Rep α H d v:=by
 subst e
 unfold aG at r
 obtain⟨v,q,rfl,h1,h2⟩:=r
 unfold aG at h2
 subst h2
 exact⟨v,rfl,h1⟩
theorem oG{α:List (Option Addr)}{H:Hp}{ds:List D}{xs:List V}{d e:D}(r:aG α H ds xs)(q:ds=[d,e]):∃v u,xs=[v,u]∧Rep α H d v∧Rep α H e u:=by
 subst q
 unfold aG at r
 obtain⟨v,q,rfl,h1,h2⟩:=r
 obtain⟨u,rfl,h3⟩:=jy h2 rfl
 exact⟨v,u,rfl,h1,h3⟩
noncomputable def tR:gf:=fun ds st K=>match ds with
 | [.str x]=>x.length≤sizeLine∧K (.int x.length) st
 | [d]=>(match items? st d with|some xs=>K (.int xs.length) st|none=>False)
 |_=>False
theorem HY:cn X (.builtin "len") (ij tR):=fun pins s σ H xs us Q I rs ⟨α,ds,st,K,G,F',P,r,S,q,k⟩=>by
 unfold tR at q
 split at q
 · rename_i x
   obtain⟨v,rfl,r1⟩:=jy r rfl
   unfold Rep at r1
   subst r1
   exact va pins s σ H _ us Q I rs ⟨x,rfl,q.1,k.here P q.2 S (by unfold Rep;rfl)⟩
 · rename_i d _
   split at q
   · rename_i ys e
     obtain⟨v,rfl,r1⟩:=jy r rfl
     obtain⟨p,vs,rfl,r2,h⟩:=lG S r1 e
     refine vh pins s σ H _ us Q I rs ⟨p,vs,rfl,xl P h,k.here P q S (by unfold Rep;rw[r2.length])⟩
   · exact q.elim
 · exact q.elim
noncomputable def IU(g:Int→Int):gf:=fun ds st K=>match ds with| [.int i]=>K (.int (g i)) st|_=>False
noncomputable abbrev xa:gf:=IU fun i=>if i<0 then-i else i
theorem HI:cn X (.builtin "abs") (ij xa):=cn.imp AI fun xs H Q ⟨α,ds,st,K,G,F',P,r,S,q,k⟩=>by
 unfold xa IU at q
 split at q
 · obtain⟨v,rfl,r1⟩:=jy r rfl
   unfold Rep at r1
   subst r1
   exact⟨_,rfl,k.here P q S (by unfold Rep;rfl)⟩
 · exact q.elim
noncomputable def EG(g:Int→Int→Int):gf:=fun ds st K=>match ds with| [.int i,.int j]=>K (.int (g i j)) st|_=>False
noncomputable abbrev xI:gf:=EG fun i j=>if j>i then j else i
theorem GZ(hc:X.calm=true):cn X (.builtin "max") (ij xI):=cn.imp (zZ hc) fun xs H Q ⟨α,ds,st,K,G,F',P,r,S,q,k⟩=>by
 unfold xI EG at q
 split at q
 · obtain⟨v,u,rfl,r1,r2⟩:=oG r rfl
   unfold Rep at r1 r2
   subst r1 r2
   exact⟨_,_,rfl,k.here P q S (by unfold Rep;rfl)⟩
 · exact q.elim
noncomputable def oB:gf:=fun ds st K=>match ds with| [d]=>(match items? st d with|some xs=>K (.tup xs) st|none=>False)|_=>False
theorem DL:cn X (.type "tuple") (ij oB):=cn.imp tu fun xs H Q ⟨α,ds,st,K,G,F',P,r,S,q,k⟩=>by
 unfold oB at q
 split at q
 · rename_i d
   split at q
   · rename_i ys e
     obtain⟨v,rfl,r1⟩:=jy r rfl
     cases d with
     |tup zs=>
      cases e
      have r0:=r1
      unfold Rep at r1
      obtain⟨a,vs,rfl,na,h1,h2⟩:=r1
      exact⟨a,vs,rfl,.inr ⟨.of (P.get h1),k.here P q S r0⟩⟩
     |_=>
      obtain⟨p,vs,rfl,r2,h⟩:=lG S r1 e
      refine⟨p,vs,rfl,?_⟩
      rcases h with h|h
      · exact .inl ⟨.inl (fK P h),fun l hl=>k.tup P q S r2 hl⟩
      · first
         |(cases e;done)
         |(exfalso
           unfold items? at e
           simp only at e
           first
            |(split at e
              · rename_i z
                obtain⟨a,ea,vs',h1,h2⟩:=S.g5 z
                have e':=d7 ea r1
                cases e'
                rw[h]at h1;cases h1
              · cases e)
            |(unfold Rep at r1
              obtain⟨a,vs',e',_,h1,_⟩:=r1
              cases e'
              rcases h1 with h1|⟨o,h1⟩<;>(rw[h]at h1;cases h1)))
   · exact q.elim
 · exact q.elim
noncomputable def qG:gf:=fun ds st K=>match ds with| [d]=>(match items? st d with|some xs=>K (.lst xs) st|none=>False)|_=>False
theorem GA:cn X (.type "list") (ij qG):=cn.imp nH fun xs H Q ⟨α,ds,st,K,G,F',P,r,S,q,k⟩=>by
 unfold qG at q
 split at q
 · split at q
   · rename_i ys e
     obtain⟨v,rfl,r1⟩:=jy r rfl
     obtain⟨p,vs,rfl,r2,h⟩:=lG S r1 e
     exact⟨p,vs,rfl,xl P h,fun l hl=>k.lst P q S r2 hl⟩
   · exact q.elim
 · exact q.elim
noncomputable def oE:gf:=fun ds st K=>match ds with| [d]=>(match items? st d with|some xs=>K (.ref st.length) (st++[.lst xs])|none=>False)|_=>False
theorem CN:cn X (.type "list") (ij oE):=cn.imp nH fun xs H Q ⟨α,ds,st,K,G,F',P,r,S,q,k⟩=>by
 unfold oE at q
 split at q
 · split at q
   · rename_i ys e
     obtain⟨v,rfl,r1⟩:=jy r rfl
     obtain⟨p,vs,rfl,r2,h⟩:=lG S r1 e
     exact⟨p,vs,rfl,xl P h,fun l hl=>k.new P q S r2 hl⟩
   · exact q.elim
 · exact q.elim
noncomputable def kb:List D→Option (List Bool)
 | []=>some []
 | .bl b::r=>(kb r).map (b:: ·)
 |_::_=>none
noncomputable def lx:List D→Option (List Int)
 | []=>some []
 | .int b::r=>(lx r).map (b:: ·)
 |_::_=>none
theorem qx{α:List (Option Addr)}{H:Hp}:∀ {ds:List D} {vs:List V} {bs:List Bool},aG α H ds vs→kb ds=some bs→vs=bs.map V.bl
 | [],vs,bs,r,e=>by
   unfold aG at r
   cases e
   exact r
 |d::ds,vs,bs,r,e=>by
  unfold aG at r
  obtain⟨v,q,rfl,h1,h2⟩:=r
  cases d<;>try(cases e;done)
  unfold kb at e
  cases z:kb ds with
  |none=>rw[z]at e;cases e
  |some cs=>
   rw[z]at e
   cases e
   unfold Rep at h1
   rw[h1,qx h2 z]
   rfl
theorem sW{α:List (Option Addr)}{H:Hp}:∀ {ds:List D} {vs:List V} {bs:List Int},aG α H ds vs→lx ds=some bs→vs=bs.map V.int
 | [],vs,bs,r,e=>by
   unfold aG at r
   cases e
   exact r
 |d::ds,vs,bs,r,e=>by
  unfold aG at r
  obtain⟨v,q,rfl,h1,h2⟩:=r
  cases d<;>try(cases e;done)
  unfold lx at e
  cases z:lx ds with
  |none=>rw[z]at e;cases e
  |some cs=>
   rw[z]at e
   cases e
   unfold Rep at h1
   rw[h1,sW h2 z]
   rfl
theorem qS:∀ {bs:List Bool} {us:List Value},Vals (bs.map V.bl) us→us=bs.map Value.bool
 | [],_,.nil=>rfl
 |b::bs,_,.cons h t=>by
  have h:_=Value.bool b:=h
  rw[h,qS t]
  rfl
end
end L3
namespace L3
open PySem PySem.Spec L2
open PyProof.Rows hiding St
section
variable {X:Cx}
noncomputable def oJ(st:ae):D→Option String
 | .aP=>some "NoneType"
 | .bl _=>some "bool"
 | .int _=>some "int"
 | .str _=>some "str"
 | .lst _=>some "list"
 | .tup _=>some "tuple"
 | .ref n=>(match st[n]? with|some (.lst _)=>some "list"|_=>none)
 | .ty _=>none
@[simp] theorem Ke(st:ae)(xs:List D):oJ st (.lst xs)=some "list":=rfl
@[simp] theorem Kd(st:ae)(xs:List D):oJ st (.tup xs)=some "tuple":=rfl
@[simp] theorem ty_int(st:ae)(i:Int):oJ st (.int i)=some "int":=rfl
@[simp] theorem Kh(st:ae)(i:Bool):oJ st (.bl i)=some "bool":=rfl
@[simp] theorem ty_str(st:ae)(i:Str):oJ st (.str i)=some "str":=rfl
@[simp] theorem J8(st:ae):oJ st .aP=some "NoneType":=rfl
end
end L3
namespace L3
open PySem PySem.Spec L2 PySem.SeqAt
open PyProof.Rows hiding St
mutual
noncomputable def eG:D→D→Bool
 | .aP,.aP=>true
 | .bl a,.bl b=>a==b
 | .bl a,.int b=>(if a then 1 else 0)==b
 | .int a,.bl b=>a==(if b then 1 else 0)
 | .int a,.int b=>a==b
 | .str a,.str b=>a==b
 | .lst xs,.lst ys=>jF xs ys
 | .tup xs,.tup ys=>jF xs ys
 |_,_=>false
noncomputable def jF:List D→List D→Bool
 | [],[]=>true
 |x::xs,y::ys=>eG x y&&jF xs ys
 |_,_=>false
end
noncomputable def pl:Nat→D→Bool
 |_,.aP=>true
 |_,.bl _=>true
 |_,.int _=>true
 |_,.str _=>true
 |n+1,.lst xs=>xs.all (pl n)
 |n+1,.tup xs=>xs.all (pl n)
 |_,_=>false
mutual
theorem vg:∀(n:Nat) (d:D),pl n d=true→eG d d=true
 |_,.aP,_=>rfl
 |_,.bl _,_=>by simp[eG]
 |_,.int _,_=>by simp[eG]
 |_,.str _,_=>by simp[eG]
 |n+1,.lst xs,h=>by unfold eG;exact oj n xs (by unfold pl at h;exact h)
 |n+1,.tup xs,h=>by unfold eG;exact oj n xs (by unfold pl at h;exact h)
 |0,.lst xs,h=>by cases h
 |0,.tup xs,h=>by cases h
 |_,.ref _,h=>by unfold pl at h;cases h
 |_,.ty _,h=>by unfold pl at h;cases h
theorem oj:∀(n:Nat) (xs:List D),xs.all (pl n)=true→jF xs xs=true
 |_,[],_=>by unfold jF;rfl
 |n,x::xs,h=>by
  rw[List.all_cons,Bool.and_eq_true]at h
  unfold jF
  rw[vg n x h.1,oj n xs h.2]
  rfl
end
mutual
theorem Rep.inj{α:List (Option Addr)}{H:Hp}:∀ {d e:D} {v:V} (n:Nat),pl n d=true→pl n e=true→Rep α H d v→Rep α H e v→d=e
 | .aP,e,v,n,_,he,h1,h2=>by
   unfold Rep at h1;subst h1
   cases e<;>first|(unfold pl at he;cases he;done)|(unfold Rep at h2;cases h2;rfl)|(unfold Rep at h2;cases h2;done)|(unfold Rep at h2;obtain⟨_,_,h2,_⟩:=h2;cases h2)|rfl|(cases h2;done)|(obtain⟨_,_,h2,_⟩:=h2;cases h2)|(obtain⟨_,_,h2⟩:=h2;cases h2)
 | .bl b,e,v,n,_,he,h1,h2=>by
   unfold Rep at h1;subst h1
   cases e<;>first|(unfold pl at he;cases he;done)|(unfold Rep at h2;cases h2;rfl)|(unfold Rep at h2;cases h2;done)|(unfold Rep at h2;obtain⟨_,_,h2,_⟩:=h2;cases h2)|(cases h2;rfl)|(cases h2;done)|(obtain⟨_,_,h2,_⟩:=h2;cases h2)|(obtain⟨_,_,h2⟩:=h2;cases h2)
 | .int b,e,v,n,_,he,h1,h2=>by
   unfold Rep at h1;subst h1
   cases e<;>first|(unfold pl at he;cases he;done)|(unfold Rep at h2;cases h2;rfl)|(unfold Rep at h2;cases h2;done)|(unfold Rep at h2;obtain⟨_,_,h2,_⟩:=h2;cases h2)|(cases h2;rfl)|(cases h2;done)|(obtain⟨_,_,h2,_⟩:=h2;cases h2)|(obtain⟨_,_,h2⟩:=h2;cases h2)
 | .str b,e,v,n,_,he,h1,h2=>by
   unfold Rep at h1;subst h1
   cases e<;>first|(unfold pl at he;cases he;done)|(unfold Rep at h2;cases h2;rfl)|(unfold Rep at h2;cases h2;done)|(unfold Rep at h2;obtain⟨_,_,h2,_⟩:=h2;cases h2)|(cases h2;rfl)|(cases h2;done)|(obtain⟨_,_,h2,_⟩:=h2;cases h2)|(obtain⟨_,_,h2⟩:=h2;cases h2)
 | .ty b,e,v,n,hd,he,h1,h2=>by unfold pl at hd;cases hd
 | .ref b,e,v,n,hd,he,h1,h2=>by unfold pl at hd;cases hd
 | .lst xs,e,v,0,hd,he,h1,h2=>by cases hd
 | .tup xs,e,v,0,hd,he,h1,h2=>by cases hd
 | .lst xs,e,v,n+1,hd,he,h1,h2=>by
   unfold Rep at h1
   obtain⟨a,vs,rfl,na,ha,ra⟩:=h1
   cases e<;>unfold Rep at h2<;>try(cases h2;done)
   · unfold pl at he;cases he
   · obtain⟨a',vs',e',na',ha',ra'⟩:=h2
     cases e'
     have:vs=vs':=by
      rcases ha with ha|⟨o,ha⟩<;>rcases ha' with ha'|⟨o',ha'⟩<;>(rw[ha]at ha';first|(cases ha';rfl)|(cases ha';done))
     subst this
     rw[aG.inj n (by unfold pl at hd;exact hd) (by unfold pl at he;exact he) ra ra']
   · obtain⟨a',vs',e',na',ha',ra'⟩:=h2
     cases e'
     rcases ha with ha|⟨o,ha⟩<;>(rw[ha]at ha';cases ha')
 | .tup xs,e,v,n+1,hd,he,h1,h2=>by
   unfold Rep at h1
   obtain⟨a,vs,rfl,na,ha,ra⟩:=h1
   cases e<;>unfold Rep at h2<;>try(cases h2;done)
   · unfold pl at he;cases he
   · obtain⟨a',vs',e',na',ha',ra'⟩:=h2
     cases e'
     rcases ha' with ha'|⟨o,ha'⟩<;>(rw[ha]at ha';cases ha')
   · obtain⟨a',vs',e',na',ha',ra'⟩:=h2
     cases e'
     rw[ha]at ha'
     cases ha'
     rw[aG.inj n (by unfold pl at hd;exact hd) (by unfold pl at he;exact he) ra ra']
theorem aG.inj{α:List (Option Addr)}{H:Hp}:∀ {ds es:List D} {vs:List V} (n:Nat),ds.all (pl n)=true→es.all (pl n)=true→aG α H ds vs→aG α H es vs→ds=es
 | [],es,vs,n,_,_,h1,h2=>by
   unfold aG at h1
   subst h1
   cases es with
   |nil=>rfl
   |cons e es=>unfold aG at h2;obtain⟨_,_,h,_⟩:=h2;cases h
 |d::ds,es,vs,n,hd,he,h1,h2=>by
  unfold aG at h1
  obtain⟨v,r,rfl,r1,r2⟩:=h1
  cases es with
  |nil=>unfold aG at h2;cases h2
  |cons e es=>
   unfold aG at h2
   obtain⟨v',r',h,q1,q2⟩:=h2
   cases h
   rw[List.all_cons,Bool.and_eq_true]at hd he
   rw[Rep.inj n hd.1 he.1 r1 q1,aG.inj n hd.2 he.2 r2 q2]
end
theorem pM:∀ {xs ys:List D},xs.length≠ys.length→jF xs ys=false
 | [],[],h=>absurd rfl h
 | [],_::_,_=>by unfold jF;rfl
 |_::_,[],_=>by unfold jF;rfl
 |x::xs,y::ys,h=>by
  unfold jF
  rw[pM (by simpa using h),Bool.and_false]
theorem p_:∀ {xs ys:List D},xs.length=ys.length→jF xs ys=(List.range xs.length).all fun j=>eG (xs.getD j .aP) (ys.getD j .aP)
 | [],[],_=>by unfold jF;rfl
 | [],_::_,h=>by cases h
 |_::_,[],h=>by cases h
 |x::xs,y::ys,h=>by
  unfold jF
  rw[List.length_cons,List.range_succ_eq_map,List.all_cons,List.all_map,p_ (by simpa using h)]
  rfl
section
variable {X:Cx}{pins:List (Addr×Obj)}{σ:L2.St}{H:Hp}{s:Shared}{α:List (Option Addr)}
theorem oz{xs:List D}{vs:List V}{its:List Value}(r:aG α H xs vs)(v:Vals vs its)(j:Nat)(hj:j<its.length):∃x,xs[j]?=some (xs.getD j .aP)∧Rep α H (xs.getD j .aP) x∧RelV x its[j]:=by
 have h1:=r.length
 have h2:=v.length
 have hx:j<xs.length:=by omega
 have e:xs[j]?=some (xs.getD j .aP):=by rw[List.getElem?_eq_getElem hx,List.getD_eq_getElem?_getD,List.getElem?_eq_getElem hx];rfl
 obtain⟨x,q,rr⟩:=r.get e
 obtain⟨u,q2,rv⟩:=v.get q
 rw[List.getElem?_eq_getElem hj]at q2
 cases q2
 exact⟨x,e,rr,rv⟩
theorem mL{xs:List D}{n:Nat}(h:xs.all (pl n)=true)(j:Nat):pl n (xs.getD j .aP)=true:=by
 rw[List.getD_eq_getElem?_getD]
 cases e:xs[j]? with
 |none=>cases n<;>rfl
 |some d=>exact List.all_eq_true.mp h d (List.mem_of_getElem? e)
noncomputable def BF:D→Bool
 | .aP=>true
 | .bl _=>true
 | .int _=>true
 | .str _=>true
 |_=>false
theorem wN{A:Around}{d e:D}{x y:V}{u v:Value}(hd:BF d=true)(he:BF e=true)(rd:Rep α H d x)(re:Rep α H e y)(rx:RelV x u)(ry:RelV y v):RcAt A s u v (eG d e)∧EqAt A s u v (eG d e):=by
 cases d<;>cases e<;>try(first|(cases hd;done)|(cases he;done))
 all_goals(unfold Rep at rd re;subst rd re)
 all_goals(first|(obtain⟨t,rfl⟩:=rx;obtain⟨t',rfl⟩:=ry)|(obtain⟨t,rfl⟩:=rx;cases ry)|(cases rx;obtain⟨t,rfl⟩:=ry)|(cases rx;cases ry))
 all_goals unfold eG
 · exact⟨RcAt.none_none,EqAt.same _⟩
 · exact⟨RcAt.none_bool _,EqAt.none_bool _⟩
 · exact⟨RcAt.none_int _ _,EqAt.none_int _ _⟩
 · exact⟨RcAt.none_str _ _,EqAt.none_str _ _⟩
 · exact⟨RcAt.bool_none _,EqAt.bool_none _⟩
 · exact⟨RcAt.bool_bool _ _,EqAt.bool_bool _ _⟩
 · exact⟨RcAt.bool_int _ _ _,EqAt.bool_int _ _ _⟩
 · exact⟨RcAt.bool_str _ _ _,EqAt.bool_str _ _ _⟩
 · exact⟨RcAt.int_none _ _,EqAt.int_none _ _⟩
 · exact⟨RcAt.int_bool _ _ _,EqAt.int_bool _ _ _⟩
 · exact⟨RcAt.int_int _ _ _ _,EqAt.int_int _ _ _ _⟩
 · exact⟨RcAt.int_str _ _ _ _,EqAt.int_str _ _ _ _⟩
 · exact⟨RcAt.str_none _ _,EqAt.str_none _ _⟩
 · exact⟨RcAt.str_bool _ _ _,EqAt.str_bool _ _ _⟩
 · exact⟨RcAt.str_int _ _ _ _,EqAt.str_int _ _ _ _⟩
 · exact⟨RcAt.str_str _ _ _ _,EqAt.str_str _ _ _ _⟩
theorem lst_is(I:Inv X pins σ H s){xs:List D}{x:V}{u:Value}(r:Rep α H (.lst xs) x)(rx:RelV x u):∃a vs its,u= .ref a∧aG α H xs vs∧Vals vs its∧s.heap.IsList a its.toArray:=by
 unfold Rep at r
 obtain⟨a,vs,rfl,na,ha,ra⟩:=r
 cases rx
 obtain⟨z,its,n,rv,hl,eo⟩:=Inv.rJ I ha
 exact⟨a,vs,its,rfl,ra,rv,⟨_,eo,rfl,n,rfl⟩⟩
theorem tup_is(I:Inv X pins σ H s){xs:List D}{x:V}{u:Value}(r:Rep α H (.tup xs) x)(rx:RelV x u):∃a vs its,u= .ref a∧aG α H xs vs∧Vals vs its∧s.heap.IsTuple a its.toArray:=by
 unfold Rep at r
 obtain⟨a,vs,rfl,na,ha,ra⟩:=r
 cases rx
 obtain⟨its,r',p,hz⟩:=I.tuple (ix.of ha)
 exact⟨a,vs,its,rfl,ra,r',p⟩
theorem sS(I:Inv X pins σ H s){A:Around}{xs:List D}{e:D}{x y:V}{u v:Value}(he:BF e=true)(rd:Rep α H (.lst xs) x)(re:Rep α H e y)(rx:RelV x u)(ry:RelV y v)(hu:A.units<cLine):
 (RcAt A s u v (eG (.lst xs) e)∧EqAt A s u v (eG (.lst xs) e))∧RcAt A s v u (eG e (.lst xs))∧EqAt A s v u (eG e (.lst xs)):=by
 obtain⟨a,vs,its,rfl,_,_,hl⟩:=lst_is I rd rx
 cases e<;>try(cases he;done)
 all_goals(unfold Rep at re;subst re)
 all_goals(first|(obtain⟨t,rfl⟩:=ry)|(cases ry))
 all_goals unfold eG
 · exact⟨⟨RcAt.list_none hl hu,EqAt.list_none hl hu⟩,RcAt.none_list hl hu,EqAt.none_list hl hu⟩
 · exact⟨⟨RcAt.list_bool _ hl hu,EqAt.list_bool _ hl hu⟩,RcAt.bool_list _ hl hu,EqAt.bool_list _ hl hu⟩
 · exact⟨⟨RcAt.list_int _ _ hl hu,EqAt.list_int _ _ hl hu⟩,RcAt.int_list _ _ hl hu,EqAt.int_list _ _ hl hu⟩
 · exact⟨⟨RcAt.list_str _ _ hl hu,EqAt.list_str _ _ hl hu⟩,RcAt.str_list _ _ hl hu,EqAt.str_list _ _ hl hu⟩
theorem sJ(I:Inv X pins σ H s){A:Around}{xs:List D}{e:D}{x y:V}{u v:Value}(he:BF e=true)(rd:Rep α H (.tup xs) x)(re:Rep α H e y)(rx:RelV x u)(ry:RelV y v)(hu:A.units<cLine):
 (RcAt A s u v (eG (.tup xs) e)∧EqAt A s u v (eG (.tup xs) e))∧RcAt A s v u (eG e (.tup xs))∧EqAt A s v u (eG e (.tup xs)):=by
 obtain⟨a,vs,its,rfl,_,_,hl⟩:=tup_is I rd rx
 cases e<;>try(cases he;done)
 all_goals(unfold Rep at re;subst re)
 all_goals(first|(obtain⟨t,rfl⟩:=ry)|(cases ry))
 all_goals unfold eG
 · exact⟨⟨RcAt.tuple_none hl hu,EqAt.tuple_none hl hu⟩,RcAt.none_tuple hl hu,EqAt.none_tuple hl hu⟩
 · exact⟨⟨RcAt.tuple_bool _ hl hu,EqAt.tuple_bool _ hl hu⟩,RcAt.bool_tuple _ hl hu,EqAt.bool_tuple _ hl hu⟩
 · exact⟨⟨RcAt.tuple_int _ _ hl hu,EqAt.tuple_int _ _ hl hu⟩,RcAt.int_tuple _ _ hl hu,EqAt.int_tuple _ _ hl hu⟩
 · exact⟨⟨RcAt.tuple_str _ _ hl hu,EqAt.tuple_str _ _ hl hu⟩,RcAt.str_tuple _ _ hl hu,EqAt.str_tuple _ _ hl hu⟩
theorem wF{A:Around}{n:Nat}{d e:D}{x y:V}{a b:Addr}(hd:pl n d=true)(he:pl n e=true)(rd:Rep α H d x)(re:Rep α H e y)(rx:RelV x (.ref a))(ry:RelV y (.ref b))(h:RcAt A s (.ref a) (.ref b) (eG d e)):
 RcAt A s (.ref a) (.ref b) (eG d e)∧EqAt A s (.ref a) (.ref b) (eG d e):=by
 refine⟨h,?_⟩
 by_cases hab:a=b
 · subst hab
   have hx:x=y:=RelV.inj rx ry
   subst hx
   have:=Rep.inj n hd he rd re
   subst this
   rw[vg n d hd]
   exact EqAt.same _
 · exact EqAt.of_refs hab h
theorem GR(I:Inv X pins σ H s):∀(n:Nat) (A:Around) (d e:D) (x y:V) (u v:Value),pl n d=true→pl n e=true→Rep α H d x→Rep α H e y→RelV x u→RelV y v→A.units+n<cLine→
 RcAt A s u v (eG d e)∧EqAt A s u v (eG d e):=by
 intro n
 induction n with
 |zero=>
  intro A d e x y u v hd he rd re rx ry hu
  refine wN ?_ ?_ rd re rx ry
  · cases d<;>first|rfl|(cases hd)
  · cases e<;>first|rfl|(cases he)
 |succ n ih=>
  intro A d e x y u v hd he rd re rx ry hu
  have hu0:A.units<cLine:=by omega
  have hin:A.in1.units+n<cLine:=by rw[Around.in1_units];omega
  cases d<;>try(cases hd;done)
  case lst xs=>
   cases e<;>try(cases he;done)
   case lst ys=>
    have rd0:=rd
    have re0:=re
    have rx0:=rx
    have ry0:=ry
    obtain⟨a,vs,its,rfl,r1,v1,l1⟩:=lst_is I rd rx
    obtain⟨b,ws,jts,rfl,r2,v2,l2⟩:=lst_is I re ry
    have e1:=r1.length
    have e2:=v1.length
    have e3:=r2.length
    have e4:=v2.length
    refine wF hd he rd0 re0 rx0 ry0 ?_
    unfold eG
    by_cases hlen:xs.length=ys.length
    · rw[p_ hlen]
      have hsz:its.toArray.size=jts.toArray.size:=by simp only[List.size_toArray];omega
      have hx:xs.length=its.toArray.size:=by simp only[List.size_toArray];omega
      rw[hx]
      refine RcAt.lists l1 l2 hsz hu0 fun j h1 h2=>?_
      have h1':j<its.length:=by simpa using h1
      have h2':j<jts.length:=by simpa using h2
      obtain⟨p,_,q1,q2⟩:=oz r1 v1 j h1'
      obtain⟨p',_,q1',q2'⟩:=oz r2 v2 j h2'
      exact(ih A.in1 _ _ p p' _ _ (mL (by unfold pl at hd;exact hd) j) (mL (by unfold pl at he;exact he) j) q1 q1' (by simpa using q2) (by simpa using q2') hin).2
    · rw[pM hlen]
      exact RcAt.lists_lengths l1 l2 (by simp only[List.size_toArray,bne_iff_ne,ne_eq];omega) hu0
   case tup ys=>
    obtain⟨a,vs,its,rfl,r1,v1,l1⟩:=lst_is I rd rx
    obtain⟨b,ws,jts,rfl,r2,v2,l2⟩:=tup_is I re ry
    unfold eG
    exact⟨RcAt.list_tuple l1 l2 hu0,EqAt.list_tuple l1 l2 hu0⟩
   all_goals exact(sS I rfl rd re rx ry hu0).1
  case tup xs=>
   cases e<;>try(cases he;done)
   case tup ys=>
    have rd0:=rd
    have re0:=re
    have rx0:=rx
    have ry0:=ry
    obtain⟨a,vs,its,rfl,r1,v1,l1⟩:=tup_is I rd rx
    obtain⟨b,ws,jts,rfl,r2,v2,l2⟩:=tup_is I re ry
    have e1:=r1.length
    have e2:=v1.length
    have e3:=r2.length
    have e4:=v2.length
    refine wF hd he rd0 re0 rx0 ry0 ?_
    unfold eG
    have key:=RcAt.tuples (e:=fun j=>eG (xs.getD j .aP) (ys.getD j .aP)) l1 l2 hu0 fun j h1 h2=>by
     have h1':j<its.length:=by simpa using h1
     have h2':j<jts.length:=by simpa using h2
     obtain⟨p,_,q1,q2⟩:=oz r1 v1 j h1'
     obtain⟨p',_,q1',q2'⟩:=oz r2 v2 j h2'
     exact(ih A.in1 _ _ p p' _ _ (mL (by unfold pl at hd;exact hd) j) (mL (by unfold pl at he;exact he) j) q1 q1' (by simpa using q2) (by simpa using q2') hin).2
    by_cases hlen:xs.length=ys.length
    · rw[p_ hlen]
      have hsz:its.toArray.size=jts.toArray.size:=by simp only[List.size_toArray];omega
      have hx:xs.length=its.toArray.size:=by simp only[List.size_toArray];omega
      rw[hsz,Nat.min_self,beq_self_eq_true,Bool.and_true,←hsz,←hx]at key
      exact key
    · rw[pM hlen]
      have hne:(its.toArray.size==jts.toArray.size)=false:=by simp only[List.size_toArray,beq_eq_false_iff_ne,ne_eq];omega
      rw[hne,Bool.and_false]at key
      exact key
   case lst ys=>
    obtain⟨a,vs,its,rfl,r1,v1,l1⟩:=tup_is I rd rx
    obtain⟨b,ws,jts,rfl,r2,v2,l2⟩:=lst_is I re ry
    unfold eG
    exact⟨RcAt.tuple_list l1 l2 hu0,EqAt.tuple_list l1 l2 hu0⟩
   all_goals exact(sJ I rfl rd re rx ry hu0).1
  all_goals
   cases e<;>try(cases he;done)
   case lst ys=>exact(sS I rfl re rd ry rx hu0).2
   case tup ys=>exact(sJ I rfl re rd ry rx hu0).2
   all_goals exact wN rfl rfl rd re rx ry
noncomputable def ES:di:=fun x y st K=>pl 40 x=true∧pl 40 y=true∧K (.bl (eG x y)) st
theorem Jz{k:Nat}(hr:dm k X.A):bR X (compareOp .Eq) (LR ES):=fun pins s σ H x y v u Q I rx ry ⟨α,d,e,st,K,G,F',P,r1,r2,S,q,k⟩=>by
 have hu:=hr.units
 exact(GR I 40 X.A d e x y v u q.1 q.2.1 (r1.mono P.same) (r2.mono P.same) rx ry (by omega)).1 _ _ _ _ ⟨.bl (eG d e),H,I,rfl,k.here P q.2.2 S (by unfold Rep;rfl)⟩
end
end L3
namespace L3
open PySem PySem.Spec L2
open PyProof.Rows hiding St
noncomputable def LC(α:List (Option Addr))(G F:Hp)(K:bJ→ae→Prop)(Q:L2.St→Hp→Prop):Prop:=∀σd' st',K σd' st'→∀α' G' H' σ',Step α G α' G'→cm G' F H'→d6 α' G' σd' σ'→aU α' st' G'→Q σ' H'
structure tN(α:List (Option Addr))(G F:Hp)(DD:jr)(D:Ends):Prop where
 nx:LC α G F DD.nx D.nx
 rt:LK α G F DD.rt D.rt
 bk:LC α G F DD.bk D.bk
 ct:LC α G F DD.ct D.ct
inductive IA(t:DS)(D:Ends)(σ:L2.St)(H:Hp):Prop
 |mk (α:List (Option Addr)) (σd:bJ) (st:ae) (DD:jr) (G F:Hp) (P:cm G F H) (R:d6 α G σd σ) (S:aU α st G) (h:t DD σd st) (k:tN α G F DD D):IA t D σ H
noncomputable def LS(t:DS):TS:=IA t
theorem LC.at{α α1:List (Option Addr)}{G F G1:Hp}{K:bJ→ae→Prop}{Q:L2.St→Hp→Prop}(h:LC α G F K Q)(s:Step α G α1 G1):LC α1 G1 F K Q:=fun d st' k α' G' H' v s' P R S=>h d st' k α' G' H' v (s.trans s') P R S
theorem LC.here{α:List (Option Addr)}{G F H:Hp}{K:bJ→ae→Prop}{Q:L2.St→Hp→Prop}(h:LC α G F K Q)(P:cm G F H){σd:bJ}{st:ae}{σ:L2.St}(k:K σd st)(R:d6 α G σd σ)(S:aU α st G):Q σ H:=h σd st k α G H σ Step.refl P R S
theorem tN.at{α α1:List (Option Addr)}{G F G1:Hp}{DD:jr}{D:Ends}(h:tN α G F DD D)(s:Step α G α1 G1):tN α1 G1 F DD D:=⟨h.nx.at s,h.rt.at s,h.bk.at s,h.ct.at s⟩
section
variable {X:Cx}{a b c e o i:Expr}{es:List Expr}{ta tb tc te:DE}{pos:Pos}{st:Stmt}{sts:List Stmt}{t u:DS}
theorem PS.imp{t t':TS}(h:PS X st t)(f:∀D σ H,t' D σ H→t D σ H):PS X st t':=fun pins s σ H D I q=>h pins s σ H D I (f D σ H q)
theorem gv.imp{t t':TS}(h:gv X sts t)(f:∀D σ H,t' D σ H→t D σ H):gv X sts t':=fun pins s σ H D I q=>h pins s σ H D I (f D σ H q)
noncomputable def fT:DS:=fun D σ st=>D.nx σ st
noncomputable def aD(t u:DS):DS:=fun D σ st=>t {D with nx:=u D} σ st
theorem Ed:gv X [] (LS fT):=gv.imp CW fun D σ H ⟨α,σd,st,DD,G,F,P,R,S,t,k⟩=>k.nx.here P t R S
theorem CG(h:PS X st (LS t)):gv X [st] (LS t):=DP h
theorem A4(h:PS X st (LS t))(h2:gv X sts (LS u)):gv X (st::sts) (LS (aD t u)):=gv.imp (AU h h2) fun D σ H ⟨α,σd,st,DD,G,F,P,R,S,t,k⟩=>
 ⟨α,σd,st,_,G,F,P,R,S,t,fun σd' st' q α' G' H' σ' s' P' R' S'=>⟨α',σd',st',DD,G',F,P',R',S',q,k.at s'⟩,k.rt,k.bk,k.ct⟩
noncomputable def w_:DS:=fun D σ st=>D.ct σ st
theorem vH:PS X (.Continue pos) (LS w_):=PS.imp vK fun D σ H ⟨α,σd,st,DD,G,F,P,R,S,t,k⟩=>k.ct.here P t R S
noncomputable def cC(te:DE):DS:=fun D σ st=>te σ st D.rt
theorem E3(h:PE X e (LE te)):PS X (.Return (some e) pos) (LS (cC te)):=PS.imp (Fo h) fun D σ H ⟨α,σd,st,DD,G,F,P,R,S,t,k⟩=>⟨α,σd,st,_,G,F,P,R,S,t,k.rt⟩
noncomputable def yp:DS:=fun D _ st=>D.rt .aP st
theorem Dc:PS X (.Return none pos) (LS yp):=PS.imp CC fun D σ H ⟨α,σd,st,DD,G,F,P,R,S,t,k⟩=>k.rt.here P t S (by unfold Rep;rfl)
noncomputable def fU(te:DE):DS:=fun D σ st=>te σ st fun _ st1=>D.nx σ st1
theorem C8(h:PE X e (LE te))(hs:swapsWith e none pos.line X.env=pure false:=by rfl):PS X (.Expr e pos) (LS (fU te)):=PS.imp (CQ h hs) fun D σ H ⟨α,σd,st,DD,G,F,P,R,S,t,k⟩=>
 ⟨α,σd,st,_,G,F,P,R,S,t,fun d st1 q α1 G1 H1 v s1 P1 S1 r1=>(k.nx.at s1).here P1 q (R.step s1) S1⟩
noncomputable def gX(c:DT)(t u:DS):DS:=fun D σ st=>c σ st fun b st1=>if b=true then t D σ st1 else u D σ st1
theorem Hf{x y:List Stmt}{tc:DT}(hc:PT X c (LT tc))(ha:gv X x (LS t))(hb:gv X y (LS u)):PS X (.If c x y pos) (LS (gX tc t u)):=PS.imp (HE hc ha hb) fun D σ H ⟨α,σd,st,DD,G,F,P,R,S,t,k⟩=>by
 refine⟨α,σd,st,_,G,F,P,R,S,t,fun b st1 q α1 G1 H1 s1 P1 S1=>?_⟩
 cases b with
 |true=>exact⟨α1,σd,st1,DD,G1,F,P1,R.step s1,S1,q,k.at s1⟩
 |false=>exact⟨α1,σd,st1,DD,G1,F,P1,R.step s1,S1,q,k.at s1⟩
noncomputable abbrev gd:=D→bJ→Option bJ
noncomputable def bB(i:Nat):gd:=fun d σ=>some (σ.set i (some d))
noncomputable def jj(i j:Nat):gd:=fun d σ=>match d with| .tup [x,y]=>some ((σ.set i (some x)).set j (some y))|_=>none
inductive IK(t:gd)(v:V)(σ:L2.St)(H:Hp)(Q:L2.St→Hp→Prop):Prop
 |mk (α:List (Option Addr)) (σd:bJ) (st:ae) (d:D) (K:bJ→ae→Prop) (G F:Hp) (P:cm G F H) (R:d6 α G σd σ) (S:aU α st G) (r:Rep α G d v) (h:∃σ',t d σd=some σ'∧K σ' st) (k:LC α G F K Q):IK t v σ H Q
noncomputable def LG(t:gd):TG:=IK t
theorem PG.imp{tg:Expr}{t t':TG}(h:PG X tg t)(f:∀v σ H Q,t' v σ H Q→t v σ H Q):PG X tg t':=fun pins s σ H v u Q I r q=>h pins s σ H v u Q I r (f v σ H Q q)
theorem Du{tg:Expr}{i:Nat}(h:PG X tg (iL i)):PG X tg (LG (bB i)):=PG.imp h fun v σ H Q ⟨α,σd,st,d,K,G,F,P,R,S,r,⟨σ',e,q⟩,k⟩=>by
 cases e
 exact k.here P q (R.set i r) S
theorem Fz{tg:Expr}{i j:Nat}(h:PG X tg (Bv X.K 2 (ox (iL i) (ox (iL j) AK)))):PG X tg (LG (jj i j)):=PG.imp h fun v σ H Q ⟨α,σd,st,d,K,G,F,P,R,S,r,⟨σ',e,q⟩,k⟩=>by
 unfold jj at e
 split at e
 · rename_i x y
   cases e
   unfold Rep at r
   obtain⟨a,vs,rfl,na,h1,h2⟩:=r
   obtain⟨v1,v2,rfl,r1,r2⟩:=oG h2 rfl
   exact⟨a,_,rfl,.of (P.get h1),rfl,v1,_,rfl,v2,_,rfl,rfl,k.here P q ((R.set i r1).set j r2) S⟩
 · cases e
noncomputable def aX(i:Nat)(te:DE):DS:=fun D σ st=>te σ st fun d st1=>D.nx (σ.set i (some d)) st1
theorem E7{i:Nat}(h:PS X st (m4 (LE te) (iL i))):PS X st (LS (aX i te)):=PS.imp h fun D σ H ⟨α,σd,st,DD,G,F,P,R,S,t,k⟩=>
 ⟨α,σd,st,_,G,F,P,R,S,t,fun d st1 q α1 G1 H1 v s1 P1 S1 r1=>(k.nx.at s1).here P1 q ((R.step s1).set i r1) S1⟩
noncomputable def Ao(i j:Nat)(ta:DA):DS:=fun D σ st=>ta σ st fun ds st1=>match ds with| [x,y]=>D.nx ((σ.set i (some x)).set j (some y)) st1|_=>False
theorem Er{i j:Nat}{ta:DA}(h:PS X st (FQ i j (LA ta))):PS X st (LS (Ao i j ta)):=PS.imp h fun D σ H ⟨α,σd,st,DD,G,F,P,R,S,t,k⟩=>by
 refine⟨α,σd,st,_,G,F,P,R,S,t,fun ds st1 q α1 G1 H1 vs s1 P1 S1 r1=>?_⟩
 match ds,q,r1 with
 | [x,y],q,r1=>
   obtain⟨v1,v2,rfl,q1,q2⟩:=oG r1 rfl
   exact⟨v1,v2,rfl,(k.nx.at s1).here P1 q (((R.step s1).set i q1).set j q2) S1⟩
noncomputable def xt(i:Nat)(r:di)(te:DE):DS:=fun D σ st=>match σ[i]? with|some (some x)=>te σ st fun y st1=>r x y st1 fun z st2=>D.nx (σ.set i (some z)) st2|_=>False
noncomputable def u9(f:Int→Int→Int):di:=fun x y st K=>match x,y with| .int i,.int j=>K (.int (f i j)) st|_,_=>False
theorem E8{i:Nat}{f:Int→Int→Int}(h:PS X st (EE i (LE te) (wm f))):PS X st (LS (xt i (u9 f) te)):=PS.imp h fun D σ H ⟨α,σd,st,DD,G,F,P,R,S,t,k⟩=>by
 unfold xt at t
 split at t
 · rename_i x e
   obtain⟨v,ev,rv⟩:=R.at' i x e
   refine⟨v,ev,α,σd,st,_,G,F,P,R,S,t,fun y st1 q α1 G1 H1 w s1 P1 S1 r1=>?_⟩
   cases x<;>cases y<;>try exact q.elim
   have rv':=rv
   unfold Rep at rv r1
   exact⟨_,_,rv,r1,(k.nx.at s1).here P1 q ((R.step s1).set i (by unfold Rep;rfl)) S1⟩
 · exact t.elim
noncomputable def pK(x y d:D)(st:ae)(K:ae→Prop):Prop:=match x,y with
 | .ref n,.int k=>(match st[n]? with
   |some (.lst xs)=>(match jA xs.length k with|some j=>K (st.set n (.lst (xs.set j d)))|none=>False)
   |_=>False)
 |_,_=>False
noncomputable def GB(to ti te:DE):DS:=fun D σ st=>te σ st fun d st1=>to σ st1 fun x st2=>ti σ st2 fun y st3=>pK x y d st3 fun st4=>D.nx σ st4
theorem Ab{to ti:DE}(h:PS X st (m4 (LE te) (xJ (LE to) (LE ti) tF))):PS X st (LS (GB to ti te)):=PS.imp h fun D σ H ⟨α,σd,st,DD,G,F,P,R,S,t,k⟩=>by
 refine⟨α,σd,st,_,G,F,P,R,S,t,fun d st1 q α1 G1 H1 v s1 P1 S1 r1=>?_⟩
 refine⟨α1,σd,st1,_,G1,F,P1,R.step s1,S1,q,fun x st2 q2 α2 G2 H2 v2 s2 P2 S2 r2=>?_⟩
 refine⟨α2,σd,st2,_,G2,F,P2,(R.step s1).step s2,S2,q2,fun y st3 q3 α3 G3 H3 v3 s3 P3 S3 r3=>?_⟩
 cases x<;>cases y<;>try exact q3.elim
 rename_i n kk
 unfold pK at q3
 simp only at q3
 split at q3
 · rename_i xs e
   split at q3
   · rename_i j ej
     obtain⟨p,ep,vs,hv,rv⟩:=S3.g5 e
     have r2':=d7 ep (r2.step s3)
     subst r2'
     unfold Rep at r3
     have hm:some p∈α3:=List.mem_of_getElem? ep
     have rd:=(r1.step s2).step s3
     refine⟨p,vs,kk,j,rfl,r3,P3.get hv,by rw[←rv.length];exact ej,?_⟩
     refine(((k.nx.at s1).at s2).at s3) σd _ q3 α3 (upd G3 p (.lst (vs.set j v))) _ σ (Step.write hm) (P3.write hv) ((((R.step s1).step s2).step s3).step (Step.write hm)) ?_
     exact S3.write ep ⟨vs.set j v,br,(aR.mpr (m9 rd j (aR.mp rv))).step (Step.write hm)⟩
   · exact q3.elim
 · exact q3.elim
noncomputable def uB(c:DT)(tb:DS):DS:=fun D σ st=>∃W:Nat→bJ→ae→Prop,(∃m,W m σ st)∧∀m σ st,W m σ st→
 c σ st fun b st1=>if b=true then tb {D with nx:=fun σ' st'=>∃m',m'<m∧W m' σ' st',ct:=fun σ' st'=>∃m',m'<m∧W m' σ' st',bk:=D.nx} σ st1 else D.nx σ st1
theorem Bq{tc:DT}(h:PS X st (za (LT tc) (LS t))):PS X st (LS (uB tc t)):=PS.imp h fun D σ H ⟨α,σd,st,DD,G,F,P,R,S,⟨W,⟨m0,w0⟩,turn⟩,k⟩=>by
 refine⟨fun m σ' H'=>∃α' σd' st' G',Step α G α' G'∧cm G' F H'∧d6 α' G' σd' σ'∧aU α' st' G'∧W m σd' st',⟨m0,α,σd,st,G,Step.refl,P,R,S,w0⟩,?_⟩
 rintro m σ1 H1 ⟨α1,σd1,st1,G1,s1,P1,R1,S1,w1⟩
 refine⟨α1,σd1,st1,_,G1,F,P1,R1,S1,turn m σd1 st1 w1,fun b st2 q α2 G2 H2 s2 P2 S2=>?_⟩
 cases b with
 |false=>exact((k.nx.at s1).at s2).here P2 q (R1.step s2) S2
 |true=>
  refine⟨fun σ' H'=>∃m',m'<m∧∃α' σd' st' G',Step α G α' G'∧cm G' F H'∧d6 α' G' σd' σ'∧aU α' st' G'∧W m' σd' st',fun σ' H' z=>z,?_⟩
  refine⟨α2,σd1,st2,_,G2,F,P2,R1.step s2,S2,q,?_⟩
  refine⟨?_,(k.rt.at s1).at s2,(k.nx.at s1).at s2,?_⟩
  · rintro σd3 st3 ⟨m',hm,w3⟩ α3 G3 H3 σ3 s3 P3 R3 S3
    exact⟨m',hm,α3,σd3,st3,G3,(s1.trans s2).trans s3,P3,R3,S3,w3⟩
  · rintro σd3 st3 ⟨m',hm,w3⟩ α3 G3 H3 σ3 s3 P3 R3 S3
    exact⟨m',hm,α3,σd3,st3,G3,(s1.trans s2).trans s3,P3,R3,S3,w3⟩
noncomputable abbrev DI:=bJ→ae→(List D→(ae→Prop)→ae→Prop)→Prop
structure qc(J:It)(α:List (Option Addr))(G:Hp)(ok:ae→Prop)(xs:List D):Prop where
 stop:∀(n:Nat) α' G' F' H' st',Step α G α' G'→cm G' F' H'→aU α' st' G'→ok st'→xs.length≤n→J.stop n H'
 go:∀(n:Nat) d α' G' F' H' st',Step α G α' G'→cm G' F' H'→aU α' st' G'→ok st'→xs[n]?=some d→J.go n H'
 lL:∀(n:Nat) d α' G' F' H' st' x H'',Step α G α' G'→cm G' F' H'→aU α' st' G'→ok st'→xs[n]?=some d→J.lL n H' x H''→∃G'',Step α' G' α' G''∧cm G'' F' H''∧aU α' st' G''∧Rep α' G'' d x
noncomputable def LI(t:DI):TI:=fun σ H R=>∃α σd st K G F,cm G F H∧d6 α G σd σ∧aU α st G∧t σd st K∧∀xs ok st1,K xs ok st1→∀J α1 G1 H1,Step α G α1 G1→cm G1 F H1→aU α1 st1 G1→qc J α1 G1 ok xs→R J H1
noncomputable def rZ(d:D)(st1:ae)(K:List D→(ae→Prop)→ae→Prop):Prop:=match d with
 | .lst xs=>K xs (fun _=>True) st1
 | .tup xs=>K xs (fun _=>True) st1
 | .ref n=>(match st1[n]? with|some (.lst xs)=>K xs (fun st'=>st'[n]?=some (.lst xs)) st1|_=>False)
 |_=>False
noncomputable def HV(t:DE):DI:=fun σ st K=>t σ st fun d st1=>rZ d st1 K
theorem wC{K:PySem.W.Frag}{a:Addr}{α:List (Option Addr)}{G:Hp}{ok:ae→Prop}{xs:List D}
 (h:∀α' G' st',Step α G α' G'→aU α' st' G'→ok st'→∃vs,Rd G' a (.lst vs)∧aG α' G' xs vs):qc (EO K a) α G ok xs where
 stop:=fun n α' G' F' H' st' s P S o hn=>by
  obtain⟨vs,h1,h2⟩:=h α' G' st' s S o
  exact⟨vs,.inl (fK P h1),by rw[←h2.length];exact hn⟩
 go:=fun n d α' G' F' H' st' s P S o hn=>by
  obtain⟨vs,h1,h2⟩:=h α' G' st' s S o
  obtain⟨v,e,_⟩:=h2.get hn
  exact⟨vs,v,.inl (fK P h1),e⟩
 lL:=fun n d α' G' F' H' st' x H'' s P S o hn y=>by
  obtain⟨vs,h1,h2⟩:=h α' G' st' s S o
  obtain⟨v,e,r⟩:=h2.get hn
  obtain⟨rfl,y⟩:=y
  have:=y vs (.inl (fK P h1))
  rw[e]at this
  cases this
  exact⟨G',Step.refl,P,S,r⟩
theorem Fp{K:PySem.W.Frag}{a:Addr}{α:List (Option Addr)}{G:Hp}{ok:ae→Prop}{xs:List D}
 (h:∀α' G' st',Step α G α' G'→aU α' st' G'→ok st'→∃vs,G' a=some (.tup vs)∧aG α' G' xs vs):qc (Gx K a) α G ok xs where
 stop:=fun n α' G' F' H' st' s P S o hn=>by
  obtain⟨vs,h1,h2⟩:=h α' G' st' s S o
  exact⟨vs,.of (P.get h1),by rw[←h2.length];exact hn⟩
 go:=fun n d α' G' F' H' st' s P S o hn=>by
  obtain⟨vs,h1,h2⟩:=h α' G' st' s S o
  obtain⟨v,e,_⟩:=h2.get hn
  exact⟨vs,v,.of (P.get h1),e⟩
 lL:=fun n d α' G' F' H' st' x H'' s P S o hn y=>by
  obtain⟨vs,h1,h2⟩:=h α' G' st' s S o
  obtain⟨v,e,r⟩:=h2.get hn
  obtain⟨rfl,y⟩:=y
  have:=y vs (.of (P.get h1))
  rw[e]at this
  cases this
  exact⟨G',Step.refl,P,S,r⟩
theorem Av{α α':List (Option Addr)}{G G':Hp}{a:Addr}{vs:List V}{xs:List D}(s:Step α G α' G')(na:some a∉α)(h1:Rd G a (.lst vs))(h2:aG α G xs vs):Rd G' a (.lst vs)∧aG α' G' xs vs:=by
 refine⟨?_,h2.step s⟩
 rcases h1 with h|⟨o,h⟩
 · exact .inl (s.ext _ _ na h)
 · exact .inr ⟨o,s.ext _ _ na h⟩
theorem Ep{l tg:Expr}{tl:DE}(hl:PE X l (LE tl)):PI X tg l (LI (HV tl)):=by
 intro pins s σ H R I h
 obtain⟨α,σd,st,K,G,F,P,RS,S,t,k⟩:=h
 refine bD (hl pins s σ H (fun x H1=>∃d α1 G1 st1,Step α G α1 G1∧cm G1 F H1∧aU α1 st1 G1∧Rep α1 G1 d x∧rZ d st1 K) I ⟨α,σd,st,_,G,F,P,RS,S,t,fun d st1 q α1 G1 H1 v s1 P1 S1 r1=>⟨d,α1,G1,st1,s1,P1,S1,r1,q⟩⟩) fun v s1 ⟨x,H1,I1,rx,d,α1,G1,st1,s1',P1,S1,r1,q⟩=>?_
 unfold rZ at q
 have viaL:∀ {a:Addr} {vs:List V},x= .ref a→Rd H1 a (.lst vs)→R (EO X.K a) H1→wpAny (model X.prog X.w) X.A (pyIter v) (B6 X pins σ tg R) X.xe s1:=by
  intro a vs ex hr hR
  subst ex
  cases rx
  obtain⟨its,rv,p,hz⟩:=I1.list (.inl hr)
  refine wpAny_pyIter_list p.isList ?_
  refine⟨s1.heap.objs.size,[s1.heap.objs.size],_,_,H1,rfl,I1.kept (t':=s1.toks) fun b o e=>Heap.get?_push_of_some _ e,yP a _,⟨_,Heap.get?_push_size _ rfl,rfl,rfl⟩,fun b hb=>?_,hR⟩
  have e:b=s1.heap.objs.size:=by simpa using hb
  subst e
  exact I1.pZ (Nat.le_refl _) (I1.aT.fresh (Nat.le_refl _))
 have viaT:∀ {a:Addr} {vs:List V},x= .ref a→H1 a=some (.tup vs)→R (Gx X.K a) H1→wpAny (model X.prog X.w) X.A (pyIter v) (B6 X pins σ tg R) X.xe s1:=by
  intro a vs ex hr hR
  subst ex
  cases rx
  obtain⟨its,rv,p,hz⟩:=I1.tuple (ix.of hr)
  refine wpAny_pyIter_tuple (show s1.heap.IsTuple a its.toArray from p) ?_
  refine⟨s1.heap.objs.size,[s1.heap.objs.size],_,_,H1,rfl,I1.kept (t':=s1.toks) fun b o e=>Heap.get?_push_of_some _ e,xR a _,⟨_,Heap.get?_push_size _ rfl,rfl,rfl⟩,fun b hb=>?_,hR⟩
  have e:b=s1.heap.objs.size:=by simpa using hb
  subst e
  exact I1.pZ (Nat.le_refl _) (I1.aT.fresh (Nat.le_refl _))
 cases d<;>try exact q.elim
 · rename_i n
   simp only at q
   split at q
   · rename_i xs e
     obtain⟨a,ea,vs,h1,h2⟩:=S1.g5 e
     have r1':=d7 ea r1
     subst r1'
     refine viaL rfl (fK P1 (.of h1)) (k _ _ st1 q _ α1 G1 H1 s1' P1 S1 (wC fun α' G' st' s S o=>?_))
     obtain⟨b,eb,ws,g1,g2⟩:=S.g5 o
     have hb:b=a:=by
      rcases s.pre _ _ ea with z|z<;>(rw[z]at eb;cases eb)
      rfl
     subst hb
     exact⟨ws,.of g1,g2⟩
   · exact q.elim
 · unfold Rep at r1
   obtain⟨a,vs,rfl,na,ha,ra⟩:=r1
   exact viaL rfl (fK P1 ha) (k _ _ st1 q _ α1 G1 H1 s1' P1 S1 (wC fun α' G' st' s S o=>⟨vs,Av s na ha ra⟩))
 · unfold Rep at r1
   obtain⟨a,vs,rfl,na,ha,ra⟩:=r1
   exact viaT rfl (P1.get ha) (k _ _ st1 q _ α1 G1 H1 s1' P1 S1 (Fp fun α' G' st' s S o=>⟨vs,s.ext _ _ na ha,ra.step s⟩))
noncomputable def cQ(lo:Int)(n:Nat):List D:=(List.range n).map fun(k:Nat)=>D.int (lo+(k:Int))
theorem qE{lo:Int}{n k:Nat}:(cQ lo n)[k]?=if k<n then some (.int (lo+(k:Int)))else none:=by
 unfold cQ
 rw[List.getElem?_map]
 by_cases h:k<n
 · rw[List.getElem?_range h,if_pos h];rfl
 · rw[List.getElem?_eq_none (by simpa using h),if_neg h];rfl
theorem cX{lo:Int}{n:Nat}:(cQ lo n).length=n:=by unfold cQ;simp
theorem u_{α:List (Option Addr)}{G:Hp}{lo:Int}{n:Nat}:qc (sR lo n) α G (fun _=>True) (cQ lo n) where
 stop:=fun m α' G' F' H' st' s P S o hn=>by rw[cX]at hn;exact hn
 go:=fun m d α' G' F' H' st' s P S o hn=>by
  rw[qE]at hn
  split at hn
  · assumption
  · cases hn
 lL:=fun m d α' G' F' H' st' x H'' s P S o hn y=>by
  obtain⟨rfl,rfl⟩:=y
  rw[qE]at hn
  split at hn
  · cases hn
    exact⟨G',Step.refl,P,S,by unfold Rep;rfl⟩
  · cases hn
theorem PI.imp{tg iter:Expr}{t t':TI}(h:PI X tg iter t)(f:∀σ H R,t' σ H R→t σ H R):PI X tg iter t':=fun pins s σ H R I q=>h pins s σ H R I (f σ H R q)
noncomputable def Cp(ds:List D)(st1:ae)(K:List D→(ae→Prop)→ae→Prop):Prop:=match ds with
 | [.int j]=>(-(2^62)≤j∧j<2^62)∧K (cQ 0 j.toNat) (fun _=>True) st1
 |_=>False
noncomputable def Bz(ds:List D)(st1:ae)(K:List D→(ae→Prop)→ae→Prop):Prop:=match ds with
 | [.int i,.int j]=>(-(2^62)≤i∧i<2^62∧ -(2^62)≤j∧j<2^62)∧K (cQ i (j-i).toNat) (fun _=>True) st1
 |_=>False
noncomputable def DF(t:DA):DI:=fun σ st K=>t σ st fun ds st1=>Cp ds st1 K
noncomputable def De(t:DA):DI:=fun σ st K=>t σ st fun ds st1=>Bz ds st1 K
theorem zd{tg iter:Expr}{t:DA}(h:PI X tg iter (xQ (LA t))):PI X tg iter (LI (DF t)):=PI.imp h fun σ H R ⟨α,σd,st,K,G,F,P,RS,S,t,k⟩=>by
 refine⟨α,σd,st,_,G,F,P,RS,S,t,fun ds st1 q α1 G1 H1 vs s1 P1 S1 r1=>?_⟩
 match ds,q,r1 with
 | [.int j],q,r1=>
   obtain⟨v,rfl,r2⟩:=jy r1 rfl
   unfold Rep at r2
   subst r2
   exact⟨j,rfl,q.1.1,q.1.2,k _ _ st1 q.2 _ α1 G1 H1 s1 P1 S1 u_⟩
theorem zM{tg iter:Expr}{t:DA}(h:PI X tg iter (yg (LA t))):PI X tg iter (LI (De t)):=PI.imp h fun σ H R ⟨α,σd,st,K,G,F,P,RS,S,t,k⟩=>by
 refine⟨α,σd,st,_,G,F,P,RS,S,t,fun ds st1 q α1 G1 H1 vs s1 P1 S1 r1=>?_⟩
 match ds,q,r1 with
 | [.int i,.int j],q,r1=>
   obtain⟨v,u,rfl,r2,r3⟩:=oG r1 rfl
   unfold Rep at r2 r3
   subst r2 r3
   exact⟨i,j,rfl,q.1,k _ _ st1 q.2 _ α1 G1 H1 s1 P1 S1 u_⟩
noncomputable def g7(tg:gd)(body:DS)(ok:ae→Prop)(E:jr):List D→bJ→ae→Prop
 | [],σ,st=>ok st∧E.nx σ st
 |x::xs,σ,st=>ok st∧∃σ1,tg x σ=some σ1∧body {E with nx:=g7 tg body ok E xs,ct:=g7 tg body ok E xs,bk:=E.nx} σ1 st
noncomputable def fE(src:DI)(tg:gd)(body:DS):DS:=fun D σ st=>src σ st fun xs ok st1=>g7 tg body ok D xs σ st1
theorem FH{src:DI}{tg:gd}(h:PS X st (FO (LI src) (LG tg) (LS t))):PS X st (LS (fE src tg t)):=PS.imp h fun D σ H ⟨α,σd,st,DD,G,F,P,R,S,tt,k⟩=>by
 refine⟨α,σd,st,_,G,F,P,R,S,tt,fun xs ok st1 q J α1 G1 H1 s1 P1 S1 it=>?_⟩
 refine⟨fun i m σ' H'=>∃α' σd' st' G',Step α1 G1 α' G'∧cm G' F H'∧d6 α' G' σd' σ'∧aU α' st' G'∧g7 tg t ok DD (xs.drop i) σd' st'∧m=xs.length-i,⟨xs.length,α1,σd,st1,G1,Step.refl,P1,R.step s1,S1,q,rfl⟩,?_⟩
 rintro i m σ2 H2 ⟨α2,σd2,st2,G2,s2,P2,R2,S2,q2,rfl⟩
 cases e:xs[i]? with
 |none=>
  have hl:xs.length≤i:=List.getElem?_eq_none_iff.mp e
  rw[List.drop_eq_nil_of_le hl]at q2
  unfold g7 at q2
  exact .inl ⟨it.stop i α2 G2 F H2 st2 s2 P2 S2 q2.1 hl,((k.nx.at s1).at s2).here P2 q2.2 R2 S2⟩
 |some d=>
  have hl:i<xs.length:=(List.getElem?_eq_some_iff.mp e).1
  have ed:xs.drop i=d::xs.drop (i+1):=by
   rw[List.drop_eq_getElem_cons hl]
   congr 1
   rw[List.getElem?_eq_getElem hl]at e
   exact Option.some.inj e
  rw[ed]at q2
  unfold g7 at q2
  obtain⟨aT,σ3,e3,q3⟩:=q2
  refine .inr ⟨it.go i d α2 G2 F H2 st2 s2 P2 S2 aT e,fun σ' H'=>∃α' σd' st' G',Step α1 G1 α' G'∧cm G' F H'∧d6 α' G' σd' σ'∧aU α' st' G'∧g7 tg t ok DD (xs.drop (i+1)) σd' st',?_,?_⟩
  · rintro σ' H' ⟨α',σd',st',G',z1,z2,z3,z4,z5⟩
    exact⟨xs.length-(i+1),by omega,α',σd',st',G',z1,z2,z3,z4,z5,rfl⟩
  · intro x H' y
    obtain⟨G3,s3,P3,S3,r3⟩:=it.lL i d α2 G2 F H2 st2 x H' s2 P2 S2 aT e y
    refine⟨α2,σd2,st2,d,fun σ' st'=>σ'=σ3∧st'=st2,G3,F,P3,R2.step s3,S3,r3,⟨σ3,e3,rfl,rfl⟩,?_⟩
    rintro σ' st' ⟨rfl,rfl⟩ α4 G4 H4 σ4 s4 P4 R4 S4
    have s24:=(s2.trans s3).trans s4
    refine⟨α4,σ',st',_,G4,F,P4,R4,S4,q3,?_,((k.rt.at s1).at s24),(k.nx.at s1).at s24,?_⟩
    · intro σd5 st5 q5 α5 G5 H5 σ5 s5 P5 R5 S5
      exact⟨α5,σd5,st5,G5,s24.trans s5,P5,R5,S5,q5⟩
    · intro σd5 st5 q5 α5 G5 H5 σ5 s5 P5 R5 S5
      exact⟨α5,σd5,st5,G5,s24.trans s5,P5,R5,S5,q5⟩
end
end L3
namespace L3
open PySem PySem.Spec L2
open PyProof.Rows hiding St
noncomputable def g8(fr:List (Option Nat))(σ:bJ):bJ:=fr.map fun o=>o.bind fun j=>(σ[j]?).join
theorem d6.comp{α:List (Option Addr)}{G:Hp}{σd:bJ}{σ:L2.St}{fr:List (Option Nat)}(h:d6 α G σd σ):d6 α G (g8 fr σd) (σC fr σ):=by
 refine⟨by unfold g8 σC;simp,fun i d e=>?_⟩
 unfold g8 at e
 rw[List.getElem?_map]at e
 cases q:fr[i]? with
 |none=>rw[q]at e;cases e
 |some o=>
  rw[q]at e
  cases o with
  |none=>simp at e
  |some j=>
   simp only[Option.map_some,Option.some.injEq,Option.bind_some]at e
   have ej:σd[j]?=some (some d):=by
    cases r:σd[j]? with
    |none=>rw[r]at e;cases e
    |some u=>rw[r]at e;simp at e;rw[e]
   obtain⟨v,ev,rv⟩:=h.at' j d ej
   refine⟨v,?_,rv⟩
   unfold σC
   rw[List.getElem?_map,q]
   simp[ev]
noncomputable def df(tg:gd)(c:DT)(te:DE)(ok:ae→Prop)(σc:bJ):List D→List D→ae→(List D→ae→Prop)→Prop
 | [],acc,st,K=>ok st∧K acc st
 |x::xs,acc,st,K=>ok st∧∃σ2,tg x σc=some σ2∧c σ2 st fun b st1=>if b=true then te σ2 st1 fun y st2=>df tg c te ok σc xs (acc++[y]) st2 K else df tg c te ok σc xs acc st1 K
noncomputable def fc(src:DI)(fr:List (Option Nat))(tg:gd)(c:DT)(te:DE):DE:=fun σ st K=>src σ st fun xs ok st1=>xs.length≤sizeLine∧df tg c te ok (g8 fr σ) xs [] st1 fun ys st2=>K (.lst ys) st2
noncomputable def oi(src:DI)(fr:List (Option Nat))(tg:gd)(c:DT)(te:DE):DE:=fun σ st K=>src σ st fun xs ok st1=>xs.length≤sizeLine∧df tg c te ok (g8 fr σ) xs [] st1 fun ys st2=>K (.ref st2.length) (st2++[.lst ys])
noncomputable def cZ:DT:=fun _ st K=>K true st
noncomputable def qF(fr:List (Option Nat))(tg:gd):Prop:=∀(σ:bJ) (d:D) (σ2:bJ),tg d (g8 fr σ)=some σ2→σ2.length=(g8 fr σ).length∧∀(i:Nat) (e:D),(g8 fr σ)[i]?=some (some e)→σ2[i]?=some (some e)
theorem n_{fr:List (Option Nat)}{σ:bJ}{k:Nat}(h:fr[k]?=some none){e:D}(q:(g8 fr σ)[k]?=some (some e)):False:=by
 unfold g8 at q
 rw[List.getElem?_map,h]at q
 simp at q
theorem d8{fr:List (Option Nat)}{k:Nat}(h:fr[k]?=some none:=by rfl):qF fr (bB k):=fun σ d σ2 e=>by
 cases e
 refine⟨List.length_set,fun i x q=>?_⟩
 by_cases hi:i=k
 · subst hi;exact(n_ h q).elim
 · rw[List.getElem?_set_ne (Ne.symm hi)];exact q
theorem oU{fr:List (Option Nat)}{k j:Nat}(h:fr[k]?=some none:=by rfl)(h':fr[j]?=some none:=by rfl):qF fr (jj k j):=fun σ d σ2 e=>by
 unfold jj at e
 split at e
 · cases e
   refine⟨by rw[List.length_set,List.length_set],fun i x q=>?_⟩
   by_cases hi:i=k
   · subst hi;exact(n_ h q).elim
   · by_cases hj:i=j
     · subst hj;exact(n_ h' q).elim
     · rw[List.getElem?_set_ne (Ne.symm hj),List.getElem?_set_ne (Ne.symm hi)];exact q
 · cases e
section
variable {X:Cx}
theorem Ai:qP X [] (LT cZ):=fun pins s σ H Q I ⟨α,σd,st,K,G,F,P,R,S,t,k⟩=>CZ pins s σ H Q I (k true st t α G H Step.refl P S)
theorem LE.comp{src:DI}{fr:List (Option Nat)}{tg:gd}{c:DT}{te:DE}(fit:qF fr tg){σ:L2.St}{H:Hp}{Q:VK}{α:List (Option Addr)}{σd:bJ}{st:ae}{KE:List D→ae→Prop}{G F:Hp}(P:cm G F H)(R:d6 α G σd σ)(S:aU α st G)
 (t:src σd st fun xs ok st1=>xs.length≤sizeLine∧df tg c te ok (g8 fr σd) xs [] st1 KE)
 (fin:∀ys st2 α2 G2 H2 l vs,KE ys st2→Step α G α2 G2→cm G2 (upd F l (.lst vs)) H2→F l=none→aU α2 st2 G2→aG α2 G2 ys vs→Q (.ref l) H2):
 q_ (LI src) fr (LG tg) (LT c) (LE te) σ H Q:=by
 refine⟨α,σd,st,_,G,F,P,R,S,t,fun xs ok st1 q J α1 G1 H1 s1 P1 S1 it l hl=>?_⟩
 obtain⟨hsz,q⟩:=q
 obtain⟨hG,hF⟩:=P1.none hl
 refine⟨fun i m σ' H'=>∃α' st' G' acc vs,Step α1 G1 α' G'∧cm G' (upd F l (.lst vs)) H'∧d6 α' G' (g8 fr σd) σ'∧aU α' st' G'∧aG α' G' acc vs∧acc.length≤i∧i≤xs.length∧df tg c te ok (g8 fr σd) (xs.drop i) acc st' KE∧m=xs.length-i,
  ⟨xs.length,α1,st1,G1,[],[],Step.refl,P1.hide hl,(R.step s1).comp,S1,by unfold aG;rfl,Nat.le_refl _,Nat.zero_le _,q,rfl⟩,?_⟩
 rintro i m σ2 H2 ⟨α2,st2,G2,acc,vs,s2,P2,R2,S2,ra,hacc,hi,q2,rfl⟩
 cases e:xs[i]? with
 |none=>
  have hl2:xs.length≤i:=List.getElem?_eq_none_iff.mp e
  rw[List.drop_eq_nil_of_le hl2]at q2
  unfold df at q2
  exact .inl ⟨it.stop i α2 G2 _ H2 st2 s2 P2 S2 q2.1 hl2,fin acc st2 α2 G2 H2 l vs q2.2 (s1.trans s2) P2 hF S2 ra⟩
 |some d=>
  have hl2:i<xs.length:=(List.getElem?_eq_some_iff.mp e).1
  have ed:xs.drop i=d::xs.drop (i+1):=by
   rw[List.drop_eq_getElem_cons hl2]
   congr 1
   rw[List.getElem?_eq_getElem hl2]at e
   exact Option.some.inj e
  rw[ed]at q2
  unfold df at q2
  obtain⟨aT,σ3,e3,q3⟩:=q2
  refine .inr ⟨it.go i d α2 G2 _ H2 st2 s2 P2 S2 aT e,fun σ' H'=>∃α' st' G' acc vs,Step α1 G1 α' G'∧cm G' (upd F l (.lst vs)) H'∧d6 α' G' (g8 fr σd) σ'∧aU α' st' G'∧aG α' G' acc vs∧acc.length≤i+1∧df tg c te ok (g8 fr σd) (xs.drop (i+1)) acc st' KE,?_,?_⟩
  · rintro σ' H' ⟨α',st',G',acc',vs',z1,z2,z3,z4,z5,z6,z7⟩
    exact⟨xs.length-(i+1),by omega,α',st',G',acc',vs',z1,z2,z3,z4,z5,z6,hl2,z7,rfl⟩
  · intro x H' y
    obtain⟨G3,s3,P3,S3,r3⟩:=it.lL i d α2 G2 _ H2 st2 x H' s2 P2 S2 aT e y
    refine⟨α2,g8 fr σd,st2,d,fun σ' st'=>σ'=σ3∧st'=st2,G3,_,P3,R2.step s3,S3,r3,⟨σ3,e3,rfl,rfl⟩,?_⟩
    rintro σ' st' ⟨rfl,rfl⟩ α4 G4 H4 σ4 s4 P4 R4 S4
    have s24:=(s2.trans s3).trans s4
    have Rc:d6 α4 G4 (g8 fr σd) σ4:=⟨by rw[←(fit σd d σ' e3).1];exact R4.len,fun j z hz=>R4.at' j z ((fit σd d σ' e3).2 j z hz)⟩
    refine⟨α4,σ',st',_,G4,_,P4,R4,S4,q3,fun b st5 q5 α5 G5 H5 s5 P5 S5=>?_⟩
    cases b with
    |false=>exact⟨α5,st5,G5,acc,vs,s24.trans s5,P5,Rc.step s5,S5,((ra.step s3).step s4).step s5,by omega,q5⟩
    |true=>
     refine⟨α5,σ',st5,_,G5,_,P5,R4.step s5,S5,q5,fun z st6 q6 α6 G6 H6 v6 s6 P6 S6 r6=>?_⟩
     have hr:=(((ra.step s3).step s4).step s5).step s6
     refine⟨vs,(P6.frame br).1,by rw[←hr.length];omega,α6,st6,G6,acc++[z],vs++[v6],(s24.trans s5).trans s6,?_,(Rc.step s5).step s6,S6,aR.mpr (d9 (aR.mp hr) (.cons r6 .nil)),by rw[List.length_append,List.length_singleton];omega,q6⟩
     have:=P6.J_ (p:=l) (o':= .lst (vs++[v6])) br
     rw[C7]at this
     exact this
theorem El{scope:Scope}{Nc:List Str}{elt tg iter:Expr}{ifs:List Expr}{pos:Pos}{src:DI}{fr:List (Option Nat)}{dtg:gd}{c:DT}{te:DE}(S:cc X scope Nc fr)(hi:PI X tg iter (LI src))
 (hg:∀C s H ex,PG (fG X scope Nc C s H ex) tg (LG dtg)) (ht:∀C s H ex,qP (fG X scope Nc C s H ex) ifs (LT c)) (he:∀C s H ex,PE (fG X scope Nc C s H ex) elt (LE te)) (fit:qF fr dtg)
 (hx:X.xe=fun _ _=>False:=by rfl) (hc:X.calm=true:=by rfl) (hs:∀x,foldedSetIterable iter X.env x=pure x:=by intro _;rfl):PE X (.ListComp elt [⟨tg,iter,ifs,0⟩] scope pos) (LE (fc src fr dtg c te)):=
 PE.imp (wQ hx hc S hi hg ht he hs) fun σ H Q ⟨α,σd,st,K,G,F,P,R,S,t,k⟩=>LE.comp fit P R S t fun ys st2 α2 G2 H2 l vs q s2 P2 hl S2 r=>by
  have hg:G2 l=none:=(P2.frame br).2
  refine k _ st2 q α2 (upd G2 l (.lst vs)) H2 (.ref l) (s2.trans (Step.laid hg)) (P2.show hl) (S2.laid hg) ?_
  unfold Rep
  exact⟨l,vs,rfl,S2.lN hg,.of br,r.step (Step.laid hg)⟩
theorem CH{scope:Scope}{Nc:List Str}{elt tg iter:Expr}{ifs:List Expr}{pos:Pos}{src:DI}{fr:List (Option Nat)}{dtg:gd}{c:DT}{te:DE}(S:cc X scope Nc fr)(hi:PI X tg iter (LI src))
 (hg:∀C s H ex,PG (fG X scope Nc C s H ex) tg (LG dtg)) (ht:∀C s H ex,qP (fG X scope Nc C s H ex) ifs (LT c)) (he:∀C s H ex,PE (fG X scope Nc C s H ex) elt (LE te)) (fit:qF fr dtg)
 (hx:X.xe=fun _ _=>False:=by rfl) (hc:X.calm=true:=by rfl) (hs:∀x,foldedSetIterable iter X.env x=pure x:=by intro _;rfl):PE X (.ListComp elt [⟨tg,iter,ifs,0⟩] scope pos) (LE (oi src fr dtg c te)):=
 PE.imp (wQ hx hc S hi hg ht he hs) fun σ H Q ⟨α,σd,st,K,G,F,P,R,S,t,k⟩=>LE.comp fit P R S t fun ys st2 α2 G2 H2 l vs q s2 P2 hl S2 r=>by
  have hg:G2 l=none:=(P2.frame br).2
  refine k _ _ q (α2++[some l]) (upd G2 l (.lst vs)) H2 (.ref l) (s2.trans (Step.cell hg)) (P2.show hl) (S2.cell hg ⟨vs,br,r.step (Step.cell hg)⟩) ?_
  unfold Rep
  refine .inr ⟨l,?_,rfl⟩
  rw[List.getElem?_append_right (by rw[S2.len];exact Nat.le_refl _),S2.len,Nat.sub_self]
  rfl
theorem DU{st:Stmt}{k:Nat}{src:DI}{fr:List (Option Nat)}{dtg:gd}{c:DT}{te:DE}(fit:qF fr dtg)(h:PS X st (m4 (q_ (LI src) fr (LG dtg) (LT c) (LE te)) (iL k))):PS X st (LS (aX k (fc src fr dtg c te))):=
 PS.imp h fun D σ H ⟨α,σd,st,DD,G,F,P,R,S,t,q⟩=>LE.comp fit P R S t fun ys st2 α2 G2 H2 l vs qq s2 P2 hl S2 r=>by
  have hg:G2 l=none:=(P2.frame br).2
  have s3:=s2.trans (Step.laid (o:= .lst vs) hg)
  refine q.nx _ st2 qq α2 (upd G2 l (.lst vs)) H2 _ s3 (P2.show hl) ((R.step s3).set k ?_) (S2.laid hg)
  unfold Rep
  exact⟨l,vs,rfl,S2.lN hg,.of br,r.step (Step.laid hg)⟩
noncomputable def bx(N:List Str)(ds:List D):bJ:=ds.map some++List.replicate (N.length-ds.length) none
theorem d6.start{α:List (Option Addr)}{G:Hp}{N:List Str}{ds:List D}{vs:List V}(r:aG α G ds vs):d6 α G (bx N ds) (L2.start N vs):=by
 have hl:=r.length
 refine⟨by unfold bx L2.start;simp[hl],fun i d e=>?_⟩
 unfold bx at e
 by_cases hi:i<ds.length
 · rw[List.getElem?_append_left (by simpa using hi),List.getElem?_map]at e
   cases q:ds[i]? with
   |none=>rw[q]at e;cases e
   |some x=>
    rw[q]at e
    cases e
    obtain⟨v,ev,rv⟩:=r.get q
    refine⟨v,?_,rv⟩
    unfold L2.start
    rw[List.getElem?_append_left (by rw[List.length_map];omega),List.getElem?_map,ev]
    rfl
 · rw[List.getElem?_append_right (by simpa using hi),List.getElem?_replicate]at e
   split at e<;>cases e
theorem HQ{P:Program}{w:World}{K:PySem.W.Frag}{mg:Str→Option Value}{base:Heap}{x qual:Str}{st:Stmt}{f:Addr}{fd:FuncData}{N ps:List Str}{k:Nat}{sp:cY}{t:DS}(F:mr K x qual st f fd)(S:bf N ps (ah st))
 (hbody:∀(cdv:Value) (A:Around) (outer:List Env) (s:Shared) (H:Hp) (E:XK),dm k (A.deeper (envOfC qual (ah st) s.heap.objs.size f cdv))→gv (nS aJ P w K mg base N qual (ah st) f cdv A outer s H E).uk (aV st) (LS t))
 (hsp:∀ds st K,sp ds st K→ds.length=ps.length∧t {nx:=fun _ st'=>K .aP st',rt:=K} (bx N ds) st):ax P w K mg base aJ (k+1) f fd ps (aL sp):=by
 refine F.ok S (fun vs H Q E h=>?_) fun cdv A outer s H vs Q E hr h=>⟨_,hbody cdv A outer s H E hr,?_⟩
 · obtain⟨α,ds,st,K,G,F,P,r,S,q,k⟩:=h
   rw[←r.length]
   exact(hsp ds st K q).1
 · obtain⟨α,ds,st,K,G,F,P,r,S,q,k⟩:=h
   refine⟨α,bx N ds,st,_,G,F,P,d6.start r,S,(hsp ds st K q).2,?_,k,?_,?_⟩
   · intro σd' st' kk α' G' H' σ' s' P' R' S'
     exact k .aP st' kk α' G' H' .aP s' P' S' (by unfold Rep;rfl)
   · intro σd' st' kk
     exact kk.elim
   · intro σd' st' kk
     exact kk.elim
noncomputable def mE(to te:DE):DE:=fun σ st K=>to σ st fun x st1=>match x with
 | .ref n=>(match st1[n]? with
   |some (.lst _)=>te σ st1 fun y st2=>∃y',[y]=[y']∧(match st2[n]? with|some (.lst xs)=>xs.length<sizeLine∧K .aP (st2.set n (.lst (xs++[y'])))|_=>False)
   |_=>False)
 |_=>False
end
end L3
namespace L3
open PySem PySem.Spec L2
open PyProof.Rows hiding St
structure aF(K:PySem.W.Frag)(mg:Str→Option Value)(x qual:Str)(st:Stmt)(ps:List Str)(f:Addr)(fd:FuncData):Prop where
 fn:mr K x qual st f fd
 mg:mg x=some (.ref f)
 bd:Binds K fd ps []
noncomputable def qY(sc:Scope)(N:List Str)(scope:Scope)(Nc:List Str)(fr:List (Option Nat)):Bool:=
 (scope.kind== .function)&&scope.names.all (fun x=>x.2 != .cell||scope.names.lookup x.1==some .cell)&&scope.names.all (fun x=>x.2 != .local||scope.names.lookup x.1==some .local)&&
 scope.names.all (fun x=>x.2 != .free||sc.names.lookup x.1==some .cell||sc.names.lookup x.1==some .free)&&(fr.length==Nc.length)&&
 (List.range fr.length).all fun i=>match fr[i]?,Nc[i]? with
   |some (some j),some x=>(N[j]?==some x)&&(scope.names.lookup x==some .free)&&(sc.names.lookup x==some .cell||sc.names.lookup x==some .free)
   |_,_=>true
theorem cc.look{X:Cx}{scope:Scope}{Nc:List Str}{fr:List (Option Nat)}(sc:Scope)(N:List Str)(h:qY sc N scope Nc fr=true)(hsc:X.env.scope=sc:=by rfl)(hN:X.N=N:=by rfl):cc X scope Nc fr:=by
 unfold qY at h
 simp only[Bool.and_eq_true]at h
 obtain⟨⟨⟨⟨⟨h1,h2⟩,h3⟩,h4⟩,h5⟩,h6⟩:=h
 subst hsc hN
 refine⟨by simpa using h1,fun x hx hk=>?_,fun x hx hk=>?_,fun x hx hk=>?_,by simpa using h5,fun i j x e1 e2=>?_⟩
 · have:=List.all_eq_true.mp h2 x hx
   rw[hk]at this
   simpa using this
 · have:=List.all_eq_true.mp h3 x hx
   rw[hk]at this
   simpa using this
 · have:=List.all_eq_true.mp h4 x hx
   rw[hk]at this
   have z:X.env.scope.names.lookup x.1=some .cell∨X.env.scope.names.lookup x.1=some .free:=by simpa using this
   exact z
 · have hi:i<fr.length:=(List.getElem?_eq_some_iff.mp e2).1
   have:=List.all_eq_true.mp h6 i (List.mem_range.mpr hi)
   rw[e1,e2]at this
   simp only[Bool.and_eq_true,Bool.or_eq_true,beq_iff_eq]at this
   exact⟨this.1.1,this.1.2,this.2⟩
section
variable {X:Cx}
theorem JR{e:Expr}{es:List Expr}{pos p:Pos}{x:Str}{id:String}{r:gf}{t:DA}(hc:cn X (.builtin id) (ij r))(ha:PA X (e::es) (LA t))(hm:X.mg x=none)(hv:bootBuiltins x=some (.builtin id))(hg:Gl X x:=by rfl)(hn:x≠"__name__":=by decide)(hdb:(x==("__debug__":Str))=false:=by decide)
 (he:starEach (e::es) X.env=(false,eval e X.env)::starEach es X.env:=by rfl) (hpl:(backTo pos (starEach es X.env)).any (·.1)=false:=by rfl):PE X (.Call (.Name x p) (e::es) [] pos) (LE (dZ r t)):=PE.imp (Bb hc hg hm hv ha hn hdb he hpl) fun _ _ _ h=>LE.cb h
theorem Jw{e:Expr}{es:List Expr}{pos p:Pos}{x:Str}{T:String}{r:gf}{t:DA}(hc:cn X (.type T) (ij r))(ha:PA X (e::es) (LA t))(hm:X.mg x=none)(hv:bootBuiltins x=some (.type T))(hg:Gl X x:=by rfl)(hn:x≠"__name__":=by decide)(hdb:(x==("__debug__":Str))=false:=by decide)
 (he:starEach (e::es) X.env=(false,eval e X.env)::starEach es X.env:=by rfl) (hpl:(backTo pos (starEach es X.env)).any (·.1)=false:=by rfl):PE X (.Call (.Name x p) (e::es) [] pos) (LE (dZ r t)):=PE.imp (zc hc hg hm hv ha hn hdb he hpl) fun _ _ _ h=>LE.cb h
theorem Jv{e:Expr}{es:List Expr}{pos p:Pos}{x qual:Str}{st:Stmt}{ps:List Str}{f:Addr}{fd:FuncData}{k:Nat}{S:cY}{t:DA}(A:aF X.K X.mg x qual st ps f fd)(F:ax X.prog X.w X.K X.mg X.base aJ k f fd ps (aL S))(hr:dm k X.A)
 (ha:PA X (e::es) (LA t)) (hg:Gl X x:=by rfl) (hdb:(x==("__debug__":Str))=false:=by decide) (he:starEach (e::es) X.env=(false,eval e X.env)::starEach es X.env:=by rfl) (hpl:(backTo pos (starEach es X.env)).any (·.1)=false:=by rfl):
 PE X (.Call (.Name x p) (e::es) [] pos) (LE (bg S t)):=Gb F hr hg A.mg A.fn.kp A.bd ha hdb he hpl
theorem vC{M:Model}{A:Around}{E:Value→Shared→Prop}{s:Shared}{Q:Value→Shared→Prop}{x:V}{v:Value}{b:Bool}(r:RelV x v)(h:Q (.bool (v== .bool b)) s):wpAny M A (compareOp .Is v (.bool b)) Q E s:=by
 cases x
 case bl c=>
  cases r
  have e:(Value.bool c==Value.bool b)=(c==b):=by cases c<;>cases b<;>rfl
  rw[e]at h
  exact is_bool h
 all_goals first
  |(cases r;exact wpAny_pure h)
  |(obtain⟨t,rfl⟩:=r;exact wpAny_pure h)
noncomputable def E1(d:D)(b:Bool):Bool:=match d with| .bl c=>c==b|_=>false
noncomputable def IV(d:D):Bool:=match d with| .aP=>true|_=>false
noncomputable def B_:di:=fun x y st K=>match y with| .aP=>live st x=true∧K (.bl (IV x)) st| .bl b=>live st x=true∧K (.bl (E1 x b)) st|_=>False
theorem Dj{α:List (Option Addr)}{H:Hp}{st:ae}{d:D}{v:V}{u:Value}{b:Bool}(S:aU α st H)(hl:live st d=true)(r:Rep α H d v)(ru:RelV v u):(u==Value.bool b)=E1 d b:=by
 cases d
 case ref n=>
  obtain⟨a,rfl⟩:=vt S hl r
  cases ru;rfl
 all_goals unfold Rep at r
 case bl c=>
  subst r
  cases ru
  cases c<;>cases b<;>rfl
 all_goals first
  |(subst r;first|(cases ru;rfl)|(obtain⟨t,rfl⟩:=ru;rfl))
  |(obtain⟨a,vs,rfl,_⟩:=r;cases ru;rfl)
theorem Hv:bR X (compareOp .Is) (LR B_):=fun pins s σ H x y v u Q I rx ry ⟨α,d,e,st,K,G,F',P,r1,r2,S,q,k⟩=>by
 cases e<;>try exact q.elim
 · unfold Rep at r2
   refine Fs pins s σ H x y v u Q I rx ry ⟨r2,k.here P q.2 S ?_⟩
   unfold Rep
   cases d
   case ref n=>
    obtain⟨a,rfl⟩:=vt S q.1 r1
    rfl
   all_goals(unfold Rep at r1;first|(rw[r1];rfl)|(obtain⟨a,vs,rfl,_⟩:=r1;rfl))
 · rename_i b
   unfold Rep at r2
   subst r2
   cases ry
   refine vC rx ?_
   rw[Dj S q.1 r1 rx]
   exact⟨.bl (E1 d b),H,I,rfl,k.here P q.2 S (by unfold Rep;rfl)⟩
theorem LE.append{to te:DE}{σ:L2.St}{H:Hp}{Q:VK}(h:LE (mE to te) σ H Q):IL X.K "list" wG (LE to) (LA (ag te aw)) σ H Q:=by
 obtain⟨α,σd,st,K,G,F,P,R,S,t,k⟩:=h
 refine⟨α,σd,st,_,G,F,P,R,S,t,fun x st1 q α1 G1 H1 v s1 P1 S1 r1=>?_⟩
 cases x<;>try exact q.elim
 rename_i n
 simp only at q
 split at q
 · rename_i ys e
   obtain⟨p,ep,vs,h1,h2⟩:=S1.g5 e
   have r1':=d7 ep r1
   subst r1'
   refine⟨.inl ⟨rfl,vs,.inl (.of (P1.get h1))⟩,α1,σd,st1,fun ds st2=>∃y,ds=[y]∧(match st2[n]? with|some (.lst xs)=>xs.length<sizeLine∧K .aP (st2.set n (.lst (xs++[y])))|_=>False),G1,F,P1,R.step s1,S1,?_,?_⟩
   · refine Eq.mp ?_ q
     rfl
   · rintro ds st2 ⟨y,rfl,q2⟩ α2 G2 H2 ws s2 P2 S2 r2
     obtain⟨w,rfl,rw'⟩:=jy r2 rfl
     split at q2
     · rename_i xs e2
       obtain⟨p2,ep2,us,g1,g2⟩:=S2.g5 e2
       have:p2=p:=by
        rcases s2.pre _ _ ep with z|z<;>(rw[z]at ep2;cases ep2)
        rfl
       subst this
       have hm:some p2∈α2:=List.mem_of_getElem? ep2
       refine⟨p2,us,w,rfl,rfl,P2.get g1,by rw[←g2.length];exact q2.1,?_⟩
       refine((k.at s1).at s2) _ _ q2.2 α2 (upd G2 p2 (.lst (us++[w]))) _ .aP (Step.write hm) (P2.write g1) ?_ (by unfold Rep;rfl)
       exact S2.write ep2 ⟨us++[w],br,(aR.mpr (d9 (aR.mp g2) (.cons rw' .nil))).step (Step.write hm)⟩
     · exact q2.elim
 · exact q.elim
theorem AZ{o e:Expr}{to te:DE}{apos cpos:Pos}(ho:PE X o (LE to))(he:PE X e (LE te))(hbase:attributeBase o "append" X.env (eval o X.env)=eval o X.env:=by rfl)
 (hfew:((backTo cpos (starEach [e] X.env)).all (fun x=> !x.1)&&(backToKw cpos (keywordEach [] X.env)).all (fun x=>x.1.isSome)
   &&decide (([e]:List Expr).length+([]:List Keyword).length+(if([]:List Keyword).isEmpty then 0 else 1)<30))=true:=by rfl)
 (hline:(apos.endLine==cpos.line)=true:=by rfl) (hs:starEach [e] X.env=(false,eval e X.env)::starEach [] X.env:=by rfl) (hplain:(backTo cpos (starEach [] X.env)).any (·.1)=false:=by rfl):PE X (.Call (.Attribute o "append" apos) [e] [] cpos) (LE (mE to te)):=
 PE.imp (HZ PySem.F.plainAttrs_list PySem.F.slot_list_append PySem.F.type_list_append sQ ho (wq he yT hs) hbase hfew hline hs hplain) fun _ _ _ h=>LE.append h
end
end L3
namespace L3
open PySem L2
open PySem.Spec hiding items?
open PyProof.Rows hiding St
section
variable {X:Cx}
@[irreducible] noncomputable def cu:di:=BM
theorem cP:bR X (binaryOp .Add) (LR cu):=by unfold cu;exact Ih
@[irreducible] noncomputable def c_:di:=By
theorem dv:bR X (binaryOp .Sub) (LR c_):=by unfold c_;exact He
@[irreducible] noncomputable def bN:di:=Ct
theorem cD:bR X (binaryOp .Mult) (LR bN):=by unfold bN;exact Hl
@[irreducible] noncomputable def gY:di:=zR
theorem j5:bR X (binaryOp .FloorDiv) (LR gY):=by unfold gY;exact Em
@[irreducible] noncomputable def ib:di:=Cq
theorem kv:bR X (binaryOp .Mod) (LR ib):=by unfold ib;exact Hu
@[irreducible] noncomputable def pU:di:=BY
theorem xj:bR X (binaryOp .Pow) (LR pU):=by unfold pU;exact Hz
@[irreducible] noncomputable def nU:di:=E4
theorem yn:bR X (compareOp .Lt) (LR nU):=by unfold nU;exact Jl
@[irreducible] noncomputable def zV:di:=ET
theorem Jy:bR X (compareOp .LtE) (LR zV):=by unfold zV;exact Jh
@[irreducible] noncomputable def pB:di:=GN
theorem Az:bR X (compareOp .Gt) (LR pB):=by unfold pB;exact JJ
@[irreducible] noncomputable def qR:di:=Ey
theorem EB:bR X (compareOp .GtE) (LR qR):=by unfold qR;exact Ju
@[irreducible] noncomputable def vS:di:=B_
theorem F_:bR X (compareOp .Is) (LR vS):=by unfold vS;exact Hv
@[irreducible] noncomputable def jz:di:=ES
theorem lZ{k:Nat}(hr:dm k X.A):bR X (compareOp .Eq) (LR jz):=by unfold jz;exact Jz hr
@[irreducible] noncomputable def iy:t4:=Cv
theorem Ij:vW X (unaryOp .USub) (BV iy):=by unfold iy;exact HW
@[irreducible] noncomputable def bO:di:=m5
theorem Je{a b:Expr}{ta tb:DE}{pos:Pos}(ha:PE X a (LE ta))(hb:PE X b (LE tb))(hs:oy b:=by intro _ _;rfl):PE X (.Subscript a b pos) (LE (aj bO ta tb)):=by unfold bO;exact JQ ha hb hs
@[irreducible] noncomputable def iQ:gf:=tR
theorem jT:cn X (.builtin "len") (ij iQ):=by unfold iQ;exact HY
@[irreducible] noncomputable def rM:gf:=xa
theorem BG:cn X (.builtin "abs") (ij rM):=by unfold rM;exact HI
@[irreducible] noncomputable def rY:gf:=xI
theorem B5(hc:X.calm=true):cn X (.builtin "max") (ij rY):=by unfold rY;exact GZ hc
@[irreducible] noncomputable def fV:gf:=oB
theorem gT:cn X (.type "tuple") (ij fV):=by unfold fV;exact DL
@[irreducible] noncomputable def mR:gf:=qG
theorem vn:cn X (.type "list") (ij mR):=by unfold mR;exact GA
@[irreducible] noncomputable def nV:gf:=oE
theorem DZ:cn X (.type "list") (ij nV):=by unfold nV;exact CN
@[irreducible] noncomputable def lY:D→ae→(List D→(ae→Prop)→ae→Prop)→Prop:=rZ
noncomputable def iq(t:DE):DI:=fun σ st K=>t σ st fun d st1=>lY d st1 K
theorem Gn{l tg:Expr}{tl:DE}(hl:PE X l (LE tl)):PI X tg l (LI (iq tl)):=by unfold iq lY;exact Ep hl
@[irreducible] noncomputable def tQ:List D→ae→(List D→(ae→Prop)→ae→Prop)→Prop:=Cp
@[irreducible] noncomputable def tU:List D→ae→(List D→(ae→Prop)→ae→Prop)→Prop:=Bz
noncomputable def de(t:DA):DI:=fun σ st K=>t σ st fun ds st1=>tQ ds st1 K
noncomputable def jC(t:DA):DI:=fun σ st K=>t σ st fun ds st1=>tU ds st1 K
theorem z_{tg iter:Expr}{t:DA}(h:PI X tg iter (xQ (LA t))):PI X tg iter (LI (de t)):=by unfold de tQ;exact zd h
theorem zm{tg iter:Expr}{t:DA}(h:PI X tg iter (yg (LA t))):PI X tg iter (LI (jC t)):=by unfold jC tU;exact zM h
@[irreducible] noncomputable def xG:D→D→D→ae→(ae→Prop)→Prop:=pK
noncomputable def gO(to ti te:DE):DS:=fun D σ st=>te σ st fun d st1=>to σ st1 fun x st2=>ti σ st2 fun y st3=>xG x y d st3 fun st4=>D.nx σ st4
theorem AA{st:Stmt}{to ti te:DE}(h:PS X st (m4 (LE te) (xJ (LE to) (LE ti) tF))):PS X st (LS (gO to ti te)):=by unfold gO xG;exact Ab h
end
section
variable {st:ae}{K:DK}{i j:Int}{b c:Bool}{xs ys:List D}{d e:D}{n:Nat}
theorem cK(k:K (.int (i+j)) st):cu (.int i) (.int j) st K:=by unfold cu;exact k
theorem r8(h:xs.length+ys.length≤sizeLine)(k:K (.lst (xs++ys)) st):cu (.lst xs) (.lst ys) st K:=by unfold cu;exact⟨h,k⟩
theorem cN(k:K (.int (i-j)) st):c_ (.int i) (.int j) st K:=by unfold c_;exact⟨trivial,k⟩
theorem b_(h:IntMulOk i j)(k:K (.int (i*j)) st):bN (.int i) (.int j) st K:=by unfold bN;exact⟨h,k⟩
theorem wy(h: -(2^63)≤i∧i<2^63∧xs.length*i.toNat≤sizeLine)(k:K (.lst (List.replicate i.toNat xs).flatten) st):bN (.lst xs) (.int i) st K:=by unfold bN;exact⟨h,k⟩
theorem iY(h0:j≠0)(h:j.natAbs.log2<9000)(k:K (.int (i.fdiv j)) st):gY (.int i) (.int j) st K:=by unfold gY;exact⟨⟨h0,h⟩,k⟩
theorem jv(h0:j≠0)(k:K (.int (i.fmod j)) st):ib (.int i) (.int j) st K:=by unfold ib;exact⟨h0,k⟩
theorem ve(h:Aw i j)(k:K (.int (i^j.toNat)) st):pU (.int i) (.int j) st K:=by unfold pU;exact⟨h,k⟩
theorem xC(k:K (.bl (decide (i<j))) st):nU (.int i) (.int j) st K:=by unfold nU;exact⟨trivial,k⟩
theorem Ii(k:K (.bl (decide (i≤j))) st):zV (.int i) (.int j) st K:=by unfold zV;exact⟨trivial,k⟩
theorem BX(k:K (.bl (decide (j<i))) st):pB (.int i) (.int j) st K:=by unfold pB;exact⟨trivial,k⟩
theorem Cc(k:K (.bl (decide (j≤i))) st):qR (.int i) (.int j) st K:=by unfold qR;exact⟨trivial,k⟩
theorem uA(h:live st d=true)(k:K (.bl (IV d)) st):vS d .aP st K:=by unfold vS;exact⟨h,k⟩
theorem Hg(h1:pl 40 d=true)(h2:pl 40 e=true)(k:K (.bl (eG d e)) st):jz d e st K:=by unfold jz;exact⟨h1,h2,k⟩
theorem CB(a b:Int):(a==b)=decide (a=b):=by
 by_cases h:a=b
 · subst h;simp
 · simp[h]
theorem zH(k:K (.bl (decide (i=j))) st):jz (.int i) (.int j) st K:=by
 refine Hg rfl rfl ?_
 have:eG (.int i) (.int j)=decide (i=j):=by unfold eG;exact CB i j
 rw[this];exact k
theorem ia(k:K (.int (-i)) st):iy (.int i) st K:=by unfold iy;exact k
theorem Ba(h:items? st d=some xs)(a:dY xs i=some e)(k:K e st):m5 d (.int i) st K:=by
 cases d<;>unfold items? at h<;>first
  |(cases h;done)
  |(cases h;simp only[m5,a];exact k)
  |(simp only at h
    split at h
    · rename_i q
      cases h
      simp only[m5,q,a]
      exact k
    · cases h)
theorem aZ(h:items? st d=some xs)(a:dY xs i=some e)(k:K e st):bO d (.int i) st K:=by unfold bO;exact Ba h a k
theorem iE(h:items? st d=some xs)(k:K (.int xs.length) st):iQ [d] st K:=by
 unfold iQ tR
 split
 · rename_i z;cases z;cases h
 · rename_i z;cases z;rw[h];exact k
 · rename_i z1 z2;exact absurd rfl (z2 d)
theorem Dk(i:Int):(if i<0 then-i else i)=((i.natAbs:Nat):Int):=by split<;>omega
theorem zD(k:K (.int ((i.natAbs:Nat):Int)) st):rM [.int i] st K:=by unfold rM;show K (.int (if i<0 then-i else i)) st;rw[Dk];exact k
theorem Aa(k:K (.int (if j>i then j else i)) st):rY [.int i,.int j] st K:=by unfold rY;exact k
theorem fZ(h:items? st d=some xs)(k:K (.tup xs) st):fV [d] st K:=by unfold fV oB;simp only[h];exact k
theorem rp(h:items? st d=some xs)(k:K (.lst xs) st):mR [d] st K:=by unfold mR qG;simp only[h];exact k
theorem A_(h:items? st d=some xs)(k:K (.ref st.length) (st++[.lst xs])):nV [d] st K:=by unfold nV oE;simp only[h];exact k
theorem u4{K:List D→(ae→Prop)→ae→Prop}(h:items? st d=some xs)(k:∀ok:ae→Prop,ok st→K xs ok st):lY d st K:=by
 unfold lY rZ
 cases d<;>unfold items? at h<;>first
  |(cases h;done)
  |(cases h;exact k _ trivial)
  |(simp only at h
    split at h
    · rename_i q
      cases h
      simp only[q]
      exact k _ q
    · cases h)
theorem rE{K:List D→(ae→Prop)→ae→Prop}(k:K xs (fun _=>True) st):lY (.lst xs) st K:=by unfold lY;exact k
theorem mI{K:List D→(ae→Prop)→ae→Prop}(k:K xs (fun _=>True) st):lY (.tup xs) st K:=by unfold lY;exact k
theorem fq{K:List D→(ae→Prop)→ae→Prop}(h: -(2^62)≤j∧j<2^62)(k:K (cQ 0 j.toNat) (fun _=>True) st):tQ [.int j] st K:=by unfold tQ;exact⟨h,k⟩
theorem oS{K:List D→(ae→Prop)→ae→Prop}(h: -(2^62)≤i∧i<2^62∧ -(2^62)≤j∧j<2^62)(k:K (cQ i (j-i).toNat) (fun _=>True) st):tU [.int i,.int j] st K:=by unfold tU;exact⟨h,k⟩
theorem jl{K:ae→Prop}{m:Nat}(h:st[n]?=some (.lst xs))(e:jA xs.length i=some m)(k:K (st.set n (.lst (xs.set m d)))):xG (.ref n) (.int i) d st K:=by unfold xG pK;simp only[h,e];exact k
end
end L3
namespace L3
open PySem L2
open PySem.Spec hiding items?
open PyProof.Rows hiding St
noncomputable def vi(K:PySem.W.Frag):Bool:=K.all fun p=>p.2.cls != .type "list"
theorem pH{a:Addr}{o:Obj}:∀ {l:List (Addr×Obj)},l.lookup a=some o→(a,o)∈l
 | [],h=>by cases h
 |(b,u)::r,h=>by
  rw[List.lookup_cons]at h
  split at h
  · rename_i z
    cases h
    have:a=b:=by simpa using z
    subst this
    exact List.mem_cons_self
  · exact List.mem_cons_of_mem _ (pH h)
theorem tf{K:PySem.W.Frag}(h:vi K=true){a:Addr}{o:Obj}(e:K.lookup a=some o):o.cls≠ .type "list":=by
 have:=List.all_eq_true.mp h (a,o) (pH e)
 simpa using this
theorem sU{α:List (Option Addr)}{G:Hp}:∀ns:List Int,aG α G (ns.map D.int) (ns.map V.int)
 | []=>by unfold aG;rfl
 |n::ns=>by
  rw[List.map_cons,List.map_cons]
  unfold aG
  exact⟨_,_,rfl,by unfold Rep;rfl,sU ns⟩
end L3
namespace L3
open PySem L2
open PySem.Spec hiding items?
open PyProof.Rows hiding St
noncomputable def notStar:Expr→Bool
 | .Starred .. =>false
 |_=>true
theorem cv{e:Expr}{es:List Expr}{env:Env}(h:notStar e=true):starEach (e::es) env=(false,eval e env)::starEach es env:=by
 cases e<;>first|rfl|cases h
noncomputable def fM:List Expr→Bool
 | []=>true
 |e::es=>notStar e&&fM es
theorem iO{pos:Pos}{env:Env}:∀ {es:List Expr},fM es=true→(backTo pos (starEach es env)).any (·.1)=false
 | [],_=>rfl
 |e::es,h=>by
  unfold fM at h
  rw[Bool.and_eq_true]at h
  rw[cv h.1]
  have ih:=iO (pos:=pos) (env:=env) h.2
  unfold backTo at ih⊢
  rw[List.map_cons,List.any_cons,ih]
  rfl
noncomputable def kY:Expr→Bool
 | .Slice .. =>false
 |_=>true
noncomputable def nQ:Expr→Bool
 | .Name .. =>true
 | .Call .. =>true
 | .Subscript .. =>true
 | .Attribute .. =>true
 |_=>false
noncomputable def jI:Expr→Bool
 | .ListComp .. =>false
 | .SetComp .. =>false
 | .DictComp .. =>false
 |_=>true
section
variable {X:Cx}
theorem Bm{b:Expr}(h:kY b=true):oy b:=by
 intro o i
 cases b<;>first|rfl|cases h
theorem yl{e:Expr}(h:nQ e=true):∀whole,isTrue e X.env whole=(do let v ←whole;standAt e.pos;holding [v] (truthy v)):=by
 intro whole
 cases e<;>first|(cases h;done)|rfl
theorem rn{e:Expr}{tg:Option Expr}{n:Nat}{env:Env}(h:jI e=true):swapsWith e tg n env=pure false:=by
 cases e<;>first|(cases h;done)|rfl
theorem Ay{e:Expr}{es:List Expr}{te:DE}{tr:DA}(ha:PE X e (LE te))(hr:PA X es (LA tr))(hs:notStar e=true:=by rfl):PA X (e::es) (LA (ag te tr)):=wq ha hr (cv hs)
theorem Iv{e:Expr}{es:List Expr}{pos p:Pos}{x:Str}{id:String}{r:gf}{t:DA}(hc:cn X (.builtin id) (ij r))(ha:PA X (e::es) (LA t))(hm:X.mg x=none)(hv:bootBuiltins x=some (.builtin id))(hn:x≠"__name__")(hdb:(x==("__debug__":Str))=false)(hg:Gl X x:=by rfl)(hs:notStar e=true:=by rfl)(hs2:fM es=true:=by rfl):
 PE X (.Call (.Name x p) (e::es) [] pos) (LE (dZ r t)):=JR hc ha hm hv hg hn hdb (cv hs) (iO hs2)
theorem Im{e:Expr}{es:List Expr}{pos p:Pos}{x:Str}{T:String}{r:gf}{t:DA}(hc:cn X (.type T) (ij r))(ha:PA X (e::es) (LA t))(hm:X.mg x=none)(hv:bootBuiltins x=some (.type T))(hn:x≠"__name__")(hdb:(x==("__debug__":Str))=false)(hg:Gl X x:=by rfl)(hs:notStar e=true:=by rfl)(hs2:fM es=true:=by rfl):
 PE X (.Call (.Name x p) (e::es) [] pos) (LE (dZ r t)):=Jw hc ha hm hv hg hn hdb (cv hs) (iO hs2)
theorem HN{e:Expr}{es:List Expr}{pos p:Pos}{x qual:Str}{st:Stmt}{ps:List Str}{f:Addr}{fd:FuncData}{k:Nat}{S:cY}{t:DA}(A:aF X.K X.mg x qual st ps f fd)(F:ax X.prog X.w X.K X.mg X.base aJ k f fd ps (aL S))(hr:dm k X.A)
 (ha:PA X (e::es) (LA t)) (hdb:(x==("__debug__":Str))=false) (hg:Gl X x:=by rfl) (hs:notStar e=true:=by rfl) (hs2:fM es=true:=by rfl):
 PE X (.Call (.Name x p) (e::es) [] pos) (LE (bg S t)):=Jv A F hr ha hg hdb (cv hs) (iO hs2)
theorem Hh{a b:Expr}{ta tb:DE}{pos:Pos}(ha:PE X a (LE ta))(hb:PE X b (LE tb))(hs:kY b=true:=by rfl):PE X (.Subscript a b pos) (LE (aj bO ta tb)):=Je ha hb (Bm hs)
theorem DV{e:Expr}{te:DE}(he:PE X e (LE te))(h:nQ e=true:=by rfl):PT X e (LT (dg te)):=Gr he (yl h)
theorem Ad{e:Expr}{te:DE}{pos:Pos}(he:PE X e (LE te))(h:jI e=true:=by rfl):PS X (.Expr e pos) (LS (fU te)):=C8 he (rn h)
theorem CJ{i:Nat}{x:Str}{e:Expr}{te:TE}{pos pos':Pos}(hN:X.N.Nodup)(hi:X.N[i]?=some x)(hx:Loc X.env.scope x)(he:PE X e te)(hf:X.fn x=true∨X.env.scope.names.lookup x=some .local:=by first|exact .inl rfl|exact .inr rfl)(h:jI e=true:=by rfl):
 PS X (.Assign [.Name x pos'] e pos) (m4 te (iL i)):=E6 hN hi hx he (rn h) hf
theorem Dx{i:Nat}{x:Str}{pos:Pos}(hd:(x==("__debug__":Str))=false)(hcd:(x==("__classdict__":Str))=false)(hv:ui X.env.scope x)(hN:X.N[i]?=some x:=by rfl):PE X (.Name x pos) (LE (aa i)):=HF (GG hN hv hd hcd)
theorem EM{o i e:Expr}{to ti te:TE}{pos pos':Pos}(he:PE X e te)(ho:PE X o to)(hi:PE X i ti)(h1:jI e=true:=by rfl)(h2:kY i=true:=by rfl):PS X (.Assign [.Subscript o i pos'] e pos) (m4 te (xJ to ti tF)):=
 Fu he (Gi ho hi set_list (by intro v;cases i<;>first|rfl|cases h2)) (by unfold swapsWithSole;exact rn h1) (by cases e<;>rfl) rfl
end
end L3
namespace L3
open PySem L2
open PySem.Spec hiding items?
open PyProof.Rows hiding St
@[irreducible] noncomputable def JE(X:Cx)(e:Expr)(t:DE):Prop:=PE X e (LE t)
@[irreducible] noncomputable def JT(X:Cx)(e:Expr)(t:DT):Prop:=PT X e (LT t)
@[irreducible] noncomputable def JW(X:Cx)(e:Expr)(t:DT):Prop:=PW X e (LT t)
@[irreducible] noncomputable def JA(X:Cx)(es:List Expr)(t:DA):Prop:=PA X es (LA t)
@[irreducible] noncomputable def JS(X:Cx)(s:Stmt)(t:DS):Prop:=PS X s (LS t)
@[irreducible] noncomputable def JB(X:Cx)(s:List Stmt)(t:DS):Prop:=gv X s (LS t)
@[irreducible] noncomputable def JG(X:Cx)(e:Expr)(t:gd):Prop:=PG X e (LG t)
@[irreducible] noncomputable def JI(X:Cx)(tg e:Expr)(t:DI):Prop:=PI X tg e (LI t)
@[irreducible] noncomputable def JC(X:Cx)(es:List Expr)(t:DT):Prop:=qP X es (LT t)
section
variable {X:Cx}{a b c e o i:Expr}{es:List Expr}{ta tb tc te to ti:DE}{t u:DT}{ar:DA}{pos p pos':Pos}{s:Stmt}{ss:List Stmt}{T U:DS}
theorem yK{n:Nat}{x:Str}(hd:(x==("__debug__":Str))=false)(hcd:(x==("__classdict__":Str))=false)(hv:ui X.env.scope x)(hN:X.N[n]?=some x:=by rfl):JE X (.Name x pos) (aa n):=by unfold JE;exact Dx hd hcd hv hN
theorem aq{k:Int}{j:Nat}:JE X (.Constant (.int k) j pos) (dC (.int k)):=by unfold JE;exact H_
theorem uf{k:Bool}{j:Nat}:JE X (.Constant (.bool k) j pos) (dC (.bl k)):=by unfold JE;exact JV
theorem yk{j:Nat}:JE X (.Constant .none j pos) (dC .aP):=by unfold JE;exact Hb
theorem ay{op:Operator}{r:di}(ho:bR X (binaryOp op) (LR r))(ha:JE X a ta)(hb:JE X b tb):JE X (.BinOp a op b pos) (aj r ta tb):=by unfold JE at*;exact Js ho ha hb
theorem jd(ha:JE X a ta):JE X (.UnaryOp .USub a pos) (lM iy ta):=by unfold JE at*;exact Jj Ij ha
theorem xn{op:CmpOp}{r:di}(ho:bR X (compareOp op) (LR r))(hm:behindInMarks op b=false)(ha:JE X a ta)(hb:JE X b tb):JE X (.Compare a [op] [b] pos) (aj r ta tb):=by unfold JE at*;exact HA ho ha hb hm
theorem BZ(hc:JT X c t)(ha:JE X a ta)(hb:JE X b tb):JE X (.IfExp c a b pos) (BD t ta tb):=by unfold JE at*;unfold JT at hc;exact HC hc ha hb
theorem Cy{n:Nat}(h:JA X es ar):JE X (.Tuple es n pos) (w9 ar):=by unfold JE;unfold JA at h;exact Hn h
theorem iG(h:JA X es ar):JE X (.List es pos) (iz ar):=by unfold JE;unfold JA at h;exact Ie h
theorem lB(h:JA X es ar):JE X (.List es pos) (kL ar):=by unfold JE;unfold JA at h;exact Iw h
theorem ao:JA X [] aw:=by unfold JA;exact yT
theorem af(ha:JE X e te)(hr:JA X es ar)(hs:notStar e=true:=by rfl):JA X (e::es) (ag te ar):=by unfold JA at*;unfold JE at ha;exact Ay ha hr hs
theorem bK(ha:JE X a ta)(hb:JE X b tb)(hs:kY b=true:=by rfl):JE X (.Subscript a b pos) (aj bO ta tb):=by unfold JE at*;exact Hh ha hb hs
theorem g9{x:Str}{id:String}{r:gf}(hc:cn X (.builtin id) (ij r))(ha:JA X (e::es) ar)(hm:X.mg x=none)(hv:bootBuiltins x=some (.builtin id))(hn:x≠"__name__")(hdb:(x==("__debug__":Str))=false)(hg:Gl X x)(hs:notStar e=true:=by rfl)(hs2:fM es=true:=by rfl):JE X (.Call (.Name x p) (e::es) [] pos) (dZ r ar):=by
 unfold JE;unfold JA at ha;exact Iv hc ha hm hv hn hdb hg hs hs2
theorem jn{x:Str}{T:String}{r:gf}(hc:cn X (.type T) (ij r))(ha:JA X (e::es) ar)(hm:X.mg x=none)(hv:bootBuiltins x=some (.type T))(hn:x≠"__name__")(hdb:(x==("__debug__":Str))=false)(hg:Gl X x)(hs:notStar e=true:=by rfl)(hs2:fM es=true:=by rfl):JE X (.Call (.Name x p) (e::es) [] pos) (dZ r ar):=by
 unfold JE;unfold JA at ha;exact Im hc ha hm hv hn hdb hg hs hs2
theorem cB{x qual:Str}{st:Stmt}{ps:List Str}{f:Addr}{fd:FuncData}{k:Nat}{S:cY}(A:aF X.K X.mg x qual st ps f fd)(F:ax X.prog X.w X.K X.mg X.base aJ k f fd ps (aL S))(hr:dm k X.A)(ha:JA X (e::es) ar)(hdb:(x==("__debug__":Str))=false)(hg:Gl X x)(hs:notStar e=true:=by rfl)(hs2:fM es=true:=by rfl):
 JE X (.Call (.Name x p) (e::es) [] pos) (bg S ar):=by unfold JE;unfold JA at ha;exact HN A F hr ha hdb hg hs hs2
theorem AS{apos cpos:Pos}(ho:JE X o to)(he:JE X e te)(hbase:attributeBase o "append" X.env (eval o X.env)=eval o X.env:=by rfl)(hline:(apos.endLine==cpos.line)=true:=by rfl)(hs:notStar e=true:=by rfl):JE X (.Call (.Attribute o "append" apos) [e] [] cpos) (mE to te):=by
 unfold JE at*
 refine AZ ho he hbase ?_ hline (cv hs) rfl
 rw[cv hs]
 rfl
theorem dW{op:CmpOp}{r:di}(ho:bR X (compareOp op) (LR r))(hm:behindInMarks op b=false)(ha:JE X a ta)(hb:JE X b tb):JT X (.Compare a [op] [b] pos) (dg (aj r ta tb)):=by unfold JE at*;unfold JT;exact Fl ho ha hb hm
theorem FR(ha:JT X a t):JT X (.UnaryOp .Not a pos) (xp t):=by unfold JT at*;exact Fi ha
theorem u7(he:JE X e te)(h:nQ e=true:=by rfl):JT X e (dg te):=by unfold JT;unfold JE at he;exact DV he h
theorem v_(ha:JT X a t):JW X (.BoolOp .And [a] pos) t:=by unfold JW;unfold JT at ha;exact Ee ha
theorem Gh(ha:JT X a t):JW X (.BoolOp .Or [a] pos) t:=by unfold JW;unfold JT at ha;exact FA ha
theorem yq(ha:JT X a t)(hb:JW X (.BoolOp .And (b::es) pos) u):JW X (.BoolOp .And (a::b::es) pos) (qV t u):=by unfold JW at*;unfold JT at ha;exact Ej ha hb
theorem Ip(ha:JT X a t)(hb:JW X (.BoolOp .Or (b::es) pos) u):JW X (.BoolOp .Or (a::b::es) pos) (xX t u):=by unfold JW at*;unfold JT at ha;exact GW ha hb
theorem x9(h:JW X e t):JT X e t:=by unfold JT;unfold JW at h;exact PW.pt h
theorem jX{l tg:Expr}(hl:JE X l ta):JI X tg l (iq ta):=by unfold JI;unfold JE at hl;exact Gn hl
theorem eF{tg:Expr}(hg:Gl X "range")(hm:X.mg "range"=none)(ha:JA X [a] ar)(hs:notStar a=true:=by rfl):JI X tg (.Call (.Name "range" p) [a] [] pos) (de ar):=by unfold JI;unfold JA at ha;exact z_ (ze hg hm ha (cv hs))
theorem mO{tg:Expr}(hg:Gl X "range")(hm:X.mg "range"=none)(ha:JA X [a,b] ar)(hs:notStar a=true:=by rfl)(hs2:notStar b=true:=by rfl):JI X tg (.Call (.Name "range" p) [a,b] [] pos) (jC ar):=by unfold JI;unfold JA at ha;exact zm (zk hg hm ha (by rw[cv hs,cv hs2];rfl) (cv hs2))
theorem el{k:Nat}{x:Str}(hN:X.N.Nodup)(hx:Loc X.env.scope x)(hf:X.fn x=true∨X.env.scope.names.lookup x=some .local)(hi:X.N[k]?=some x:=by rfl):JG X (.Name x pos) (bB k):=by unfold JG;exact Du (kA hN hi hx hf)
theorem oH{k j n:Nat}{x y:Str}{px py:Pos}(hc:X.calm=true)(hN:X.N.Nodup)(hx:Loc X.env.scope x)(hf:X.fn x=true∨X.env.scope.names.lookup x=some .local)(hy:Loc X.env.scope y)(hg:X.fn y=true∨X.env.scope.names.lookup y=some .local)(hi:X.N[k]?=some x:=by rfl)(hj:X.N[j]?=some y:=by rfl):
 JG X (.Tuple [.Name x px,.Name y py] n pos) (jj k j):=by unfold JG;exact Fz (zy hc (kR (kA hN hi hx hf) (kR (kA hN hj hy hg) wR)))
theorem dF:JC X [] cZ:=by unfold JC;exact Ai
theorem fR{scope:Scope}{Nc:List Str}{elt tg iter:Expr}{ifs:List Expr}{src:DI}{fr:List (Option Nat)}{dtg:gd}(S:cc X scope Nc fr)(hi:JI X tg iter src)(hg:∀C s H ex,JG (fG X scope Nc C s H ex) tg dtg)(ht:∀C s H ex,JC (fG X scope Nc C s H ex) ifs t)(he:∀C s H ex,JE (fG X scope Nc C s H ex) elt te)(fit:qF fr dtg)
 (hx:X.xe=fun _ _=>False:=by rfl) (hc:X.calm=true:=by rfl) (hs:∀x,foldedSetIterable iter X.env x=pure x:=by intro _;rfl):JE X (.ListComp elt [⟨tg,iter,ifs,0⟩] scope pos) (fc src fr dtg t te):=by
 unfold JE JI JG JC at*;exact El S hi hg ht he fit hx hc hs
theorem rq{scope:Scope}{Nc:List Str}{elt tg iter:Expr}{ifs:List Expr}{src:DI}{fr:List (Option Nat)}{dtg:gd}(S:cc X scope Nc fr)(hi:JI X tg iter src)(hg:∀C s H ex,JG (fG X scope Nc C s H ex) tg dtg)(ht:∀C s H ex,JC (fG X scope Nc C s H ex) ifs t)(he:∀C s H ex,JE (fG X scope Nc C s H ex) elt te)(fit:qF fr dtg)
 (hx:X.xe=fun _ _=>False:=by rfl) (hc:X.calm=true:=by rfl) (hs:∀x,foldedSetIterable iter X.env x=pure x:=by intro _;rfl):JE X (.ListComp elt [⟨tg,iter,ifs,0⟩] scope pos) (oi src fr dtg t te):=by
 unfold JE JI JG JC at*;exact CH S hi hg ht he fit hx hc hs
theorem fA:JB X [] fT:=by unfold JB;exact Ed
theorem aE(h:JS X s T):JB X [s] T:=by unfold JB;unfold JS at h;exact CG h
theorem ak(h:JS X s T)(h2:JB X ss U):JB X (s::ss) (aD T U):=by unfold JB at*;unfold JS at h;exact A4 h h2
theorem vD:JS X (.Continue pos) w_:=by unfold JS;exact vH
theorem bF(h:JE X e te):JS X (.Return (some e) pos) (cC te):=by unfold JS;unfold JE at h;exact E3 h
theorem CS:JS X (.Return none pos) yp:=by unfold JS;exact Dc
theorem fv(h:JE X e te)(hc:jI e=true:=by rfl):JS X (.Expr e pos) (fU te):=by unfold JS;unfold JE at h;exact Ad h hc
theorem gg{x y:List Stmt}(hc:JT X c t)(ha:JB X x T)(hb:JB X y U):JS X (.If c x y pos) (gX t T U):=by unfold JS;unfold JB at*;unfold JT at hc;exact Hf hc ha hb
theorem Bg{x:List Stmt}(hc:JT X c t)(hb:JB X x T)(hx:X.xe=fun _ _=>False:=by rfl):JS X (.While c x [] pos) (uB t T):=by unfold JS;unfold JB at hb;unfold JT at hc;exact Bq (Ag (by rw[hx];exact PassesOwn.never) hc hb)
theorem eQ{tg iter:Expr}{x:List Stmt}{src:DI}{dtg:gd}(hi:JI X tg iter src)(hg:JG X tg dtg)(hb:JB X x T)(hx:X.xe=fun _ _=>False:=by rfl)(hc:X.calm=true:=by rfl)(hs:∀x,foldedSetIterable iter X.env x=pure x:=by intro _;rfl):JS X (.For tg iter x [] pos) (fE src dtg T):=by
 unfold JS;unfold JI at hi;unfold JG at hg;unfold JB at hb;exact FH (FG (by rw[hx];exact PassesOwn.never) hc hi hg hb hs)
theorem aM{k:Nat}{x:Str}(hN:X.N.Nodup)(hx:Loc X.env.scope x)(he:JE X e te)(hf:X.fn x=true∨X.env.scope.names.lookup x=some .local:=by first|exact .inl rfl|exact .inr rfl)(h:jI e=true:=by rfl)(hi:X.N[k]?=some x:=by rfl):JS X (.Assign [.Name x pos'] e pos) (aX k te):=by
 unfold JS;unfold JE at he;exact E7 (CJ hN hi hx he hf h)
theorem CV{scope:Scope}{Nc:List Str}{elt tg iter:Expr}{ifs:List Expr}{src:DI}{fr:List (Option Nat)}{dtg:gd}{k:Nat}{x:Str}(hN:X.N.Nodup)(hl:Loc X.env.scope x)(S:cc X scope Nc fr)(hi:JI X tg iter src)(hg:∀C s H ex,JG (fG X scope Nc C s H ex) tg dtg)(ht:∀C s H ex,JC (fG X scope Nc C s H ex) ifs t)(he:∀C s H ex,JE (fG X scope Nc C s H ex) elt te)(fit:qF fr dtg)
 (hf:X.fn x=true∨X.env.scope.names.lookup x=some .local:=by first|exact .inl rfl|exact .inr rfl) (hsw:swapsWith (.ListComp elt [⟨tg,iter,ifs,0⟩] scope p) (some (.Name x pos')) pos.line X.env=pure true:=by rfl) (hni:X.N[k]?=some x:=by rfl) (hx:X.xe=fun _ _=>False:=by rfl) (hc:X.calm=true:=by rfl) (hs:∀x,foldedSetIterable iter X.env x=pure x:=by intro _;rfl):
 JS X (.Assign [.Name x pos'] (.ListComp elt [⟨tg,iter,ifs,0⟩] scope p) pos) (aX k (fc src fr dtg t te)):=by
 unfold JS;unfold JE JI JG JC at*;exact DU fit (Dn hx hc S hi hg ht he hN hni hl hf hsw hs)
theorem gw(he:JE X e te)(ho:JE X o to)(hi:JE X i ti)(h1:jI e=true:=by rfl)(h2:kY i=true:=by rfl):JS X (.Assign [.Subscript o i pos'] e pos) (gO to ti te):=by unfold JS;unfold JE at*;exact AA (EM he ho hi h1 h2)
theorem Ge{k:Nat}{x:Str}{op:Operator}{f:Int→Int→Int}(hN:X.N.Nodup)(hx:Loc X.env.scope x)(he:JE X e te)(ho:uq X op (wm f))(hf:X.fn x=true∨X.env.scope.names.lookup x=some .local:=by first|exact .inl rfl|exact .inr rfl)(hi:X.N[k]?=some x:=by rfl):JS X (.AugAssign (.Name x pos') op e pos) (xt k (u9 f) te):=by
 unfold JS;unfold JE at he;exact E8 (GL hN hi hx he ho hf)
theorem EF{k j kt k2:Nat}{x y:Str}{px py pt pt2:Pos}(hN:X.N.Nodup)(hij:k≠j)(hx:X.env.scope.names.lookup x=some .local)(hy:X.env.scope.names.lookup y=some .local)(ha:JA X [a,b] ar)
 (hw:swappedStores [.Tuple [.Name x px,.Name y py] kt pt] (.Tuple [a,b] k2 pt2) X.env=pure (some [x,y]):=by rfl) (hc:X.calm=true:=by rfl) (hi:X.N[k]?=some x:=by rfl) (hj:X.N[j]?=some y:=by rfl) (hs:swapsWithSole [.Tuple [.Name x px,.Name y py] kt pt] (.Tuple [a,b] k2 pt2) pos.line X.env=pure false:=by rfl):
 JS X (.Assign [.Tuple [.Name x px,.Name y py] kt pt] (.Tuple [a,b] k2 pt2) pos) (Ao k j ar):=by unfold JS;unfold JA at ha;exact Er (FN hc hN hi hj hij hx hy ha hw hs)
end
theorem cJ{P:Program}{w:World}{K:PySem.W.Frag}{mg:Str→Option Value}{base:Heap}{x qual:Str}{st:Stmt}{f:Addr}{fd:FuncData}{N ps:List Str}{k:Nat}{sp:cY}{t:DS}(F:mr K x qual st f fd)(S:bf N ps (ah st))
 (hbody:∀(cdv:Value) (A:Around) (outer:List Env) (s:Shared) (H:Hp) (E:XK),dm k (A.deeper (envOfC qual (ah st) s.heap.objs.size f cdv))→JB (nS aJ P w K mg base N qual (ah st) f cdv A outer s H E).uk (aV st) t)
 (hsp:∀ds st K,sp ds st K→ds.length=ps.length∧t {nx:=fun _ st'=>K .aP st',rt:=K} (bx N ds) st):ax P w K mg base aJ (k+1) f fd ps (aL sp):=by
 unfold JB at hbody;exact HQ F S hbody hsp
end L3
namespace HT
open PySem PyProof.Rows
section
variable {prog:Program}{w:World}{A:Around}{E:Value→Shared→Prop}{s:Shared}
theorem nv{t sl:Addr}{items:Array Value}{vl vu:Value}{lo hi:Option Int}{Q:Value→Shared→Prop}(ht:IsTup s.heap t items)(hs:s.heap.IsSliceOf sl vl vu .none)(pl:IsPart vl lo)(pu:IsPart vu hi)
 (hw:bL items.size 0 lo=0∧bL items.size items.size hi=items.size) (h:Q (.ref t) s):wpAny (model prog w) A (getItem (.ref t) (.ref sl)) Q E s:=by
 obtain⟨os,hos,hcs,hds⟩:=id hs
 have hTs:s.TypeIs (.ref sl) "slice":=⟨os,hos,hcs⟩
 unfold getItem
 try with_reducible refine wpAny_holding ?_
 first|refine wpAny_bind (wpAny_pure ?_)|skip
 refine wpAny_bind (wpAny_sequenceKey ht.typeIs (by decide) ?_)
 refine wpAny_bind (wpAny_callSpecial?_slot (name:=Str.ofString "__getitem__") ht.typeIs PyProof.Rows.slot_tuple_getitem
  (wpAny_call_entry PyProof.Rows.slot_tuple_getitem ht.typeIs entry_tuple_getitem ?_ (args_tuple_getitem _ _)))
 show wpAny _ _ (Builtin.Tuple.tupleItemsOf (.ref t) >>= _) _ _ s
 refine wpAny_bind (tupleItemsOf_ ht ?_)
 refine wpAny_bind (wpAny_typeOf hTs ?_)
 rw[if_pos (by decide)]
 refine wpAny_bind (kX hs pl pu ?_)
 have hyes:(((bL items.size 0 lo:Nat):Int)==0&&(1:Int)==1&&(bL items.size items.size hi-bL items.size 0 lo)==items.size)=true:=by
  rw[hw.1,hw.2]
  simp
 show wpAny _ _ (if(((bL items.size 0 lo:Nat):Int)==0&&(1:Int)==1&&(bL items.size items.size hi-bL items.size 0 lo)==items.size)=true then _ else _) _ _ s
 rw[if_pos hyes]
 refine wpAny_bind ?_
 unfold Builtin.Tuple.tupleIsExact
 exact wpAny_bind (wpAny_typeOf ht.typeIs (wpAny_pure (wpAny_bind (wpAny_rule (wpAny_pure ⟨_,rfl,wpAny_pure h⟩)))))
end
end HT
namespace L3
open PySem L2
open PySem.Spec hiding items?
open PyProof.Rows hiding St
noncomputable abbrev DO:=bJ→ae→(Option Int→ae→Prop)→Prop
noncomputable def kB:DO:=fun _ st K=>K none st
noncomputable def ll(t:DE):DO:=fun σ st K=>t σ st fun d st1=>match d with| .int i=>K (some i) st1|_=>False
noncomputable def cutD(xs:List D)(lo hi:Option Int):List D:=(xs.drop (HT.bL xs.length 0 lo)).take (HT.bL xs.length xs.length hi-HT.bL xs.length 0 lo)
noncomputable def uC(d:D)(lo hi:Option Int)(st:ae)(K:DK):Prop:=match d with
 | .lst xs=>K (.lst (cutD xs lo hi)) st
 | .tup xs=>K (.tup (cutD xs lo hi)) st
 | .ref n=>(match st[n]? with|some (.lst xs)=>K (.lst (cutD xs lo hi)) st|_=>False)
 |_=>False
@[irreducible] noncomputable def kU:D→Option Int→Option Int→ae→DK→Prop:=uC
noncomputable def kN(t:DE)(lo hi:DO):DE:=fun σ st K=>t σ st fun d st1=>lo σ st1 fun l st2=>hi σ st2 fun u st3=>kU d l u st3 K
theorem pX{α:List (Option Addr)}{G:Hp}{xs:List D}{vs:List V}{lo hi:Option Int}(r:aG α G xs vs):aG α G (cutD xs lo hi) (mK vs lo hi):=by
 unfold cutD mK
 rw[←r.length]
 exact aR.mpr (pv _ (pA _ (aR.mp r)))
noncomputable def J9(α:List (Option Addr))(G F:Hp)(K:Option Int→ae→Prop)(Q:Option Int→Hp→Prop):Prop:=∀o st',K o st'→∀α' G' H',Step α G α' G'→cm G' F H'→aU α' st' G'→Q o H'
inductive IJ(t:DO)(σ:L2.St)(H:Hp)(Q:Option Int→Hp→Prop):Prop
 |mk (α:List (Option Addr)) (σd:bJ) (st:ae) (K:Option Int→ae→Prop) (G F:Hp) (P:cm G F H) (R:d6 α G σd σ) (S:aU α st G) (h:t σd st K) (k:J9 α G F K Q):IJ t σ H Q
noncomputable def LO(t:DO):TO:=IJ t
section
variable {X:Cx}
theorem PO.imp{e:Option Expr}{t t':TO}(h:PO X e t)(f:∀σ H Q,t' σ H Q→t σ H Q):PO X e t':=fun pins s σ H Q I q=>h pins s σ H Q I (f σ H Q q)
theorem CI:PO X none (LO kB):=PO.imp CL fun σ H Q ⟨α,σd,st,K,G,F,P,R,S,t,k⟩=>k none st t α G H Step.refl P S
theorem C3{e:Expr}{te:DE}(h:PE X e (LE te)):PO X (some e) (LO (ll te)):=PO.imp (Dl h) fun σ H Q ⟨α,σd,st,K,G,F,P,R,S,t,k⟩=>by
 refine⟨α,σd,st,_,G,F,P,R,S,t,fun d st1 q α1 G1 H1 v s1 P1 S1 r1=>?_⟩
 cases d<;>try exact q.elim
 unfold Rep at r1
 exact⟨_,r1,k _ st1 q α1 G1 H1 s1 P1 S1⟩
noncomputable def JZ(x:V)(lo hi:Option Int)(H:Hp)(Q:VK):Prop:=∃α d st K G F,cm G F H∧Rep α G d x∧aU α st G∧kU d lo hi st K∧LK α G F K Q
theorem Di:zG X (fun x lo hi H Q=>∃a xs,x= .ref a∧H a=some (.tup xs)∧((HT.bL xs.length 0 lo=0∧HT.bL xs.length xs.length hi=xs.length)→Q (.ref a) H)∧(¬(HT.bL xs.length 0 lo=0∧HT.bL xs.length xs.length hi=xs.length)→∀p,H p=none→Q (.ref p) (upd H p (.tup (mK xs lo hi))))):=by
 intro pins s σ H x v vl vu lo hi sl Q I rx hs pl pu h
 obtain⟨a,xs,rfl,hx,q1,q2⟩:=h
 by_cases hw:HT.bL xs.length 0 lo=0∧HT.bL xs.length xs.length hi=xs.length
 · cases rx
   obtain⟨its,r,ht,hz⟩:=I.tuple (ix.of hx)
   have hlen:its.toArray.size=xs.length:=by rw[List.size_toArray];exact r.length.symm
   exact⟨"tuple",_,PyProof.Rows.slot_tuple_getitem.lookup,ht.typeIs,HT.nv ht hs pl pu (by rw[hlen];exact hw) ⟨.ref a,H,I,rfl,q1 hw⟩⟩
 · exact EJ pins s σ H _ v vl vu lo hi sl Q I rx hs pl pu ⟨a,xs,rfl,.of hx,hw,q2 hw⟩
theorem zB{xs:List D}{lo hi:Option Int}(hw:HT.bL xs.length 0 lo=0∧HT.bL xs.length xs.length hi=xs.length):cutD xs lo hi=xs:=by
 unfold cutD
 rw[hw.1,hw.2]
 simp
theorem Fy:zG X JZ:=by
 intro pins s σ H x v vl vu lo hi sl Q I rx hs pl pu ⟨α,d,st,K,G,F',P,r1,S,q,k⟩
 unfold kU uC at q
 cases d<;>try exact q.elim
 · rename_i n
   simp only at q
   split at q
   · rename_i xs e
     obtain⟨a,ea,vs,h1,h2⟩:=S.g5 e
     have r1':=d7 ea r1
     subst r1'
     exact vT pins s σ H _ v vl vu lo hi sl Q I rx hs pl pu ⟨a,vs,rfl,.inl (.of (P.get h1)),fun p hp=>k.lst P q S (pX h2) hp⟩
   · exact q.elim
 · unfold Rep at r1
   obtain⟨a,vs,rfl,na,ha,ra⟩:=r1
   exact vT pins s σ H _ v vl vu lo hi sl Q I rx hs pl pu ⟨a,vs,rfl,.inl (fK P ha),fun p hp=>k.lst P q S (pX ra) hp⟩
 · rename_i xs
   have r0:=r1
   unfold Rep at r1
   obtain⟨a,vs,rfl,na,ha,ra⟩:=r1
   refine Di pins s σ H _ v vl vu lo hi sl Q I rx hs pl pu ⟨a,vs,rfl,P.get ha,fun hw=>?_,fun _ p hp=>k.tup P q S (pX ra) hp⟩
   rw[←ra.length]at hw
   simp only at q
   rw[zB hw]at q
   exact k.here P q S r0
theorem C4{e:Expr}{lo hi:Option Expr}{te:DE}{tl th:DO}{p2 pos:Pos}(he:PE X e (LE te))(hl:PO X lo (LO tl))(hh:PO X hi (LO th)):PE X (.Subscript e (.Slice lo hi none p2) pos) (LE (kN te tl th)):=PE.imp (AY Fy he hl hh) fun σ H Q ⟨α,σd,st,K,G,F,P,R,S,t,k⟩=>by
 refine⟨α,σd,st,_,G,F,P,R,S,t,fun d st1 q α1 G1 H1 v s1 P1 S1 r1=>?_⟩
 refine⟨α1,σd,st1,_,G1,F,P1,R.step s1,S1,q,fun l st2 q2 α2 G2 H2 s2 P2 S2=>?_⟩
 refine⟨α2,σd,st2,_,G2,F,P2,(R.step s1).step s2,S2,q2,fun u st3 q3 α3 G3 H3 s3 P3 S3=>?_⟩
 exact⟨α3,d,st3,K,G3,F,P3,(r1.step s2).step s3,S3,q3,((k.at s1).at s2).at s3⟩
@[irreducible] noncomputable def JO(X:Cx)(e:Option Expr)(t:DO):Prop:=PO X e (LO t)
theorem oC:JO X none kB:=by unfold JO;exact CI
theorem kD{e:Expr}{te:DE}(h:JE X e te):JO X (some e) (ll te):=by unfold JO;unfold JE at h;exact C3 h
theorem mj{e:Expr}{lo hi:Option Expr}{te:DE}{tl th:DO}{p2 pos:Pos}(he:JE X e te)(hl:JO X lo tl)(hh:JO X hi th):JE X (.Subscript e (.Slice lo hi none p2) pos) (kN te tl th):=by unfold JE at*;unfold JO at*;exact C4 he hl hh
end
theorem zh{st:ae}{K:DK}{xs:List D}{lo hi:Option Int}(k:K (.lst (cutD xs lo hi)) st):kU (.lst xs) lo hi st K:=by unfold kU;exact k
theorem lh{st:ae}{K:DK}{xs:List D}{lo hi:Option Int}{n:Nat}(h:st[n]?=some (.lst xs))(k:K (.lst (cutD xs lo hi)) st):kU (.ref n) lo hi st K:=by unfold kU uC;simp only[h];exact k
end L3
namespace L3
open PySem L2
open PySem.Spec hiding items?
open PyProof.Rows hiding St
section
variable {prog:Program}{w:World}{A:Around}{E:Value→Shared→Prop}{s:Shared}
theorem xV{iT tp:Addr}{n:Nat}{its:Array Value}{v:Value}{Q:Value→Shared→Prop}(hI:s.heap.IsTupleIter iT tp n)(hT:s.heap.IsTuple tp its)(hv:its[n]?=some v)
 (q:∀g,g.IsTupleIter iT tp (n+1)→Heap.SameBut iT s.heap g→Q v {s with heap:=g}):wpAny (model prog w) A (Builtin.SmallTypes.nextOf (.ref iT)) Q E s:=by
 obtain⟨oI,eI,cI,dI⟩:=id hI
 obtain⟨oT,eT,_,nT,dT⟩:=hT
 unfold Builtin.SmallTypes.nextOf
 refine wpAny_bind (wpAny_callSpecial?_slot (name:=Str.ofString "__next__") hI.typeIs F.slot_tuple_iterator_next (wpAny_call_entry F.slot_tuple_iterator_next hI.typeIs F.entry_tuple_iterator_next ?_ (F.args_tuple_iterator_next_1 _)))
 show wpAny _ _ (field (.ref iT) 0 >>= _) _ _ s
 refine wpAny_bind (wpAny_field eI dI (x:= .ref tp) rfl ?_)
 show wpAny _ _ (if(Value.ref tp==Value.none)=true then _ else _) _ _ s
 rw[if_neg (show¬((Value.ref tp==Value.none)=true)from Bool.false_ne_true)]
 show wpAny _ _ (field (.ref iT) 1 >>= _) _ _ s
 refine wpAny_bind (wpAny_field eI dI (x:= .int n 0) rfl ?_)
 show wpAny _ _ (seqItems? (.ref tp) >>= _) _ _ s
 refine wpAny_bind (wpAny_seqItems eT dT ?_)
 simp only[Int.toNat_natCast,hv]
 refine wpAny_bind (wpAny_setField eI dI (by simp) (wpAny_pure ⟨v,rfl,wpAny_pure (q _ ?_ (Heap.SameBut.update ..))⟩))
 refine⟨_,Heap.get?_update_self _ eI (Obj.isFreed_of_fields (Obj.data_mapFields dI _)),(Obj.cls_mapFields ..).trans cI,?_⟩
 rw[Obj.data_mapFields dI]
 simp[rawInt]
theorem z8{iT tp:Addr}{n:Nat}{its:Array Value}{Q:Value→Shared→Prop}(hh:A.handled=none)(hI:s.heap.IsTupleIter iT tp n)(hT:s.heap.IsTuple tp its)(hv:its[n]?=none)
 (q:∀g e,Heap.ExtBut iT s.heap g→(∃o,g.get? e=some o∧o.cls= .type "StopIteration")→E (.ref e) {s with heap:=g}):wpAny (model prog w) A (Builtin.SmallTypes.nextOf (.ref iT)) Q E s:=by
 obtain⟨oI,eI,cI,dI⟩:=id hI
 obtain⟨oT,eT,_,nT,dT⟩:=hT
 unfold Builtin.SmallTypes.nextOf
 refine wpAny_bind (wpAny_callSpecial?_slot (name:=Str.ofString "__next__") hI.typeIs F.slot_tuple_iterator_next (wpAny_call_entry F.slot_tuple_iterator_next hI.typeIs F.entry_tuple_iterator_next ?_ (F.args_tuple_iterator_next_1 _)))
 show wpAny _ _ (field (.ref iT) 0 >>= _) _ _ s
 refine wpAny_bind (wpAny_field eI dI (x:= .ref tp) rfl ?_)
 show wpAny _ _ (if(Value.ref tp==Value.none)=true then _ else _) _ _ s
 rw[if_neg (show¬((Value.ref tp==Value.none)=true)from Bool.false_ne_true)]
 show wpAny _ _ (field (.ref iT) 1 >>= _) _ _ s
 refine wpAny_bind (wpAny_field eI dI (x:= .int n 0) rfl ?_)
 show wpAny _ _ (seqItems? (.ref tp) >>= _) _ _ s
 refine wpAny_bind (wpAny_seqItems eT dT ?_)
 simp only[Int.toNat_natCast,hv]
 refine wpAny_bind (wpAny_rule (wpAny_bind (wpAny_setField eI dI (by simp) ?_)))
 show wpAny _ _ (newExc (.type "StopIteration") [] >>= _) _ _ _
 refine wpAny_bind ?_
 simp only[newExc,newTuple]
 refine wpAny_bind (wpAny_newObj_type ?_ (by size_fits))
 refine wpAny_bind (m:=firstArgMember _ _) (wpAny_of_eq (a:=Value.none) (by first|rfl|(simp only[firstArgMember];rfl)) ?_)
 refine wpAny_newObj_type ?_ (by size_fits)
 simp only[raiseNew]
 refine wpAny_bind (wpAny_handled ?_)
 first|rw[show A.in1.handled=none from hh]|rw[hh]
 refine wpAny_bind (wpAny_pure (wpAny_throw ?_))
 exact q _ _ (((Heap.SameBut.update ..).extBut.push _).push _) ⟨_,Heap.get?_push_size _ rfl,rfl⟩
end
end L3
namespace L3
open PySem L2
open PySem.Spec hiding items?
open PyProof.Rows hiding St
section
variable {st:ae}{K:DK}{i j:Int}{b c:Bool}{xs ys:List D}{d e:D}{n:Nat}
theorem eqT(h:i=j)(k:K (.bl true) st):jz (.int i) (.int j) st K:=zH (by rw[decide_eq_true h];exact k)
theorem Ca(h:i≠j)(k:K (.bl false) st):jz (.int i) (.int j) st K:=zH (by rw[decide_eq_false h];exact k)
theorem eq2(h1:i=j→K (.bl true) st)(h2:i≠j→K (.bl false) st):jz (.int i) (.int j) st K:=by
 by_cases h:i=j
 · exact eqT h (h1 h)
 · exact Ca h (h2 h)
theorem Kb(h:i<j)(k:K (.bl true) st):nU (.int i) (.int j) st K:=xC (by rw[decide_eq_true h];exact k)
theorem ID(h:j≤i)(k:K (.bl false) st):nU (.int i) (.int j) st K:=xC (by rw[decide_eq_false (by omega)];exact k)
theorem IQ(h1:i<j→K (.bl true) st)(h2:j≤i→K (.bl false) st):nU (.int i) (.int j) st K:=by
 by_cases h:i<j
 · exact Kb h (h1 h)
 · exact ID (by omega) (h2 (by omega))
theorem J0(h:j<i)(k:K (.bl true) st):pB (.int i) (.int j) st K:=BX (by rw[decide_eq_true h];exact k)
theorem Jb(h:i≤j)(k:K (.bl false) st):pB (.int i) (.int j) st K:=BX (by rw[decide_eq_false (by omega)];exact k)
theorem IS(h1:j<i→K (.bl true) st)(h2:i≤j→K (.bl false) st):pB (.int i) (.int j) st K:=by
 by_cases h:j<i
 · exact J0 h (h1 h)
 · exact Jb (by omega) (h2 (by omega))
theorem IZ(h:j≤i)(k:K (.bl true) st):qR (.int i) (.int j) st K:=Cc (by rw[decide_eq_true h];exact k)
theorem IW(h:i<j)(k:K (.bl false) st):qR (.int i) (.int j) st K:=Cc (by rw[decide_eq_false (by omega)];exact k)
theorem Ka(h1:j≤i→K (.bl true) st)(h2:i<j→K (.bl false) st):qR (.int i) (.int j) st K:=by
 by_cases h:j≤i
 · exact IZ h (h1 h)
 · exact IW (by omega) (h2 (by omega))
theorem dJ{m:Nat}(h:m≤1000):m≤sizeLine:=by rw[sizeLine_eq];omega
theorem so(h0:0≤i)(e:xs[i.toNat]?=some d):dY xs i=some d:=by
 have:=gR e
 rw[Int.toNat_of_nonneg h0]at this
 exact this
theorem Fc{m:Nat}(h0:0≤i)(h:i.toNat<m):jA m i=some i.toNat:=by
 unfold jA
 have:i<(m:Int):=by omega
 simp[h0,this]
end
theorem fk{tg:gd}{body:DS}{ok:ae→Prop}{E:jr}(I:List D→bJ→ae→Prop)(hend:∀σ st,I [] σ st→ok st∧E.nx σ st)
 (hstep:∀x xs σ st,I (x::xs) σ st→(∀σ' st',I xs σ' st'→g7 tg body ok E xs σ' st')→ok st∧∃σ1,tg x σ=some σ1∧body {E with nx:=g7 tg body ok E xs,ct:=g7 tg body ok E xs,bk:=E.nx} σ1 st):
 ∀xs σ st,I xs σ st→g7 tg body ok E xs σ st
 | [],σ,st,h=>by unfold g7;exact hend σ st h
 |x::xs,σ,st,h=>by unfold g7;exact hstep x xs σ st h fun σ' st' h'=>fk I hend hstep xs σ' st' h'
theorem g_{tg:gd}{c:DT}{te:DE}{ok:ae→Prop}{σc:bJ}{K:List D→ae→Prop}(I:List D→List D→ae→Prop)(hend:∀acc st,I [] acc st→ok st∧K acc st)
 (hstep:∀x xs acc st,I (x::xs) acc st→(∀acc' st',I xs acc' st'→df tg c te ok σc xs acc' st' K)→ok st∧∃σ2,tg x σc=some σ2∧c σ2 st fun b st1=>if b=true then te σ2 st1 fun y st2=>df tg c te ok σc xs (acc++[y]) st2 K else df tg c te ok σc xs acc st1 K):
 ∀xs acc st,I xs acc st→df tg c te ok σc xs acc st K
 | [],acc,st,h=>by unfold df;exact hend acc st h
 |x::xs,acc,st,h=>by unfold df;exact hstep x xs acc st h fun acc' st' h'=>g_ I hend hstep xs acc' st' h'
theorem comp_map{tg:gd}{te:DE}{ok:ae→Prop}{σc:bJ}{st:ae}{K:List D→ae→Prop}{g:D→D}(aT:ok st)(xs:List D)(hx:∀x∈xs,∀K',K' (g x) st→∃σ2,tg x σc=some σ2∧te σ2 st K')(k:K (xs.map g) st):df tg cZ te ok σc xs [] st K:=by
 refine g_ (fun r acc st'=>st'=st∧(∀x∈r,x∈xs)∧acc++r.map g=xs.map g) (fun acc st' h=>?_) (fun x r acc st' h next=>?_) xs [] st ⟨rfl,fun _ h=>h,rfl⟩
 · obtain⟨rfl,_,e⟩:=h
   rw[List.map_nil,List.append_nil]at e
   rw[e];exact⟨aT,k⟩
 · obtain⟨rfl,hm,e⟩:=h
   obtain⟨σ2,e2,q⟩:=hx x (hm x List.mem_cons_self) (fun y st2=>df tg cZ te ok σc r (acc++[y]) st2 K) (next _ _ ⟨rfl,fun z hz=>hm z (List.mem_cons_of_mem _ hz),by rw[←e];simp⟩)
   exact⟨aT,σ2,e2,q⟩
noncomputable def FD(n:Nat)(K:DK)(y:D)(st2:ae):Prop:=∃y',[y]=[y']∧(match st2[n]? with|some (.lst xs)=>xs.length<sizeLine∧K .aP (st2.set n (.lst (xs++[y'])))|_=>False)
theorem jH{n:Nat}{K:DK}{y:D}{st:ae}{xs:List D}(e:st[n]?=some (.lst xs))(h:xs.length<sizeLine)(k:K .aP (st.set n (.lst (xs++[y])))):FD n K y st:=by
 refine⟨y,rfl,?_⟩;simp only[e];exact⟨h,k⟩
@[irreducible] noncomputable def fO(to te:DE):DE:=mE to te
theorem kJ{σ:bJ}{st:ae}{K:DK}{i n:Nat}{xs:List D}{te:DE}(ei:σ[i]?=some (some (.ref n)))(e:st[n]?=some (.lst xs))(h:te σ st (FD n K)):fO (aa i) te σ st K:=by
 unfold fO mE aa
 simp only[ei,e]
 exact h
theorem hZ{X:Cx}{o e:Expr}{to te:DE}{apos cpos:Pos}(ho:JE X o to)(he:JE X e te)(hbase:attributeBase o "append" X.env (eval o X.env)=eval o X.env:=by rfl)(hline:(apos.endLine==cpos.line)=true:=by rfl)(hs:notStar e=true:=by rfl):JE X (.Call (.Attribute o "append" apos) [e] [] cpos) (fO to te):=by
 unfold fO;exact AS ho he hbase hline hs
section
variable {X:Cx}
end
end L3
namespace L3
open PySem L2
open PySem.Spec hiding items?
open PyProof.Rows hiding St
structure Src(P:Program)(w:World)(t a:Addr)(J:Nat→Heap→Prop)(us:Array Value):Prop where
 fr:∀n g k,J n g→(∀b,b=t∨b=a→∀o,g.get? b=some o→k.get? b=some o)→J n k
 lv:∀n g,J n g→(∃o,g.get? t=some o)∧∃o,g.get? a=some o
 nx:∀n (A:Around) (s:Shared) (Q:Value→Shared→Prop) (E:Value→Shared→Prop) v,J n s.heap→us[n]?=some v→(∀k,J (n+1) k→Heap.SameBut t s.heap k→Q v {s with heap:=k})→wpAny (model P w) A (Builtin.SmallTypes.nextOf (.ref t)) Q E s
 en:∀n (A:Around) (s:Shared) (Q:Value→Shared→Prop) (E:Value→Shared→Prop),A.handled=none→J n s.heap→us[n]?=none→(∀k e,Heap.ExtBut t s.heap k→(∃o,k.get? e=some o∧o.cls= .type "StopIteration")→E (.ref e) {s with heap:=k})→wpAny (model P w) A (Builtin.SmallTypes.nextOf (.ref t)) Q E s
section
variable {P:Program}{w:World}
theorem src_list(t a:Addr)(hne:a≠t)(us:Array Value):Src P w t a (fun n g=>g.IsListIter t a n∧g.IsList a us) us where
 fr:=fun n g k j kp=>⟨j.1.at fun o e=>kp t (.inl rfl) o e,j.2.at fun o e=>kp a (.inr rfl) o e⟩
 lv:=fun n g j=>⟨let⟨o,e,_⟩:=j.1;⟨o,e⟩,let⟨o,e,_⟩:=j.2;⟨o,e⟩⟩
 nx:=fun n A s Q E v j hv q=>wpAny_nextOf_list_item j.1 j.2 hv fun k jk sb=>q k ⟨jk,j.2.extBut sb.extBut hne⟩ sb
 en:=fun n A s Q E hh j hv q=>wpAny_nextOf_list_end hh j.1 j.2 hv q
theorem Dm(t a:Addr)(hne:a≠t)(us:Array Value):Src P w t a (fun n g=>g.IsTupleIter t a n∧g.IsTuple a us) us where
 fr:=fun n g k j kp=>by
  obtain⟨⟨o,e,r⟩,⟨o2,e2,r2⟩⟩:=j
  exact⟨⟨o,kp t (.inl rfl) o e,r⟩,⟨o2,kp a (.inr rfl) o2 e2,r2⟩⟩
 lv:=fun n g j=>⟨let⟨o,e,_⟩:=j.1;⟨o,e⟩,let⟨o,e,_⟩:=j.2;⟨o,e⟩⟩
 nx:=fun n A s Q E v j hv q=>xV j.1 j.2 hv fun k jk sb=>q k ⟨jk,j.2.extBut sb.extBut hne⟩ sb
 en:=fun n A s Q E hh j hv q=>z8 hh j.1 j.2 hv q
theorem Src.ext{t a c:Addr}{J:Nat→Heap→Prop}{us:Array Value}(S:Src P w t a J us){n:Nat}{g k:Heap}(j:J n g)(x:Heap.ExtBut c g k)(h1:c≠t)(h2:c≠a):J n k:=
 S.fr n g k j fun b hb o e=>x b o (by rcases hb with rfl|rfl;exact Ne.symm h1;exact Ne.symm h2) e
structure wX(z ti to t1 t2 a1 a2:Addr):Prop where
 nd: [z,ti,to,t1,t2].Nodup
 a1:a1∉[z,ti,to,t1,t2]
 a2:a2∉[z,ti,to,t1,t2]
section
variable {z ti to t1 t2 a1 a2:Addr}
theorem wX.n(D:wX z ti to t1 t2 a1 a2):(ti≠z∧to≠z∧t1≠z∧t2≠z)∧(ti≠to∧ti≠t1∧ti≠t2)∧(to≠t1∧to≠t2)∧t1≠t2:=by
 have:=D.nd
 simp only[List.nodup_cons,List.mem_cons,not_or,List.not_mem_nil,not_false_eq_true,and_true,List.nodup_nil]at this
 obtain⟨⟨b1,b2,b3,b4⟩,⟨b5,b6,b7⟩,⟨b8,b9⟩,b10⟩:=this
 exact⟨⟨Ne.symm b1,Ne.symm b2,Ne.symm b3,Ne.symm b4⟩,⟨b5,b6,b7⟩,⟨b8,b9⟩,b10⟩
theorem yB{A:Around}{s:Shared}{E:Value→Shared→Prop}{J1 J2:Nat→Heap→Prop}{us vs:Array Value}{n:Nat}{x y a b:Value}{Q:Value→Shared→Prop}(D:wX z ti to t1 t2 a1 a2)(S1:Src P w t1 a1 J1 us)(S2:Src P w t2 a2 J2 vs)
 (Z:IsZip s.heap z ti to .none) (pI:IsPair s.heap ti (.ref t1) (.ref t2)) (pO:IsPair s.heap to a b) (j1:J1 n s.heap) (j2:J2 n s.heap) (ex:us[n]?=some x) (ey:vs[n]?=some y)
 (q:∀k,IsZip k z ti to (rawInt s.heap.objs.size)→IsPair k to x y→J1 (n+1) k→J2 (n+1) k→IsPair k s.heap.objs.size x y→k.objs.size=s.heap.objs.size+1→
   (∀c o,c≠z→c≠to→c≠t1→c≠t2→s.heap.get? c=some o→k.get? c=some o)→Q (.ref s.heap.objs.size) {s with heap:=k}):
 wpAny (model P w) A (Builtin.«zip.__next__» ⟨[.ref z],[]⟩) (fun fin s'=>∃v,fin= .done (.ret v)∧Q v s') E s:=by
 obtain⟨⟨n1,n2,n3,n4⟩,⟨n5,n6,n7⟩,⟨n8,n9⟩,n10⟩:=D.n
 have m1:=D.a1
 have m2:=D.a2
 simp only[List.mem_cons,not_or,List.not_mem_nil,not_false_eq_true,and_true]at m1 m2
 show wpAny _ _ (field (.ref z) 2 >>= _) _ _ _
 refine wpAny_bind (wpAny_field Z rfl (x:= .bool false) rfl ?_)
 show wpAny _ _ (field (.ref z) 3 >>= _) _ _ _
 refine wpAny_bind (wpAny_field Z rfl (x:= .ref ti) rfl ?_)
 refine wpAny_bind (wpAny_seqItems pI rfl ?_)
 show wpAny _ _ (Builtin.SmallTypes.ownedTupleIsFree (.ref z) >>= _) _ _ _
 refine wpAny_bind ?_
 unfold Builtin.SmallTypes.ownedTupleIsFree
 refine wpAny_bind (wpAny_field Z rfl (x:= .none) rfl (wpAny_pure ?_))
 simp only[if_true]
 refine wpAny_bind (wpAny_rule ?_)
 refine wpAny_bind (wpAny_field Z rfl (x:= .ref to) rfl ?_)
 refine wpAny_bind (wpAny_setField_rec Z (by simp) fun k1 Z1 b1=>?_)
 replace Z1:IsZip k1 z ti to .ellipsis:=Z1
 refine wpAny_bind ?_
 simp only[List.zipIdx_cons,List.zipIdx_nil,List.forIn_cons,List.forIn_nil]
 refine wpAny_bind (wpAny_bind (wpAny_onRaise ?_))
 show wpAny _ _ (Builtin.SmallTypes.nextOf (.ref t1) >>= _) _ _ _
 refine wpAny_bind (S1.nx n _ _ _ _ x (S1.ext j1 b1.extBut (Ne.symm n3) (Ne.symm m1.1)) ex fun k2 j1b b2=>wpAny_pure ?_)
 have pO2:IsPair k2 to a b:=b2.extBut _ _ n8 (b1.extBut _ _ n2 pO)
 refine wpAny_bind (wpAny_seqItems pO2 rfl ?_)
 refine wpAny_bind (wpAny_updateSeq_pair pO2 fun k3 pO3 b3=>?_)
 replace pO3:IsPair k3 to x b:=pO3
 refine wpAny_bind (wpAny_letGo (wpAny_pure ?_))
 refine wpAny_bind (wpAny_bind (wpAny_onRaise ?_))
 show wpAny _ _ (Builtin.SmallTypes.nextOf (.ref t2) >>= _) _ _ _
 have j2c:J2 n k3:=S2.ext (S2.ext (S2.ext j2 b1.extBut (Ne.symm n4) (Ne.symm m2.1)) b2.extBut n10 (Ne.symm m2.2.2.2.1)) b3.extBut n9 (Ne.symm m2.2.2.1)
 refine wpAny_bind (S2.nx n _ _ _ _ y j2c ey fun k4 j2d b4=>wpAny_pure ?_)
 have pO4:IsPair k4 to x b:=b4.extBut _ _ n9 pO3
 refine wpAny_bind (wpAny_seqItems pO4 rfl ?_)
 refine wpAny_bind (wpAny_updateSeq_pair pO4 fun k5 pO5 b5=>?_)
 replace pO5:IsPair k5 to x y:=pO5
 refine wpAny_bind (wpAny_letGo (wpAny_pure (wpAny_pure ?_)))
 refine wpAny_bind (wpAny_seqItems pO5 rfl ?_)
 refine wpAny_bind (wpAny_newTuple ?_)
 have sz:k5.objs.size=s.heap.objs.size:=by rw[b5.1,b4.1,b3.1,b2.1,b1.1]
 have Z5:IsZip k5 z ti to .ellipsis:=b5.extBut _ _ (Ne.symm n2) (b4.extBut _ _ (Ne.symm n4) (b3.extBut _ _ (Ne.symm n2) (b2.extBut _ _ (Ne.symm n3) Z1)))
 have kp5:∀c o,c≠z→c≠to→c≠t1→c≠t2→s.heap.get? c=some o→k5.get? c=some o:=fun c o c1 c2 c3 c4 e=>b5.extBut _ _ c2 (b4.extBut _ _ c4 (b3.extBut _ _ c2 (b2.extBut _ _ c3 (b1.extBut _ _ c1 e))))
 have j1e:J1 (n+1) k5:=S1.ext (S1.ext (S1.ext j1b b3.extBut n8 (Ne.symm m1.2.2.1)) b4.extBut (Ne.symm n10) (Ne.symm m1.2.2.2.2)) b5.extBut n8 (Ne.symm m1.2.2.1)
 have j2e:J2 (n+1) k5:=S2.ext j2d b5.extBut n9 (Ne.symm m2.2.2.1)
 have ltz:z<k5.objs.size:=Heap.lt_size Z5
 show wpAny _ _ (Builtin.SmallTypes.ownedTupleHandOut (.ref z) (.ref k5.objs.size) >>= _) _ _ _
 refine wpAny_bind ?_
 unfold Builtin.SmallTypes.ownedTupleHandOut
 have Z6:IsZip (k5.push {cls:= .type "tuple",data:= .seq #[x,y]}) z ti to .ellipsis:=Heap.get?_push_of_some _ Z5
 refine wpAny_bind (wpAny_setField_rec Z6 (by simp) fun k7 Z7 b7=>?_)
 replace Z7:IsZip k7 z ti to (rawInt k5.objs.size):=Z7
 refine wpAny_setField_rec Z7 (by simp) fun k8 Z8 b8=>?_
 replace Z8:IsZip k8 z ti to (rawInt k5.objs.size):=Z8
 have up:∀c o,c≠z→k5.get? c=some o→k8.get? c=some o:=fun c o c1 e=>b8.extBut _ _ c1 (b7.extBut _ _ c1 (Heap.get?_push_of_some _ e))
 have pT:IsPair k8 k5.objs.size x y:=b8.extBut _ _ (Nat.ne_of_gt ltz) (b7.extBut _ _ (Nat.ne_of_gt ltz) (Heap.get?_push_size _ rfl))
 have sz8:k8.objs.size=k5.objs.size+1:=by rw[b8.1,b7.1,Heap.size_push]
 rw[sz]at Z8 pT sz8
 refine wpAny_pure ⟨_,rfl,?_⟩
 show Q (.ref k5.objs.size) _
 rw[sz]
 refine q k8 Z8 (up _ _ n2 pO5) (S1.fr _ _ _ j1e fun b hb o e=>up b o ?_ e) (S2.fr _ _ _ j2e fun b hb o e=>up b o ?_ e) pT sz8 fun c o c1 c2 c3 c4 e=>up c o c1 (kp5 c o c1 c2 c3 c4 e)
 · rcases hb with rfl|rfl
   · exact n3
   · exact m1.1
 · rcases hb with rfl|rfl
   · exact n4
   · exact m2.1
theorem Af{A:Around}{s:Shared}{E:Value→Shared→Prop}{J1 J2:Nat→Heap→Prop}{us vs:Array Value}{n:Nat}{a b:Value}{Q:Fin→Shared→Prop}(hh:A.handled=none)(D:wX z ti to t1 t2 a1 a2)(S1:Src P w t1 a1 J1 us)(S2:Src P w t2 a2 J2 vs)
 (Z:IsZip s.heap z ti to .none) (pI:IsPair s.heap ti (.ref t1) (.ref t2)) (pO:IsPair s.heap to a b) (j1:J1 n s.heap) (j2:J2 n s.heap) (he:us[n]?=none∨vs[n]?=none)
 (q:∀k e,(∀c o,c≠z→c≠to→c≠t1→c≠t2→s.heap.get? c=some o→k.get? c=some o)→(∃o,k.get? e=some o∧o.cls= .type "StopIteration")→E (.ref e) {s with heap:=k}):
 wpAny (model P w) A (Builtin.«zip.__next__» ⟨[.ref z],[]⟩) Q E s:=by
 obtain⟨⟨n1,n2,n3,n4⟩,⟨n5,n6,n7⟩,⟨n8,n9⟩,n10⟩:=D.n
 have m1:=D.a1
 have m2:=D.a2
 simp only[List.mem_cons,not_or,List.not_mem_nil,not_false_eq_true,and_true]at m1 m2
 show wpAny _ _ (field (.ref z) 2 >>= _) _ _ _
 refine wpAny_bind (wpAny_field Z rfl (x:= .bool false) rfl ?_)
 show wpAny _ _ (field (.ref z) 3 >>= _) _ _ _
 refine wpAny_bind (wpAny_field Z rfl (x:= .ref ti) rfl ?_)
 refine wpAny_bind (wpAny_seqItems pI rfl ?_)
 show wpAny _ _ (Builtin.SmallTypes.ownedTupleIsFree (.ref z) >>= _) _ _ _
 refine wpAny_bind ?_
 unfold Builtin.SmallTypes.ownedTupleIsFree
 refine wpAny_bind (wpAny_field Z rfl (x:= .none) rfl (wpAny_pure ?_))
 simp only[if_true]
 refine wpAny_bind (wpAny_rule ?_)
 refine wpAny_bind (wpAny_field Z rfl (x:= .ref to) rfl ?_)
 refine wpAny_bind (wpAny_setField_rec Z (by simp) fun k1 Z1 b1=>?_)
 replace Z1:IsZip k1 z ti to .ellipsis:=Z1
 refine wpAny_bind ?_
 simp only[List.zipIdx_cons,List.zipIdx_nil,List.forIn_cons,List.forIn_nil]
 refine wpAny_bind (wpAny_bind (wpAny_onRaise ?_))
 show wpAny _ _ (Builtin.SmallTypes.nextOf (.ref t1) >>= _) _ _ _
 have j1a:J1 n k1:=S1.ext j1 b1.extBut (Ne.symm n3) (Ne.symm m1.1)
 cases ex:us[n]? with
 |none=>
  refine wpAny_bind (S1.en n _ _ _ _ hh j1a ex fun k2 e b2 hx=>?_)
  obtain⟨oe,he1,he2⟩:=hx
  have Z2:IsZip k2 z ti to .ellipsis:=b2 _ _ (Ne.symm n3) Z1
  have hez:e≠z:=fun c=>by subst c;rw[Z2]at he1;cases he1;simp at he2
  refine wpAny_setField_rec Z2 (by simp) fun k3 _ b3=>q k3 e (fun c o c1 _ c3 _ f=>b3.extBut _ _ c1 (b2 _ _ c3 (b1.extBut _ _ c1 f))) ⟨oe,b3.extBut _ _ hez he1,he2⟩
 |some x=>
  have ey:vs[n]?=none:=by
   rcases he with h|h
   · rw[ex]at h;cases h
   · exact h
  refine wpAny_bind (S1.nx n _ _ _ _ x j1a ex fun k2 j1b b2=>wpAny_pure ?_)
  have pO2:IsPair k2 to a b:=b2.extBut _ _ n8 (b1.extBut _ _ n2 pO)
  refine wpAny_bind (wpAny_seqItems pO2 rfl ?_)
  refine wpAny_bind (wpAny_updateSeq_pair pO2 fun k3 pO3 b3=>?_)
  refine wpAny_bind (wpAny_letGo (wpAny_pure ?_))
  refine wpAny_bind (wpAny_bind (wpAny_onRaise ?_))
  show wpAny _ _ (Builtin.SmallTypes.nextOf (.ref t2) >>= _) _ _ _
  have j2c:J2 n k3:=S2.ext (S2.ext (S2.ext j2 b1.extBut (Ne.symm n4) (Ne.symm m2.1)) b2.extBut n10 (Ne.symm m2.2.2.2.1)) b3.extBut n9 (Ne.symm m2.2.2.1)
  refine wpAny_bind (S2.en n _ _ _ _ hh j2c ey fun k4 e b4 hx=>?_)
  obtain⟨oe,he1,he2⟩:=hx
  have Z4:IsZip k4 z ti to .ellipsis:=b4 _ _ (Ne.symm n4) (b3.extBut _ _ (Ne.symm n2) (b2.extBut _ _ (Ne.symm n3) Z1))
  have hez:e≠z:=fun c=>by subst c;rw[Z4]at he1;cases he1;simp at he2
  refine wpAny_setField_rec Z4 (by simp) fun k5 _ b5=>q k5 e (fun c o c1 c2 c3 c4 f=>b5.extBut _ _ c1 (b4 _ _ c4 (b3.extBut _ _ c2 (b2.extBut _ _ c3 (b1.extBut _ _ c1 f))))) ⟨oe,b5.extBut _ _ hez he1,he2⟩
end
end
end L3
namespace L3
open PySem L2
open PySem.Spec hiding items?
open PyProof.Rows hiding St
theorem BB{X:Cx}{pins:List (Addr×Obj)}{σ:L2.St}{H:Hp}{s:Shared}{g:Heap}{tk:Nat}{fp:List Addr}{T:Addr}{xs:List V}(I:Inv X pins σ H s)(hf:∀b∈fp,jJ X pins H b)
 (k:∀b o,b∉fp→s.heap.get? b=some o→g.get? b=some o) (hT:s.heap.objs.size≤T) (new:gi X.prog X.w (upd H T (.tup xs)) g T (.tup xs)):Inv X pins σ (upd H T (.tup xs)) {s with heap:=g,toks:=tk}:=by
 have hn:H T=none:=I.aT.fresh hT
 have nfp:∀b u,H b=some u→b∉fp:=fun b u e z=>by rw[(hf b z).1]at e;cases e
 have nT:∀b u,H b=some u→b≠T:=fun b u e=>eK e hn
 refine I.step (g':=s.gens) (d':=s.drawn) (ch:=fp) (fun b hb=>?_) (fun b o _ _ hc e _=>k b o hc e) (fun b o _ _ hc e _=>⟨o.slots,k b o hc e⟩) (fun b o _ e n=>?_) (fun b o hc e=>⟨o,k b o hc e⟩)
  (fun b ys e=>by rw[aC (nT b _ e)];exact e) (fun b o u e=>by rw[aC (nT b _ e)];exact e) (fun b ps e=>⟨#[],by rw[aC (nT b _ e),e];simp⟩) (fun m hm=>?_) (fun b u e=>?_) I.bare
 · obtain⟨f0,f1,f2,f3,f4,f5⟩:=hf b hb
   exact⟨f3,f1,f4,f5⟩
 · rw[aC (Nat.ne_of_lt (Nat.lt_of_lt_of_le (Heap.lt_size e) hT))];exact n
 · obtain⟨o,es,ep,ho,r⟩:=hm
   exact⟨o,es,ep,k _ o (fun z=>(hf _ z).2.1 rfl) ho,r⟩
 · by_cases hb:b=T
   · subst hb;rw[br]at e;cases e;exact new
   · rw[aC hb]at e
     refine(I.aT b u e).nZ (fun c v hc q=>k c v ?_ q) (fun c q=>by rw[aC (nT c _ q)];exact q) fun c ys q=>by rw[aC (nT c _ q)];exact q
     rcases hc with z|z
     · rw[z];exact nfp b u e
     · exact nfp c _ z
theorem BO{X:Cx}{pins:List (Addr×Obj)}{σ:L2.St}{H:Hp}{s:Shared}{g:Heap}{tk:Nat}{fp:List Addr}(I:Inv X pins σ H s)(hf:∀b∈fp,jJ X pins H b)
 (k:∀b o,b∉fp→s.heap.get? b=some o→g.get? b=some o):Inv X pins σ H {s with heap:=g,toks:=tk}:=by
 have nfp:∀b u,H b=some u→b∉fp:=fun b u e z=>by rw[(hf b z).1]at e;cases e
 refine I.step (g':=s.gens) (d':=s.drawn) (ch:=fp) (fun b hb=>?_) (fun b o _ _ hc e _=>k b o hc e) (fun b o _ _ hc e _=>⟨o.slots,k b o hc e⟩) (fun b o _ e n=>n) (fun b o hc e=>⟨o,k b o hc e⟩)
  (fun b ys e=>e) (fun b o u e=>e) (fun b ps e=>⟨#[],by rw[e];simp⟩) (fun m hm=>?_) (fun b u e=>?_) I.bare
 · obtain⟨f0,f1,f2,f3,f4,f5⟩:=hf b hb
   exact⟨f3,f1,f4,f5⟩
 · obtain⟨o,es,ep,ho,r⟩:=hm
   exact⟨o,es,ep,k _ o (fun z=>(hf _ z).2.1 rfl) ho,r⟩
 · refine(I.aT b u e).nZ (fun c v hc q=>k c v ?_ q) (fun c q=>q) fun c ys q=>q
   rcases hc with z|z
   · rw[z];exact nfp b u e
   · exact nfp c _ z
inductive SK where
 |l|t
noncomputable def jt(k:SK)(K:PySem.W.Frag)(H:Hp)(a:Addr)(xs:List V):Prop:=match k with
 | .l=>j4 K H a xs
 | .t=>ix K H a xs
noncomputable def kH(k:SK)(t a:Addr)(n:Nat)(g:Heap):Prop:=match k with
 | .l=>g.IsListIter t a n
 | .t=>g.IsTupleIter t a n
noncomputable def gp(k:SK)(g:Heap)(a:Addr)(us:Array Value):Prop:=match k with
 | .l=>g.IsList a us
 | .t=>g.IsTuple a us
noncomputable def lK(k:SK)(a:Addr):Obj:=match k with
 | .l=>{cls:= .type "list_iterator",data:= .fields #[.ref a,.int 0 0]}
 | .t=>{cls:= .type "tuple_iterator",data:= .fields #[.ref a,.int 0 0]}
theorem jS{P:Program}{w:World}(k:SK)(t a:Addr)(hne:a≠t)(us:Array Value):Src P w t a (fun n g=>kH k t a n g∧gp k g a us) us:=by
 cases k
 · exact src_list t a hne us
 · exact Dm t a hne us
theorem fD{X:Cx}{pins:List (Addr×Obj)}{σ:L2.St}{H:Hp}{s:Shared}{k:SK}{a:Addr}{xs:List V}(I:Inv X pins σ H s)(h:jt k X.K H a xs):∃its:List Value,Vals xs its∧gp k s.heap a its.toArray:=by
 cases k
 · obtain⟨its,rv,p,_⟩:=I.list h
   exact⟨its,rv,p.isList⟩
 · obtain⟨its,rv,p,_⟩:=I.tuple h
   exact⟨its,rv,p⟩
theorem my{X:Cx}{pins:List (Addr×Obj)}{σ:L2.St}{H:Hp}{s:Shared}{k:SK}{a:Addr}{xs ys:List V}(I:Inv X pins σ H s)(h:jt k X.K H a xs)(h':jt k X.K H a ys):xs=ys:=by
 cases k
 · exact I.uH h h'
 · exact I.sA h h'
theorem nG{P:Program}{w:World}{A:Around}{s:Shared}{E:Value→Shared→Prop}{k:SK}{a:Addr}{us:Array Value}{Q:Value→Shared→Prop}(h:gp k s.heap a us)(q:Q (.ref s.heap.objs.size) {s with heap:=s.heap.push (lK k a)}):wpAny (model P w) A (pyIter (.ref a)) Q E s:=by
 cases k
 · exact wpAny_pyIter_list h q
 · exact wpAny_pyIter_tuple h q
theorem gp.push{k:SK}{g:Heap}{a:Addr}{us:Array Value}(h:gp k g a us)(o:Obj):gp k (g.push o) a us:=by
 cases k
 · obtain⟨o',e,r⟩:=h;exact⟨o',Heap.get?_push_of_some _ e,r⟩
 · obtain⟨o',e,r⟩:=h;exact⟨o',Heap.get?_push_of_some _ e,r⟩
theorem gp.some{k:SK}{g:Heap}{a:Addr}{us:Array Value}(h:gp k g a us):∃o,g.get? a=Option.some o:=by
 cases k
 · obtain⟨o',e,r⟩:=h;exact⟨o',e⟩
 · obtain⟨o',e,r⟩:=h;exact⟨o',e⟩
theorem mn{k:SK}{g h:Heap}{t a:Addr}(e:g.get? t=Option.some (lK k a)):kH k t a 0 g:=by
 cases k
 · exact⟨_,e,rfl,rfl⟩
 · exact⟨_,e,rfl,rfl⟩
theorem iD{k:SK}{t a:Addr}{n:Nat}{g g':Heap}(h:kH k t a n g)(kp:∀o,g.get? t=Option.some o→g'.get? t=Option.some o):kH k t a n g':=by
 cases k
 · obtain⟨o,e,r⟩:=h;exact⟨o,kp o e,r⟩
 · obtain⟨o,e,r⟩:=h;exact⟨o,kp o e,r⟩
theorem gW{k:SK}{t a:Addr}{n:Nat}{g:Heap}(h:kH k t a n g):∃o,g.get? t=Option.some o∧∀v,o.data≠ .cell v:=by
 cases k
 · obtain⟨o,e,c,d⟩:=h;exact⟨o,e,fun v z=>by rw[d]at z;cases z⟩
 · obtain⟨o,e,c,d⟩:=h;exact⟨o,e,fun v z=>by rw[d]at z;cases z⟩
noncomputable def IP(K:PySem.W.Frag)(k1 k2:SK)(a1 a2:Addr):It:=
 ⟨fun i H=>∃xs ys x y,jt k1 K H a1 xs∧jt k2 K H a2 ys∧xs[i]?=some x∧ys[i]?=some y,
  fun i H v H'=>∃T x y,H T=none∧v= .ref T∧H'=upd H T (.tup [x,y])∧(∀xs,jt k1 K H a1 xs→xs[i]?=some x)∧∀ys,jt k2 K H a2 ys→ys[i]?=some y,
  fun i H=>∃xs ys,jt k1 K H a1 xs∧jt k2 K H a2 ys∧(xs.length≤i∨ys.length≤i)⟩
noncomputable def H0(z ti to t1 t2 a1 a2:Addr)(k1 k2:SK)(i:Nat)(h:Heap):Prop:=IsZip h z ti to .none∧IsPair h ti (.ref t1) (.ref t2)∧(∃a b,IsPair h to a b)∧kH k1 t1 a1 i h∧kH k2 t2 a2 i h
theorem As{P:Program}{w:World}{K:PySem.W.Frag}{elts:List Expr}{kx:Nat}{pos:Pos}{z ti to t1 t2 a1 a2:Addr}(k1 k2:SK)(D:wX z ti to t1 t2 a1 a2):
 Turn P w K (.Tuple elts kx pos) (IP K k1 k2 a1 a2) [z,ti,to,t1,t2] z (H0 z ti to t1 t2 a1 a2 k1 k2) where
 mem:=by simp
 obj:=fun i h st b hb=>by
  obtain⟨Z,pI,⟨a,b',pO⟩,i1,i2⟩:=st
  simp only[List.mem_cons,List.not_mem_nil,or_false]at hb
  rcases hb with rfl|rfl|rfl|rfl|rfl
  · exact⟨_,Z,fun v e=>by cases e⟩
  · exact⟨_,pI,fun v e=>by cases e⟩
  · exact⟨_,pO,fun v e=>by cases e⟩
  · exact gW i1
  · exact gW i2
 keep:=fun i h h' st k=>by
  obtain⟨Z,pI,⟨a,b',pO⟩,i1,i2⟩:=st
  exact⟨k z (by simp) _ Z,k ti (by simp) _ pI,⟨a,b',k to (by simp) _ pO⟩,iD i1 (k t1 (by simp)),iD i2 (k t2 (by simp))⟩
 item:=by
  intro X hP hw hK hc i pins s σ H E I hf st hg
  subst hP hw hK
  obtain⟨Z,pI,⟨a,b',pO⟩,i1,i2⟩:=st
  obtain⟨xs,ys,x,y,q1,q2,ex,ey⟩:=hg
  obtain⟨us,r1,l1⟩:=fD I q1
  obtain⟨vs,r2,l2⟩:=fD I q2
  obtain⟨u,eu,ru⟩:=r1.get ex
  obtain⟨v,ev,rv⟩:=r2.get ey
  have m1:=D.a1
  have m2:=D.a2
  simp only[List.mem_cons,not_or,List.not_mem_nil,not_false_eq_true,and_true]at m1 m2
  obtain⟨⟨n1,n2,n3,n4⟩,⟨n5,n6,n7⟩,⟨n8,n9⟩,n10⟩:=D.n
  have tz:s.TypeIs (.ref z) "zip":=⟨_,Z,rfl⟩
  unfold pyNext
  refine wpAny_bind (wpAny_attempt (wpAny_callSpecial?_slot (name:=Str.ofString "__next__") tz F.slot_zip_next (wpAny_call_entry F.slot_zip_next tz F.entry_zip_next (yB D (jS k1 t1 a1 m1.2.2.2.1 us.toArray) (jS k2 t2 a2 m2.2.2.2.2 vs.toArray) Z pI pO ⟨i1,l1⟩ ⟨i2,l2⟩ (x:=u) (y:=v) (by simpa using eu) (by simpa using ev) fun k Z2 pO2 j1 j2 pT szk kp=>wpAny_pure ⟨_,rfl,?_⟩) (F.args_zip_next_1 _))))
  refine wpAny_letOwnedTupleGo_zip (s:={s with heap:=k}) Z2 fun k' Z3 b3=>?_
  have hT:s.heap.objs.size≠z:=Nat.ne_of_gt (Heap.lt_size Z)
  have kp3:∀b o,b∉[z,ti,to,t1,t2]→s.heap.get? b=some o→k'.get? b=some o:=fun b o hb e=>by
   simp only[List.mem_cons,not_or,List.not_mem_nil,not_false_eq_true,and_true]at hb
   exact b3.extBut _ _ hb.1 (kp b o hb.1 hb.2.2.1 hb.2.2.2.1 hb.2.2.2.2 e)
  refine⟨.ref s.heap.objs.size,upd H s.heap.objs.size (.tup [x,y]),BB (s:=s) (tk:=s.toks) I hf kp3 (Nat.le_refl _) ?_,rfl,⟨s.heap.objs.size,x,y,I.aT.fresh (Nat.le_refl _),rfl,rfl,?_,?_⟩,?_,?_⟩
  · refine⟨Nat.le_of_ble_eq_true rfl,[u,v],.cons ru (.cons rv .nil),?_⟩
    exact⟨_,b3.extBut _ _ hT pT,rfl,_,rfl⟩
  · intro xs' q'
    rw[my I q' q1];exact ex
  · intro ys' q'
    rw[my I q' q2];exact ey
  · refine⟨Z3,b3.extBut _ _ n1 (kp _ _ n1 n5 n6 n7 pI),⟨_,_,b3.extBut _ _ n2 pO2⟩,iD j1.1 fun o e=>b3.extBut _ _ n3 e,iD j2.1 fun o e=>b3.extBut _ _ n4 e⟩
  · intro b hb
    have:b≠s.heap.objs.size:=by
     obtain⟨o,e,_⟩:∃o,s.heap.get? b=some o∧True:=by
      simp only[List.mem_cons,List.not_mem_nil,or_false]at hb
      rcases hb with rfl|rfl|rfl|rfl|rfl
      · exact⟨_,Z,trivial⟩
      · exact⟨_,pI,trivial⟩
      · exact⟨_,pO,trivial⟩
      · obtain⟨o,e,_⟩:=gW i1;exact⟨o,e,trivial⟩
      · obtain⟨o,e,_⟩:=gW i2;exact⟨o,e,trivial⟩
     exact Nat.ne_of_lt (Heap.lt_size e)
    rw[aC this]
    exact(hf b hb).1
 done:=by
  intro X hP hw hK hc i pins s σ H E I hf st hg
  subst hP hw hK
  obtain⟨Z,pI,⟨a,b',pO⟩,i1,i2⟩:=st
  obtain⟨xs,ys,q1,q2,he⟩:=hg
  obtain⟨us,r1,l1⟩:=fD I q1
  obtain⟨vs,r2,l2⟩:=fD I q2
  have e1:=r1.length
  have e2:=r2.length
  have m1:=D.a1
  have m2:=D.a2
  simp only[List.mem_cons,not_or,List.not_mem_nil,not_false_eq_true,and_true]at m1 m2
  have tz:s.TypeIs (.ref z) "zip":=⟨_,Z,rfl⟩
  unfold pyNext
  refine wpAny_bind (wpAny_attempt (wpAny_callSpecial?_slot (name:=Str.ofString "__next__") tz F.slot_zip_next (wpAny_call_entry F.slot_zip_next tz F.entry_zip_next (Af (I.ok.hd hc) D (jS k1 t1 a1 m1.2.2.2.1 us.toArray) (jS k2 t2 a2 m2.2.2.2.2 vs.toArray) Z pI pO ⟨i1,l1⟩ ⟨i2,l2⟩ ?_ fun k e kp hx=>?_) (F.args_zip_next_1 _))))
  · rcases he with h|h
    · left;simp;omega
    · right;simp;omega
  · obtain⟨o,ho,hc2⟩:=hx
    refine wpAny_bind (wpAny_isInstance (T:="StopIteration") (b:=true) ⟨o,ho,hc2⟩ isSubtype_stop ?_)
    refine wpAny_pure ⟨rfl,BO (s:=s) (tk:=s.toks) I hf fun b o hb e=>?_⟩
    simp only[List.mem_cons,not_or,List.not_mem_nil,not_false_eq_true,and_true]at hb
    exact kp b o hb.1 hb.2.2.1 hb.2.2.2.1 hb.2.2.2.2 e
 self:=fun _ _ _ _ _ st h=>wpAny_pyIter_zip st.1 h
end L3
namespace L3
open PySem L2
open PySem.Spec hiding items?
open PyProof.Rows hiding St
noncomputable abbrev uJ(h:Heap)(k1:SK)(a1:Addr):Heap:=h.push (lK k1 a1)
noncomputable abbrev sL(h:Heap)(k1 k2:SK)(a1 a2:Addr):Heap:=(uJ h k1 a1).push (lK k2 a2)
noncomputable abbrev Cj(h:Heap)(k1 k2:SK)(a1 a2:Addr):Heap:=(sL h k1 k2 a1 a2).push {cls:= .type "tuple",data:= .seq #[.ref h.objs.size,.ref (uJ h k1 a1).objs.size]}
noncomputable abbrev BH(h:Heap)(k1 k2:SK)(a1 a2:Addr):Heap:=(Cj h k1 k2 a1 a2).push {cls:= .type "tuple",data:= .seq #[.none,.none]}
noncomputable abbrev wI(h:Heap)(k1 k2:SK)(a1 a2:Addr):Heap:=(BH h k1 k2 a1 a2).push {cls:= .type "zip",data:= .fields #[.none,.bool false,.bool false,.ref (sL h k1 k2 a1 a2).objs.size,.ref (Cj h k1 k2 a1 a2).objs.size]}
theorem zY(k1 k2:SK)(a1 a2:Addr)(us vs:Array Value):Meets (Builtin.«zip.__new__» ⟨[.type "zip",.ref a1,.ref a2],[]⟩) (fun _ R s=>gp k1 s.heap a1 us∧gp k2 s.heap a2 vs∧
 R (.ok (.ret (.ref (BH s.heap k1 k2 a1 a2).objs.size))) {s with heap:=wI s.heap k1 k2 a1 a2}):=
 .of_wp fun P w A R s h=>by
  obtain⟨hp,g,d,tk,os⟩:=s
  obtain⟨c1,c2,h⟩:=h
  have hsub:=sub_zip
  have L1:gp k1 (Shared.heap ⟨hp,g,d,tk,os⟩) a1 us:=c1
  have L2:gp k2 (Shared.heap ⟨hp.push (lK k1 a1),g,d,tk,os⟩) a2 vs:=gp.push c2 _
  wp_walk using nG L1,nG L2
  exact⟨_,rfl,h⟩
theorem Am{P:Program}{w:World}{A:Around}{s:Shared}{E:Value→Shared→Prop}{k1 k2:SK}{a1 a2:Addr}{us vs:Array Value}{Q:Value→Shared→Prop}(c1:gp k1 s.heap a1 us)(c2:gp k2 s.heap a2 vs)
 (q:∀g n,n=s.heap.objs.size→IsZip g (n+4) (n+2) (n+3) .none→IsPair g (n+2) (.ref n) (.ref (n+1))→IsPair g (n+3) .none .none→kH k1 n a1 0 g→kH k2 (n+1) a2 0 g→(∀c o,s.heap.get? c=some o→g.get? c=some o)→Q (.ref (n+4)) {s with heap:=g}):
 wpAny (model P w) A (call (.type "zip") [.ref a1,.ref a2]) Q E s:=by
 refine callType_new F.called_zip (by decide) (F.typeCall_zip_2 _ _) (F.newCall_zip_2 _ _) (fun ob=>F.args_object_init_3 ob _ _) F.entry_zip_new (zY k1 k2 a1 a2 us vs) ⟨c1,c2,?_⟩
 have y1:(uJ s.heap k1 a1).objs.size=s.heap.objs.size+1:=Heap.size_push ..
 have y2:(sL s.heap k1 k2 a1 a2).objs.size=s.heap.objs.size+2:=by rw[Heap.size_push,y1]
 have y3:(Cj s.heap k1 k2 a1 a2).objs.size=s.heap.objs.size+3:=by rw[Heap.size_push,y2]
 have y4:(BH s.heap k1 k2 a1 a2).objs.size=s.heap.objs.size+4:=by rw[Heap.size_push,y3]
 have e5:(wI s.heap k1 k2 a1 a2).get? (BH s.heap k1 k2 a1 a2).objs.size=some _:=Heap.get?_push_size _ rfl
 have e4:(wI s.heap k1 k2 a1 a2).get? (Cj s.heap k1 k2 a1 a2).objs.size=some _:=Heap.get?_push_of_some _ (Heap.get?_push_size _ rfl)
 have e3:(wI s.heap k1 k2 a1 a2).get? (sL s.heap k1 k2 a1 a2).objs.size=some _:=Heap.get?_push_of_some _ (Heap.get?_push_of_some _ (Heap.get?_push_size _ rfl))
 have e2:(wI s.heap k1 k2 a1 a2).get? (uJ s.heap k1 a1).objs.size=some (lK k2 a2):=Heap.get?_push_of_some _ (Heap.get?_push_of_some _ (Heap.get?_push_of_some _ (Heap.get?_push_size _ (by cases k2<;>rfl))))
 have e1:(wI s.heap k1 k2 a1 a2).get? s.heap.objs.size=some (lK k1 a1):=Heap.get?_push_of_some _ (Heap.get?_push_of_some _ (Heap.get?_push_of_some _ (Heap.get?_push_of_some _ (Heap.get?_push_size _ (by cases k1<;>rfl)))))
 show _∧_
 rw[y2,y3,y4]at e5
 rw[y1,y2]at e3
 rw[y3]at e4
 rw[y1]at e2
 rw[y4]
 exact⟨⟨_,e5,rfl⟩,q _ _ rfl e5 e3 e4 (mn (h:=s.heap) e1) (mn (h:=s.heap) e2) fun c o x=>Heap.get?_push_of_some _ (Heap.get?_push_of_some _ (Heap.get?_push_of_some _ (Heap.get?_push_of_some _ (Heap.get?_push_of_some _ x))))⟩
noncomputable def wM:D→SK
 | .tup _=> .t
 |_=> .l
noncomputable def uN(k:SK)(G:Hp)(a:Addr)(vs:List V):Prop:=match k with
 | .l=>Rd G a (.lst vs)
 | .t=>G a=some (.tup vs)
theorem eX{K:PySem.W.Frag}{k:SK}{G F H:Hp}(P:cm G F H){a:Addr}{vs:List V}(h:uN k G a vs):jt k K H a vs:=by
 cases k
 · exact .inl (fK P h)
 · exact ix.of (P.get h)
theorem gS{α:List (Option Addr)}{H:Hp}{st:ae}{d:D}{v:V}{xs:List D}(S:aU α st H)(r:Rep α H d v)(e:items? st d=some xs):∃p vs,v= .ref p∧aG α H xs vs∧uN (wM d) H p vs:=by
 cases d<;>try(cases e;done)
 · unfold items? at e
   simp only at e
   split at e
   · rename_i ys q
     cases e
     obtain⟨a,ea,vs,h1,h2⟩:=S.g5 q
     exact⟨a,vs,d7 ea r,h2,Rd.of h1⟩
   · cases e
 · cases e
   unfold Rep at r
   obtain⟨a,vs,rfl,_,h1,h2⟩:=r
   exact⟨a,vs,rfl,h2,h1⟩
 · cases e
   unfold Rep at r
   obtain⟨a,vs,rfl,_,h1,h2⟩:=r
   exact⟨a,vs,rfl,h2,h1⟩
noncomputable def fL(xs ys:List D):List D:=(xs.zip ys).map fun p=> .tup [p.1,p.2]
theorem m6{xs ys:List D}:(fL xs ys).length=min xs.length ys.length:=by unfold fL;simp
theorem pN{xs ys:List D}{n:Nat}{d:D}(e:(fL xs ys)[n]?=some d):∃x y,xs[n]?=some x∧ys[n]?=some y∧d= .tup [x,y]:=by
 unfold fL at e
 rw[List.getElem?_map]at e
 cases q:(xs.zip ys)[n]? with
 |none=>rw[q]at e;cases e
 |some p=>
  rw[q]at e
  cases e
  rw[List.getElem?_zip_eq_some]at q
  exact⟨p.1,p.2,q.1,q.2,rfl⟩
theorem FY{K:PySem.W.Frag}{k1 k2:SK}{a1 a2:Addr}{α:List (Option Addr)}{G:Hp}{ok:ae→Prop}{xs ys:List D}
 (h:∀α' G' st',Step α G α' G'→aU α' st' G'→ok st'→∃vs ws,uN k1 G' a1 vs∧uN k2 G' a2 ws∧aG α' G' xs vs∧aG α' G' ys ws):qc (IP K k1 k2 a1 a2) α G ok (fL xs ys) where
 stop:=fun n α' G' F' H' st' s P S o hn=>by
  obtain⟨vs,ws,h1,h2,r1,r2⟩:=h α' G' st' s S o
  rw[m6]at hn
  refine⟨vs,ws,eX P h1,eX P h2,?_⟩
  have:=r1.length
  have:=r2.length
  omega
 go:=fun n d α' G' F' H' st' s P S o hn=>by
  obtain⟨vs,ws,h1,h2,r1,r2⟩:=h α' G' st' s S o
  obtain⟨x,y,ex,ey,rfl⟩:=pN hn
  obtain⟨v,ev,_⟩:=r1.get ex
  obtain⟨u,eu,_⟩:=r2.get ey
  exact⟨vs,ws,v,u,eX P h1,eX P h2,ev,eu⟩
 lL:=fun n d α' G' F' H' st' x H'' s P S o hn y=>by
  obtain⟨vs,ws,h1,h2,r1,r2⟩:=h α' G' st' s S o
  obtain⟨c,e,ec,ee,rfl⟩:=pN hn
  obtain⟨T,v,u,hT,rfl,rfl,y1,y2⟩:=y
  obtain⟨v',ev,rv⟩:=r1.get ec
  obtain⟨u',eu,ru⟩:=r2.get ee
  rw[y1 vs (eX P h1)]at ev
  rw[y2 ws (eX P h2)]at eu
  cases ev
  cases eu
  have hg:=(P.none hT).1
  refine⟨upd G' T (.tup [v,u]),Step.laid hg,P.laid hT,S.laid hg,?_⟩
  unfold Rep
  refine⟨T,[v,u],rfl,S.lN hg,br,?_⟩
  unfold aG
  refine⟨v,[u],rfl,rv.step (Step.laid hg),?_⟩
  unfold aG
  exact⟨u,[],rfl,ru.step (Step.laid hg),by unfold aG;rfl⟩
noncomputable def AE(ds:List D)(st1:ae)(K:List D→(ae→Prop)→ae→Prop):Prop:=match ds with
 | [x,y]=>(match items? st1 x,items? st1 y with
   |some xs,some ys=>K (fL xs ys) (fun st'=>items? st' x=some xs∧items? st' y=some ys) st1
   |_,_=>False)
 |_=>False
@[irreducible] noncomputable def qD:List D→ae→(List D→(ae→Prop)→ae→Prop)→Prop:=AE
noncomputable def nW(t:DA):DI:=fun σ st K=>t σ st fun ds st1=>qD ds st1 K
theorem DW{n a1 a2:Nat}(h1:a1<n)(h2:a2<n):wX (n+4) (n+2) (n+3) n (n+1) a1 a2:=by
 have e0:([n+4,n+2,n+3,n,n+1]:List Nat).Nodup:=by
  simp only[List.nodup_cons,List.mem_cons,not_or,List.not_mem_nil,not_false_eq_true,and_true,List.nodup_nil]
  omega
 have e1:∀a:Nat,a<n→a∉([n+4,n+2,n+3,n,n+1]:List Nat):=fun a ha=>by
  simp only[List.mem_cons,not_or,List.not_mem_nil,not_false_eq_true,and_true]
  omega
 exact⟨e0,e1 a1 h1,e1 a2 h2⟩
theorem Eu{X:Cx}{a b:Expr}{elts:List Expr}{kx:Nat}{tpos p pos:Pos}{t:DA}(hg:Gl X "zip")(hm:X.mg "zip"=none)(ha:PA X [a,b] (LA t))(hs:starEach [a,b] X.env=[(false,eval a X.env),(false,eval b X.env)])(hs2:starEach [b] X.env=[(false,eval b X.env)]):
 PI X (.Tuple elts kx tpos) (.Call (.Name "zip" p) [a,b] [] pos) (LI (nW t)):=by
 intro pins s σ H R I h
 obtain⟨α,σd,st,K,G,F,P,RS,S,t,k⟩:=h
 refine Call_ (kM I hg hm boot_zip (PyProof.Rows.callWith_type1 (bD (ha pos pins s σ H (fun vs H1=>∃ds α1 G1 st1,Step α G α1 G1∧cm G1 F H1∧aU α1 st1 G1∧aG α1 G1 ds vs∧qD ds st1 K) I ⟨α,σd,st,_,G,F,P,RS,S,t,fun ds st1 q α1 G1 H1 vs s1 P1 S1 r1=>⟨ds,α1,G1,st1,s1,P1,S1,r1,q⟩⟩) fun us s1 ⟨vs,H1,I1,rv,ds,α1,G1,st1,w1,P1,S1,r1,q⟩=>?_) (by rw[hs,hs2]) (by rw[hs2];rfl)))
 unfold qD AE at q
 split at q
 · rename_i x y
   split at q
   · rename_i xs ys ex ey
     obtain⟨v1,v2,rfl,q1,q2⟩:=oG r1 rfl
     obtain⟨p1,vs1,rfl,g1,c1⟩:=gS S1 q1 ex
     obtain⟨p2,vs2,rfl,g2,c2⟩:=gS S1 q2 ey
     obtain⟨u1,u2,rfl,ru1,ru2⟩:=vals2 rv
     cases ru1
     cases ru2
     obtain⟨its1,_,l1⟩:=fD I1 (eX P1 c1)
     obtain⟨its2,_,l2⟩:=fD I1 (eX P1 c2)
     refine Am l1 l2 fun g n hn Z pI pO i1 i2 kp=>?_
     obtain⟨o1,eo1⟩:=l1.some
     obtain⟨o2,eo2⟩:=l2.some
     refine wpAny_pyIter_zip (s:={s1 with heap:=g}) Z ?_
     refine⟨n+4,[n+4,n+2,n+3,n,n+1],_,_,H1,rfl,I1.kept (t':=s1.toks) kp,As (wM x) (wM y) (DW (by rw[hn];exact Heap.lt_size eo1) (by rw[hn];exact Heap.lt_size eo2)),⟨Z,pI,⟨_,_,pO⟩,i1,i2⟩,fun b hb=>?_,?_⟩
     · have hb':s1.heap.objs.size≤b:=by
        simp only[List.mem_cons,List.not_mem_nil,or_false]at hb
        rcases hb with rfl|rfl|rfl|rfl|rfl<;>(rw[←hn];first|exact Nat.le_refl _|exact Nat.le_add_right _ _)
       exact I1.pZ hb' (I1.aT.fresh hb')
     · refine k _ _ st1 q _ α1 G1 H1 w1 P1 S1 (FY fun α' G' st' s' S' o=>?_)
       obtain⟨p1',ws1,e1,f1,d1⟩:=gS S' (q1.step s') o.1
       obtain⟨p2',ws2,e2,f2,d2⟩:=gS S' (q2.step s') o.2
       cases e1
       cases e2
       exact⟨ws1,ws2,d1,d2,f1,f2⟩
   · exact q.elim
 · exact q.elim
theorem ot{st:ae}{x y:D}{xs ys:List D}{K:List D→(ae→Prop)→ae→Prop}(ex:items? st x=some xs)(ey:items? st y=some ys)(k:∀ok:ae→Prop,(∀st',items? st' x=some xs→items? st' y=some ys→ok st')→K (fL xs ys) ok st):qD [x,y] st K:=by
 unfold qD AE
 simp only[ex,ey]
 exact k _ fun st' h1 h2=>⟨h1,h2⟩
theorem oF{X:Cx}{a b:Expr}{elts:List Expr}{kx:Nat}{tpos p pos:Pos}{ar:DA}(hg:Gl X "zip")(hm:X.mg "zip"=none)(ha:JA X [a,b] ar)(hs:notStar a=true:=by rfl)(hs2:notStar b=true:=by rfl):JI X (.Tuple elts kx tpos) (.Call (.Name "zip" p) [a,b] [] pos) (nW ar):=by
 unfold JI;unfold JA at ha;exact Eu hg hm ha (by rw[cv hs,cv hs2];rfl) (cv hs2)
end L3
namespace L3
open PySem L2
open PySem.Spec hiding items?
open PyProof.Rows hiding St
theorem uM(f:Nat→Int):∀n,preSum f (n+1)=f 0+preSum (fun i=>f (i+1)) n
 |0=>by show preSum f 0+f 0=f 0+0;show(0:Int)+f 0=f 0+0;omega
 |n+1=>by
  have h:=uM f n
  show preSum f (n+1)+f (n+1)=f 0+(preSum (fun i=>f (i+1)) n+f (n+1))
  rw[h];omega
theorem wt:∀ns:List Int,preSum (fun i=>ns.getD i 0) ns.length=ns.sum
 | []=>rfl
 |n::ns=>by
  rw[List.length_cons,uM]
  have:(fun i=>(n::ns).getD (i+1) 0)=fun i=>ns.getD i 0:=by funext i;simp
  rw[this,wt ns,List.sum_cons]
  rfl
section
variable {X:Cx}
noncomputable def tL:gf:=fun ds st K=>match ds with| [.lst xs]=>(match lx xs with|some ns=>K (.int ns.sum) st|none=>False)|_=>False
theorem ly:∀ {ns:List Int} {us:List Value},Vals (ns.map V.int) us→∀(i:Nat) (u:Value),us[i]?=some u→∃t,u=Value.int (ns.getD i 0) t
 | [],_,.nil,i,u,e=>by simp at e
 |n::ns,_,.cons h t,0,u,e=>by
  obtain⟨tk,rfl⟩:=h
  simp at e
  exact⟨tk,by rw[←e];rfl⟩
 |n::ns,_,.cons h t,i+1,u,e=>by
  obtain⟨tk,q⟩:=ly t i u (by simpa using e)
  exact⟨tk,by rw[q];simp⟩
theorem HR(hc:X.calm=true):cn X (.builtin "sum") (ij tL):=fun pins s σ H xs us Q I rs ⟨α,ds,st,K,G,F',P,r,S,q,k⟩=>by
 unfold tL at q
 split at q
 · rename_i ys
   split at q
   · rename_i ns e
     obtain⟨v,rfl,r1⟩:=jy r rfl
     unfold Rep at r1
     obtain⟨a,vs,rfl,na,h1,h2⟩:=r1
     obtain⟨u,rfl,ru⟩:=vals1 rs
     cases ru
     have hv:=sW h2 e
     subst hv
     obtain⟨z,its,n,rv,hl,eo⟩:=Inv.rJ I (fK P h1)
     have isL:s.heap.IsList a its.toArray:=⟨_,eo,rfl,n,rfl⟩
     refine call_sum_walkAnyB (wpAny_pyIter_list isL ?_)
     have hne:a≠s.heap.objs.size:=Nat.ne_of_lt (Heap.lt_size eo)
     refine⟨s.heap.objs.size,_,_,_,_,_,_,fun i=>ns.getD i 0,rfl,(Walks.list (A:=X.A.in1) (I.ok.hd hc) _ a hne its.toArray).toS,⟨⟨_,Heap.get?_push_size _ rfl,rfl,rfl⟩,⟨_,Heap.get?_push_of_some _ eo,rfl,n,rfl⟩⟩,?_,?_,?_⟩
     · intro b hb
       rw[Heap.size_push]
       simp only[List.mem_cons,List.not_mem_nil,or_false]at hb
       rcases hb with rfl|rfl
       · exact Nat.lt_succ_self _
       · exact Nat.lt_succ_of_lt (Heap.lt_size eo)
     · intro i w hw
       obtain⟨t,e⟩:=ly rv i w (by simpa using hw)
       exact .inl ⟨t,e⟩
     · intro s' t' hm
       have kp:∀b o,s.heap.get? b=some o→s'.heap.get? b=some o:=fun b o q=>hm.heap b o (by
        intro hb
        have:b=s.heap.objs.size:=by simpa using hb
        exact absurd (Heap.lt_size q) (by rw[this];exact Nat.lt_irrefl _)) (Heap.get?_push_of_some _ q)
       have es:s'= {s with heap:=s'.heap,toks:=s'.toks}:=by
        have g:=hm.gens
        have d:=hm.drawn
        have o:=hm.os
        cases s'
        cases s
        simp_all
       have en:preSum (fun i=>ns.getD i 0) its.toArray.size=ns.sum:=by
        have:its.toArray.size=ns.length:=by rw[List.size_toArray,←hl,List.length_map]
        rw[this];exact wt ns
       rw[en,es]
       exact⟨.int ns.sum,H,I.kept (t':=s'.toks) kp,⟨t',rfl⟩,k.here P q S (by unfold Rep;rfl)⟩
   · exact q.elim
 · exact q.elim
@[irreducible] noncomputable def rO:gf:=tL
theorem BQ(hc:X.calm=true):cn X (.builtin "sum") (ij rO):=by unfold rO;exact HR hc
end
theorem ints_map:∀ns:List Int,lx (ns.map D.int)=some ns
 | []=>rfl
 |n::ns=>by simp[lx,ints_map ns]
theorem Fh{st:ae}{K:DK}{xs:List D}{ns:List Int}(h:lx xs=some ns)(k:K (.int ns.sum) st):rO [.lst xs] st K:=by unfold rO tL;simp only[h];exact k
end L3
namespace L3
open PySem L2
open PySem.Spec hiding items?
open PyProof.Rows hiding St
section
variable {X:Cx}{pos:Pos}
theorem xy{α:List (Option Addr)}{H:Hp}{ds:List D}{xs:List V}{d e f:D}(r:aG α H ds xs)(q:ds=[d,e,f]):∃v u t,xs=[v,u,t]∧Rep α H d v∧Rep α H e u∧Rep α H f t:=by
 subst q
 unfold aG at r
 obtain⟨v,q,rfl,h1,h2⟩:=r
 obtain⟨u,t,rfl,h3,h4⟩:=oG h2 rfl
 exact⟨v,u,t,rfl,h1,h3,h4⟩
noncomputable def oN(i j k:Nat):gd:=fun d σ=>match d with| .tup [x,y,z]=>some (((σ.set i (some x)).set j (some y)).set k (some z))|_=>none
theorem Bo{tg:Expr}{i j k:Nat}(h:PG X tg (Bv X.K 3 (ox (iL i) (ox (iL j) (ox (iL k) AK))))):PG X tg (LG (oN i j k)):=PG.imp h fun v σ H Q ⟨α,σd,st,d,K,G,F,P,R,S,r,⟨σ',e,q⟩,kk⟩=>by
 unfold oN at e
 split at e
 · rename_i x y z
   cases e
   unfold Rep at r
   obtain⟨a,vs,rfl,na,h1,h2⟩:=r
   obtain⟨v1,v2,v3,rfl,r1,r2,r3⟩:=xy h2 rfl
   exact⟨a,_,rfl,.of (P.get h1),rfl,v1,_,rfl,v2,_,rfl,v3,_,rfl,rfl,kk.here P q (((R.set i r1).set j r2).set k r3) S⟩
 · cases e
theorem Ig{i j k n:Nat}{x y z:Str}{px py pz:Pos}(hc:X.calm=true)(hN:X.N.Nodup)(hx:Loc X.env.scope x)(hf:X.fn x=true∨X.env.scope.names.lookup x=some .local)(hy:Loc X.env.scope y)(hg:X.fn y=true∨X.env.scope.names.lookup y=some .local)(hz:Loc X.env.scope z)(hh:X.fn z=true∨X.env.scope.names.lookup z=some .local)
 (hi:X.N[i]?=some x:=by rfl) (hj:X.N[j]?=some y:=by rfl) (hk:X.N[k]?=some z:=by rfl):JG X (.Tuple [.Name x px,.Name y py,.Name z pz] n pos) (oN i j k):=by
 unfold JG;exact Bo (zy hc (kR (kA hN hi hx hf) (kR (kA hN hj hy hg) (kR (kA hN hk hz hh) wR))))
end
end L3
namespace L3
open PySem L2 PySem.SeqAt
open PySem.Spec hiding items?
open PyProof.Rows hiding St
section
variable {X:Cx}{pins:List (Addr×Obj)}{σ:L2.St}{H:Hp}{s:Shared}{α:List (Option Addr)}
end
theorem sy{st:ae}{n:Nat}{xs:List D}(h:items? st (.ref n)=some xs):st[n]?=some (.lst xs):=by
 unfold items? at h
 simp only at h
 split at h
 · rename_i q;cases h;exact q
 · cases h
theorem Dw{st:ae}{d:D}{xs:List D}{K:List D→(ae→Prop)→ae→Prop}(h:items? st d=some xs)(k:∀ok:ae→Prop,(∀st',items? st' d=some xs→ok st')→K xs ok st):lY d st K:=by
 cases d with
 |lst ys=>cases h;exact rE (k _ fun _ _=>trivial)
 |tup ys=>cases h;exact mI (k _ fun _ _=>trivial)
 |ref n=>
  have e:=sy h
  unfold lY rZ
  simp only[e]
  exact k _ fun st' h'=>sy h'
 |_=>cases h
theorem mY{env:Env}:∀(l:List (Str×NameKind)) (x:Str),(l.lookup x=some .cell∨l.lookup x=some .free)→
 ((l.map fun(n,k)=>if(k== .free&&env.scope.kind== .function&&env.kindOf n==some .cell)then(n,.cell)else(n,k)).lookup x=some .cell∨(l.map fun(n,k)=>if(k== .free&&env.scope.kind== .function&&env.kindOf n==some .cell)then(n,.cell)else(n,k)).lookup x=some .free)
 | [],x,h=>by simp at h
 |(n,k)::l,x,h=>by
  rw[List.map_cons]
  dsimp only
  by_cases hx:x=n
  · subst hx
    rw[List.lookup_cons_self]at h
    split
    · rw[List.lookup_cons_self];exact .inl rfl
    · rw[List.lookup_cons_self];exact h
  · have hb:(x==n)=false:=by simpa using hx
    have e1:List.lookup x ((n,k)::l)=List.lookup x l:=by rw[List.lookup_cons,hb]
    rw[e1]at h
    have ih:=mY (env:=env) l x h
    split
    · rw[List.lookup_cons,hb];exact ih
    · rw[List.lookup_cons,hb];exact ih
theorem cc.BI{X0:Cx}{scope0 scope:Scope}{Nc0 Nc:List Str}{C:Addr}{s:Shared}{H:Hp}{ex:List Addr}{fr:List (Option Nat)}(h:qY scope0 Nc0 scope Nc fr=true):cc (fG X0 scope0 Nc0 C s H ex) scope Nc fr:=by
 unfold qY at h
 simp only[Bool.and_eq_true]at h
 obtain⟨⟨⟨⟨⟨h1,h2⟩,h3⟩,h4⟩,h5⟩,h6⟩:=h
 refine⟨by simpa using h1,fun x hx hk=>?_,fun x hx hk=>?_,fun x hx hk=>?_,by simpa using h5,fun i j x e1 e2=>?_⟩
 · have:=List.all_eq_true.mp h2 x hx
   rw[hk]at this
   simpa using this
 · have:=List.all_eq_true.mp h3 x hx
   rw[hk]at this
   simpa using this
 · have:=List.all_eq_true.mp h4 x hx
   rw[hk]at this
   have z:scope0.names.lookup x.1=some .cell∨scope0.names.lookup x.1=some .free:=by simpa using this
   exact mY _ _ z
 · have hi:i<fr.length:=(List.getElem?_eq_some_iff.mp e2).1
   have:=List.all_eq_true.mp h6 i (List.mem_range.mpr hi)
   rw[e1,e2]at this
   simp only[Bool.and_eq_true,Bool.or_eq_true,beq_iff_eq]at this
   exact⟨this.1.1,this.1.2,mY _ _ this.2⟩
end L3
namespace L3
open PySem L2
open PySem.Spec hiding items?
open PyProof.Rows hiding St
section
variable {X:Cx}
end
theorem yv{n:Nat}{d:D}(h:d∈cQ 0 n):∃i:Nat,i<n∧d= .int (i:Int):=by
 unfold cQ at h
 obtain⟨i,hi,rfl⟩:=List.mem_map.mp h
 rw[List.mem_range]at hi
 exact⟨i,hi,by rw[Int.zero_add]⟩
theorem zK{f:Nat→D}(n:Nat):(cQ 0 n).map (fun d=>match d with| .int i=>f i.toNat|_=> .aP)=(List.range n).map f:=by
 unfold cQ
 rw[List.map_map]
 refine List.map_congr_left fun i _=>?_
 show f ((0:Int)+(i:Int)).toNat=f i
 have:((0:Int)+(i:Int)).toNat=i:=by omega
 rw[this]
theorem mW{tg:gd}{te:DE}{σc:bJ}{st:ae}{K:List D→ae→Prop}(f:Nat→D)(n:Nat)(hx:∀i:Nat,i<n→∀K',K' (f i) st→∃σ2,tg (.int (i:Int)) σc=some σ2∧te σ2 st K')(k:K ((List.range n).map f) st):df tg cZ te (fun _=>True) σc (cQ 0 n) [] st K:=by
 refine comp_map (g:=fun d=>match d with| .int i=>f i.toNat|_=> .aP) trivial _ (fun d hd K' q=>?_) (by rw[zK];exact k)
 obtain⟨i,hi,rfl⟩:=yv hd
 exact hx i hi K' q
theorem hJ{tg:gd}{body:DS}{E:jr}(n:Nat)(I:Nat→bJ→ae→Prop)(hend:∀σ st,I n σ st→E.nx σ st)
 (hstep:∀(j:Nat) σ st (rest:List D),j<n→I j σ st→(∀σ' st',I (j+1) σ' st'→g7 tg body (fun _=>True) E rest σ' st')→∃σ1,tg (.int (j:Int)) σ=some σ1∧body {E with nx:=g7 tg body (fun _=>True) E rest,ct:=g7 tg body (fun _=>True) E rest,bk:=E.nx} σ1 st)
 {σ:bJ} {st:ae} (h0:I 0 σ st):g7 tg body (fun _=>True) E (cQ 0 n) σ st:=by
 refine fk (fun rest σ st=>∃j:Nat,j≤n∧rest=(List.range (n-j)).map (fun i=>D.int (((j+i:Nat):Int)))∧I j σ st) ?_ ?_ _ _ _ ⟨0,Nat.zero_le _,by unfold cQ;simp,h0⟩
 · rintro σ st ⟨j,hj,hr,hI⟩
   have:n-j=0:=by
    cases q:n-j with
    |zero=>rfl
    |succ m=>rw[q,List.range_succ_eq_map]at hr;cases hr
   have hjn:j=n:=by omega
   subst hjn
   exact⟨trivial,hend σ st hI⟩
 · rintro d rest σ st ⟨j,hj,hr,hI⟩ next
   cases q:n-j with
   |zero=>rw[q]at hr;cases hr
   |succ m=>
    rw[q,List.range_succ_eq_map,List.map_cons,List.map_map]at hr
    simp only[List.cons.injEq]at hr
    obtain⟨rfl,hrest⟩:=hr
    refine⟨trivial,hstep j σ st rest (by omega) hI fun σ' st' h'=>next σ' st' ⟨j+1,by omega,?_,h'⟩⟩
    have:n-(j+1)=m:=by omega
    rw[this,hrest]
    refine List.map_congr_left fun i _=>?_
    show D.int (((j+(i+1):Nat):Int))=D.int (((j+1+i:Nat):Int))
    congr 2;omega
end L3
namespace L3
open PySem L2
open PySem.Spec hiding items?
open PyProof.Rows hiding St
section
variable {X:Cx}
end
section
variable {X:Cx}{pos:Pos}
end
end L3
namespace L3
open PySem L2
open PySem.Spec hiding items?
open PyProof.Rows hiding St
section
variable {X:Cx}
end
section
variable {st:ae}{K:DK}{d:D}{b:Bool}
end
end L3
namespace L3
open PySem L2
open PySem.Spec hiding items?
open PyProof.Rows hiding St
section
variable {X:Cx}
end
end L3
namespace L3
open PySem L2
open PySem.Spec hiding items?
open PyProof.Rows hiding St
open AutoSeq1 (wpAny_loadPart')
end L3
namespace L3
open PySem L2
open PySem.Spec hiding items?
open PyProof.Rows hiding St
section
variable {prog:Program}{w:World}{A:Around}{E:Value→Shared→Prop}{s:Shared}
end
section
variable {X:Cx}{tg:Expr}
end
end L3
namespace L3
open PySem L2
open PySem.Spec hiding items?
open PyProof.Rows hiding St
section
variable {X:Cx}
end
end L3
namespace L3
open PySem L2
open PySem.Spec hiding items?
open PyProof.Rows hiding St
section
variable {X:Cx}
noncomputable def B3:di:=fun x y st K=>match x,y with
 | .lst xs,.lst ys=>xs.length+ys.length≤sizeLine∧K (.ref st.length) (st++[.lst (xs++ys)])
 |_,_=>False
theorem FU:bR X (binaryOp .Add) (LR B3):=fun pins s σ H x y v u Q I rx ry ⟨α,d,e,st,K,G,F',P,r1,r2,S,q,k⟩=>by
 cases d<;>cases e<;>try exact q.elim
 unfold Rep at r1 r2
 obtain⟨a,vs,rfl,na,ha,ra⟩:=r1
 obtain⟨b,ws,rfl,nb,hb,rb⟩:=r2
 refine rX pins s σ H _ _ v u Q I rx ry ⟨a,b,vs,ws,rfl,rfl,fK P ha,fK P hb,by rw[←ra.length,←rb.length];exact q.1,fun p hp=>?_⟩
 exact k.new P q.2 S (aR.mpr (d9 (aR.mp ra) (aR.mp rb))) hp
@[irreducible] noncomputable def mQ:di:=B3
theorem uo:bR X (binaryOp .Add) (LR mQ):=by unfold mQ;exact FU
end
theorem rG{st:ae}{K:DK}{xs ys:List D}(h:xs.length+ys.length≤sizeLine)(k:K (.ref st.length) (st++[.lst (xs++ys)])):mQ (.lst xs) (.lst ys) st K:=by unfold mQ;exact⟨h,k⟩
end L3
namespace L3
open PySem L2
open PySem.Spec hiding items?
open PyProof.Rows hiding St
open PySem PySem.Spec L2 PySem.SeqAt
section
variable {X:Cx}
end
end L3
namespace L3
open PySem L2
open PySem.Spec hiding items?
open PyProof.Rows hiding St
section
variable {X:Cx}
end
end L3
namespace L3
open PySem L2
open PySem.Spec hiding items?
open PyProof.Rows hiding St
section
variable {X:Cx}
end
section
variable {X:Cx}
end
end L3
namespace L3
open PySem L2
open PySem.Spec hiding items?
open PyProof.Rows hiding St
section
variable {X:Cx}
end
end L3
namespace L3
open PySem L2
open PySem.Spec hiding items?
open PyProof.Rows hiding St
section
variable {X:Cx}
end
end L3
namespace L3
open PySem L2
open PySem.Spec hiding items?
open PyProof.Rows hiding St
noncomputable abbrev eO(h:Heap)(T:Addr)(a b c:Value):Prop:=h.get? T=some {cls:= .type "tuple",data:= .seq #[a,b,c]}
section
variable {P:Program}{w:World}
theorem eD{A:Around}{s:Shared}{E:Value→Shared→Prop}{T:Addr}{a b c x:Value}{k:Nat}{Q:Unit→Shared→Prop}(hT:eO s.heap T a b c)
 (h:∀h',h'.get? T=some {cls:= .type "tuple",data:= .seq ((#[a,b,c]:Array Value).setIfInBounds k x)}→Heap.SameBut T s.heap h'→Q () {s with heap:=h'}):
 wpAny (model P w) A (updateSeq T (·.setIfInBounds k x)) Q E s:=by
 refine wpAny_updateSeq hT rfl (h _ ?_ (Heap.SameBut.update ..))
 rw[Heap.get?_update_self _ hT rfl]
 simp[Obj.mapSeq]
structure Cs(z ti to t1 t2 t3 a1 a2 a3:Nat):Prop where
 f:(ti≠z∧to≠z∧t1≠z∧t2≠z∧t3≠z)∧(ti≠to∧ti≠t1∧ti≠t2∧ti≠t3)∧(to≠t1∧to≠t2∧to≠t3)∧(t1≠t2∧t1≠t3∧t2≠t3)
 a1:a1≠z∧a1≠to∧a1≠t1∧a1≠t2∧a1≠t3
 a2:a2≠z∧a2≠to∧a2≠t1∧a2≠t2∧a2≠t3
 a3:a3≠z∧a3≠to∧a3≠t1∧a3≠t2∧a3≠t3
section
variable {z ti to t1 t2 t3 a1 a2 a3:Addr}
theorem yy{A:Around}{s:Shared}{E:Value→Shared→Prop}{J1 J2 J3:Nat→Heap→Prop}{us vs ws:Array Value}{n:Nat}{x y u a b c:Value}{Q:Value→Shared→Prop}(D:Cs z ti to t1 t2 t3 a1 a2 a3)(S1:Src P w t1 a1 J1 us)(S2:Src P w t2 a2 J2 vs)(S3:Src P w t3 a3 J3 ws)
 (Z:IsZip s.heap z ti to .none) (pI:eO s.heap ti (.ref t1) (.ref t2) (.ref t3)) (pO:eO s.heap to a b c) (j1:J1 n s.heap) (j2:J2 n s.heap) (j3:J3 n s.heap) (ex:us[n]?=some x) (ey:vs[n]?=some y) (ez:ws[n]?=some u)
 (q:∀k,IsZip k z ti to (rawInt s.heap.objs.size)→eO k to x y u→J1 (n+1) k→J2 (n+1) k→J3 (n+1) k→eO k s.heap.objs.size x y u→k.objs.size=s.heap.objs.size+1→
   (∀c o,c≠z→c≠to→c≠t1→c≠t2→c≠t3→s.heap.get? c=some o→k.get? c=some o)→Q (.ref s.heap.objs.size) {s with heap:=k}):
 wpAny (model P w) A (Builtin.«zip.__next__» ⟨[.ref z],[]⟩) (fun fin s'=>∃v,fin= .done (.ret v)∧Q v s') E s:=by
 obtain⟨⟨n1,n2,n3,n4,n4'⟩,⟨n5,n6,n7,n7'⟩,⟨n8,n9,n9'⟩,n10,n11,n12⟩:=D.f
 obtain⟨p1,p2,p3,p4,p5⟩:=D.a1
 obtain⟨q1,q2,q3,q4,q5⟩:=D.a2
 obtain⟨r1,r2,r3,r4,r5⟩:=D.a3
 show wpAny _ _ (field (.ref z) 2 >>= _) _ _ _
 refine wpAny_bind (wpAny_field Z rfl (x:= .bool false) rfl ?_)
 show wpAny _ _ (field (.ref z) 3 >>= _) _ _ _
 refine wpAny_bind (wpAny_field Z rfl (x:= .ref ti) rfl ?_)
 refine wpAny_bind (wpAny_seqItems pI rfl ?_)
 show wpAny _ _ (Builtin.SmallTypes.ownedTupleIsFree (.ref z) >>= _) _ _ _
 refine wpAny_bind ?_
 unfold Builtin.SmallTypes.ownedTupleIsFree
 refine wpAny_bind (wpAny_field Z rfl (x:= .none) rfl (wpAny_pure ?_))
 simp only[if_true]
 refine wpAny_bind (wpAny_rule ?_)
 refine wpAny_bind (wpAny_field Z rfl (x:= .ref to) rfl ?_)
 refine wpAny_bind (wpAny_setField_rec Z (by simp) fun k1 Z1 b1=>?_)
 replace Z1:IsZip k1 z ti to .ellipsis:=Z1
 refine wpAny_bind ?_
 simp only[List.zipIdx_cons,List.zipIdx_nil,List.forIn_cons,List.forIn_nil]
 refine wpAny_bind (wpAny_bind (wpAny_onRaise ?_))
 show wpAny _ _ (Builtin.SmallTypes.nextOf (.ref t1) >>= _) _ _ _
 refine wpAny_bind (S1.nx n _ _ _ _ x (S1.ext j1 b1.extBut (Ne.symm n3) (Ne.symm p1)) ex fun k2 j1b b2=>wpAny_pure ?_)
 have pO2:eO k2 to a b c:=b2.extBut _ _ n8 (b1.extBut _ _ n2 pO)
 refine wpAny_bind (wpAny_seqItems pO2 rfl ?_)
 refine wpAny_bind (eD pO2 fun k3 pO3 b3=>?_)
 replace pO3:eO k3 to x b c:=pO3
 refine wpAny_bind (wpAny_letGo (wpAny_pure ?_))
 refine wpAny_bind (wpAny_bind (wpAny_onRaise ?_))
 show wpAny _ _ (Builtin.SmallTypes.nextOf (.ref t2) >>= _) _ _ _
 have j2c:J2 n k3:=S2.ext (S2.ext (S2.ext j2 b1.extBut (Ne.symm n4) (Ne.symm q1)) b2.extBut n10 (Ne.symm q3)) b3.extBut n9 (Ne.symm q2)
 refine wpAny_bind (S2.nx n _ _ _ _ y j2c ey fun k4 j2d b4=>wpAny_pure ?_)
 have pO4:eO k4 to x b c:=b4.extBut _ _ n9 pO3
 refine wpAny_bind (wpAny_seqItems pO4 rfl ?_)
 refine wpAny_bind (eD pO4 fun k5 pO5 b5=>?_)
 replace pO5:eO k5 to x y c:=pO5
 refine wpAny_bind (wpAny_letGo (wpAny_pure ?_))
 refine wpAny_bind (wpAny_bind (wpAny_onRaise ?_))
 show wpAny _ _ (Builtin.SmallTypes.nextOf (.ref t3) >>= _) _ _ _
 have j3c:J3 n k5:=S3.ext (S3.ext (S3.ext (S3.ext (S3.ext j3 b1.extBut (Ne.symm n4') (Ne.symm r1)) b2.extBut n11 (Ne.symm r3)) b3.extBut n9' (Ne.symm r2)) b4.extBut n12 (Ne.symm r4)) b5.extBut n9' (Ne.symm r2)
 refine wpAny_bind (S3.nx n _ _ _ _ u j3c ez fun k6 j3d b6=>wpAny_pure ?_)
 have pO6:eO k6 to x y c:=b6.extBut _ _ n9' pO5
 refine wpAny_bind (wpAny_seqItems pO6 rfl ?_)
 refine wpAny_bind (eD pO6 fun k7 pO7 b7=>?_)
 replace pO7:eO k7 to x y u:=pO7
 refine wpAny_bind (wpAny_letGo (wpAny_pure (wpAny_pure ?_)))
 refine wpAny_bind (wpAny_seqItems pO7 rfl ?_)
 refine wpAny_bind (wpAny_newTuple ?_)
 have sz:k7.objs.size=s.heap.objs.size:=by rw[b7.1,b6.1,b5.1,b4.1,b3.1,b2.1,b1.1]
 have kp7:∀c o,c≠z→c≠to→c≠t1→c≠t2→c≠t3→s.heap.get? c=some o→k7.get? c=some o:=fun c o c1 c2 c3 c4 c5 e=>b7.extBut _ _ c2 (b6.extBut _ _ c5 (b5.extBut _ _ c2 (b4.extBut _ _ c4 (b3.extBut _ _ c2 (b2.extBut _ _ c3 (b1.extBut _ _ c1 e))))))
 have Z7:IsZip k7 z ti to .ellipsis:=b7.extBut _ _ (Ne.symm n2) (b6.extBut _ _ (Ne.symm n4') (b5.extBut _ _ (Ne.symm n2) (b4.extBut _ _ (Ne.symm n4) (b3.extBut _ _ (Ne.symm n2) (b2.extBut _ _ (Ne.symm n3) Z1)))))
 have j1e:J1 (n+1) k7:=S1.ext (S1.ext (S1.ext (S1.ext (S1.ext j1b b3.extBut n8 (Ne.symm p2)) b4.extBut (Ne.symm n10) (Ne.symm p4)) b5.extBut n8 (Ne.symm p2)) b6.extBut (Ne.symm n11) (Ne.symm p5)) b7.extBut n8 (Ne.symm p2)
 have j2e:J2 (n+1) k7:=S2.ext (S2.ext (S2.ext j2d b5.extBut n9 (Ne.symm q2)) b6.extBut (Ne.symm n12) (Ne.symm q5)) b7.extBut n9 (Ne.symm q2)
 have j3e:J3 (n+1) k7:=S3.ext j3d b7.extBut n9' (Ne.symm r2)
 have ltz:z<k7.objs.size:=Heap.lt_size Z7
 show wpAny _ _ (Builtin.SmallTypes.ownedTupleHandOut (.ref z) (.ref k7.objs.size) >>= _) _ _ _
 refine wpAny_bind ?_
 unfold Builtin.SmallTypes.ownedTupleHandOut
 have Z8:IsZip (k7.push {cls:= .type "tuple",data:= .seq #[x,y,u]}) z ti to .ellipsis:=Heap.get?_push_of_some _ Z7
 refine wpAny_bind (wpAny_setField_rec Z8 (by simp) fun k9 Z9 b9=>?_)
 replace Z9:IsZip k9 z ti to (rawInt k7.objs.size):=Z9
 refine wpAny_setField_rec Z9 (by simp) fun k10 Z10 b10=>?_
 replace Z10:IsZip k10 z ti to (rawInt k7.objs.size):=Z10
 have up:∀c o,c≠z→k7.get? c=some o→k10.get? c=some o:=fun c o c1 e=>b10.extBut _ _ c1 (b9.extBut _ _ c1 (Heap.get?_push_of_some _ e))
 have pT:eO k10 k7.objs.size x y u:=b10.extBut _ _ (Nat.ne_of_gt ltz) (b9.extBut _ _ (Nat.ne_of_gt ltz) (Heap.get?_push_size _ rfl))
 have sz10:k10.objs.size=k7.objs.size+1:=by rw[b10.1,b9.1,Heap.size_push]
 rw[sz]at Z10 pT sz10
 refine wpAny_pure ⟨_,rfl,?_⟩
 show Q (.ref k7.objs.size) _
 rw[sz]
 refine q k10 Z10 (up _ _ n2 pO7) (S1.fr _ _ _ j1e fun b hb o e=>up b o ?_ e) (S2.fr _ _ _ j2e fun b hb o e=>up b o ?_ e) (S3.fr _ _ _ j3e fun b hb o e=>up b o ?_ e) pT sz10 fun c o c1 c2 c3 c4 c5 e=>up c o c1 (kp7 c o c1 c2 c3 c4 c5 e)
 · rcases hb with rfl|rfl
   · exact n3
   · exact p1
 · rcases hb with rfl|rfl
   · exact n4
   · exact q1
 · rcases hb with rfl|rfl
   · exact n4'
   · exact r1
theorem Al{A:Around}{s:Shared}{E:Value→Shared→Prop}{J1 J2 J3:Nat→Heap→Prop}{us vs ws:Array Value}{n:Nat}{a b c:Value}{Q:Fin→Shared→Prop}(hh:A.handled=none)(D:Cs z ti to t1 t2 t3 a1 a2 a3)(S1:Src P w t1 a1 J1 us)(S2:Src P w t2 a2 J2 vs)(S3:Src P w t3 a3 J3 ws)
 (Z:IsZip s.heap z ti to .none) (pI:eO s.heap ti (.ref t1) (.ref t2) (.ref t3)) (pO:eO s.heap to a b c) (j1:J1 n s.heap) (j2:J2 n s.heap) (j3:J3 n s.heap) (he:us[n]?=none∨vs[n]?=none∨ws[n]?=none)
 (q:∀k e,(∀c o,c≠z→c≠to→c≠t1→c≠t2→c≠t3→s.heap.get? c=some o→k.get? c=some o)→(∃o,k.get? e=some o∧o.cls= .type "StopIteration")→E (.ref e) {s with heap:=k}):
 wpAny (model P w) A (Builtin.«zip.__next__» ⟨[.ref z],[]⟩) Q E s:=by
 obtain⟨⟨n1,n2,n3,n4,n4'⟩,⟨n5,n6,n7,n7'⟩,⟨n8,n9,n9'⟩,n10,n11,n12⟩:=D.f
 obtain⟨p1,p2,p3,p4,p5⟩:=D.a1
 obtain⟨q1,q2,q3,q4,q5⟩:=D.a2
 obtain⟨r1,r2,r3,r4,r5⟩:=D.a3
 show wpAny _ _ (field (.ref z) 2 >>= _) _ _ _
 refine wpAny_bind (wpAny_field Z rfl (x:= .bool false) rfl ?_)
 show wpAny _ _ (field (.ref z) 3 >>= _) _ _ _
 refine wpAny_bind (wpAny_field Z rfl (x:= .ref ti) rfl ?_)
 refine wpAny_bind (wpAny_seqItems pI rfl ?_)
 show wpAny _ _ (Builtin.SmallTypes.ownedTupleIsFree (.ref z) >>= _) _ _ _
 refine wpAny_bind ?_
 unfold Builtin.SmallTypes.ownedTupleIsFree
 refine wpAny_bind (wpAny_field Z rfl (x:= .none) rfl (wpAny_pure ?_))
 simp only[if_true]
 refine wpAny_bind (wpAny_rule ?_)
 refine wpAny_bind (wpAny_field Z rfl (x:= .ref to) rfl ?_)
 refine wpAny_bind (wpAny_setField_rec Z (by simp) fun k1 Z1 b1=>?_)
 replace Z1:IsZip k1 z ti to .ellipsis:=Z1
 refine wpAny_bind ?_
 simp only[List.zipIdx_cons,List.zipIdx_nil,List.forIn_cons,List.forIn_nil]
 refine wpAny_bind (wpAny_bind (wpAny_onRaise ?_))
 show wpAny _ _ (Builtin.SmallTypes.nextOf (.ref t1) >>= _) _ _ _
 have j1a:J1 n k1:=S1.ext j1 b1.extBut (Ne.symm n3) (Ne.symm p1)
 cases ex:us[n]? with
 |none=>
  refine wpAny_bind (S1.en n _ _ _ _ hh j1a ex fun k2 e b2 hx=>?_)
  obtain⟨oe,he1,he2⟩:=hx
  have Z2:IsZip k2 z ti to .ellipsis:=b2 _ _ (Ne.symm n3) Z1
  have hez:e≠z:=fun c=>by subst c;rw[Z2]at he1;cases he1;simp at he2
  refine wpAny_setField_rec Z2 (by simp) fun k3 _ b3=>q k3 e (fun c o c1 _ c3 _ _ f=>b3.extBut _ _ c1 (b2 _ _ c3 (b1.extBut _ _ c1 f))) ⟨oe,b3.extBut _ _ hez he1,he2⟩
 |some x=>
  refine wpAny_bind (S1.nx n _ _ _ _ x j1a ex fun k2 j1b b2=>wpAny_pure ?_)
  have pO2:eO k2 to a b c:=b2.extBut _ _ n8 (b1.extBut _ _ n2 pO)
  refine wpAny_bind (wpAny_seqItems pO2 rfl ?_)
  refine wpAny_bind (eD pO2 fun k3 pO3 b3=>?_)
  replace pO3:eO k3 to x b c:=pO3
  refine wpAny_bind (wpAny_letGo (wpAny_pure ?_))
  refine wpAny_bind (wpAny_bind (wpAny_onRaise ?_))
  show wpAny _ _ (Builtin.SmallTypes.nextOf (.ref t2) >>= _) _ _ _
  have j2c:J2 n k3:=S2.ext (S2.ext (S2.ext j2 b1.extBut (Ne.symm n4) (Ne.symm q1)) b2.extBut n10 (Ne.symm q3)) b3.extBut n9 (Ne.symm q2)
  cases ey:vs[n]? with
  |none=>
   refine wpAny_bind (S2.en n _ _ _ _ hh j2c ey fun k4 e b4 hx=>?_)
   obtain⟨oe,he1,he2⟩:=hx
   have Z4:IsZip k4 z ti to .ellipsis:=b4 _ _ (Ne.symm n4) (b3.extBut _ _ (Ne.symm n2) (b2.extBut _ _ (Ne.symm n3) Z1))
   have hez:e≠z:=fun c=>by subst c;rw[Z4]at he1;cases he1;simp at he2
   refine wpAny_setField_rec Z4 (by simp) fun k5 _ b5=>q k5 e (fun c o c1 c2 c3 c4 _ f=>b5.extBut _ _ c1 (b4 _ _ c4 (b3.extBut _ _ c2 (b2.extBut _ _ c3 (b1.extBut _ _ c1 f))))) ⟨oe,b5.extBut _ _ hez he1,he2⟩
  |some y=>
   have ez:ws[n]?=none:=by
    rcases he with h|h|h
    · rw[ex]at h;cases h
    · rw[ey]at h;cases h
    · exact h
   refine wpAny_bind (S2.nx n _ _ _ _ y j2c ey fun k4 j2d b4=>wpAny_pure ?_)
   have pO4:eO k4 to x b c:=b4.extBut _ _ n9 pO3
   refine wpAny_bind (wpAny_seqItems pO4 rfl ?_)
   refine wpAny_bind (eD pO4 fun k5 pO5 b5=>?_)
   refine wpAny_bind (wpAny_letGo (wpAny_pure ?_))
   refine wpAny_bind (wpAny_bind (wpAny_onRaise ?_))
   show wpAny _ _ (Builtin.SmallTypes.nextOf (.ref t3) >>= _) _ _ _
   have j3c:J3 n k5:=S3.ext (S3.ext (S3.ext (S3.ext (S3.ext j3 b1.extBut (Ne.symm n4') (Ne.symm r1)) b2.extBut n11 (Ne.symm r3)) b3.extBut n9' (Ne.symm r2)) b4.extBut n12 (Ne.symm r4)) b5.extBut n9' (Ne.symm r2)
   refine wpAny_bind (S3.en n _ _ _ _ hh j3c ez fun k6 e b6 hx=>?_)
   obtain⟨oe,he1,he2⟩:=hx
   have Z6:IsZip k6 z ti to .ellipsis:=b6 _ _ (Ne.symm n4') (b5.extBut _ _ (Ne.symm n2) (b4.extBut _ _ (Ne.symm n4) (b3.extBut _ _ (Ne.symm n2) (b2.extBut _ _ (Ne.symm n3) Z1))))
   have hez:e≠z:=fun c=>by subst c;rw[Z6]at he1;cases he1;simp at he2
   refine wpAny_setField_rec Z6 (by simp) fun k7 _ b7=>q k7 e (fun c o c1 c2 c3 c4 c5 f=>b7.extBut _ _ c1 (b6 _ _ c5 (b5.extBut _ _ c2 (b4.extBut _ _ c4 (b3.extBut _ _ c2 (b2.extBut _ _ c3 (b1.extBut _ _ c1 f))))))) ⟨oe,b7.extBut _ _ hez he1,he2⟩
end
end
noncomputable def GK(K:PySem.W.Frag)(k1 k2 k3:SK)(a1 a2 a3:Addr):It:=
 ⟨fun i H=>∃xs ys zs x y z,jt k1 K H a1 xs∧jt k2 K H a2 ys∧jt k3 K H a3 zs∧xs[i]?=some x∧ys[i]?=some y∧zs[i]?=some z,
  fun i H v H'=>∃T x y z,H T=none∧v= .ref T∧H'=upd H T (.tup [x,y,z])∧(∀xs,jt k1 K H a1 xs→xs[i]?=some x)∧(∀ys,jt k2 K H a2 ys→ys[i]?=some y)∧∀zs,jt k3 K H a3 zs→zs[i]?=some z,
  fun i H=>∃xs ys zs,jt k1 K H a1 xs∧jt k2 K H a2 ys∧jt k3 K H a3 zs∧(xs.length≤i∨ys.length≤i∨zs.length≤i)⟩
noncomputable def FJ(z ti to t1 t2 t3 a1 a2 a3:Addr)(k1 k2 k3:SK)(i:Nat)(h:Heap):Prop:=IsZip h z ti to .none∧eO h ti (.ref t1) (.ref t2) (.ref t3)∧(∃a b c,eO h to a b c)∧kH k1 t1 a1 i h∧kH k2 t2 a2 i h∧kH k3 t3 a3 i h
theorem zO{P:Program}{w:World}{K:PySem.W.Frag}{elts:List Expr}{kx:Nat}{pos:Pos}{z ti to t1 t2 t3 a1 a2 a3:Addr}(k1 k2 k3:SK)(D:Cs z ti to t1 t2 t3 a1 a2 a3):
 Turn P w K (.Tuple elts kx pos) (GK K k1 k2 k3 a1 a2 a3) [z,ti,to,t1,t2,t3] z (FJ z ti to t1 t2 t3 a1 a2 a3 k1 k2 k3) where
 mem:=by simp
 obj:=fun i h st b hb=>by
  obtain⟨Z,pI,⟨a,b',c',pO⟩,i1,i2,i3⟩:=st
  simp only[List.mem_cons,List.not_mem_nil,or_false]at hb
  rcases hb with rfl|rfl|rfl|rfl|rfl|rfl
  · exact⟨_,Z,fun v e=>by cases e⟩
  · exact⟨_,pI,fun v e=>by cases e⟩
  · exact⟨_,pO,fun v e=>by cases e⟩
  · exact gW i1
  · exact gW i2
  · exact gW i3
 keep:=fun i h h' st k=>by
  obtain⟨Z,pI,⟨a,b',c',pO⟩,i1,i2,i3⟩:=st
  exact⟨k z (by simp) _ Z,k ti (by simp) _ pI,⟨a,b',c',k to (by simp) _ pO⟩,iD i1 (k t1 (by simp)),iD i2 (k t2 (by simp)),iD i3 (k t3 (by simp))⟩
 item:=by
  intro X hP hw hK hc i pins s σ H E I hf st hg
  subst hP hw hK
  obtain⟨Z,pI,⟨a,b',c',pO⟩,i1,i2,i3⟩:=st
  obtain⟨xs,ys,zs,x,y,zz,q1,q2,q3,ex,ey,ez⟩:=hg
  obtain⟨us,r1,l1⟩:=fD I q1
  obtain⟨vs,r2,l2⟩:=fD I q2
  obtain⟨ws,r3,l3⟩:=fD I q3
  obtain⟨u,eu,ru⟩:=r1.get ex
  obtain⟨v,ev,rv⟩:=r2.get ey
  obtain⟨wv,ew,rw'⟩:=r3.get ez
  obtain⟨⟨n1,n2,n3,n4,n4'⟩,⟨n5,n6,n7,n7'⟩,⟨n8,n9,n9'⟩,n10,n11,n12⟩:=D.f
  have tz:s.TypeIs (.ref z) "zip":=⟨_,Z,rfl⟩
  unfold pyNext
  refine wpAny_bind (wpAny_attempt (wpAny_callSpecial?_slot (name:=Str.ofString "__next__") tz F.slot_zip_next (wpAny_call_entry F.slot_zip_next tz F.entry_zip_next (yy D (jS k1 t1 a1 D.a1.2.2.1 us.toArray) (jS k2 t2 a2 D.a2.2.2.2.1 vs.toArray) (jS k3 t3 a3 D.a3.2.2.2.2 ws.toArray) Z pI pO ⟨i1,l1⟩ ⟨i2,l2⟩ ⟨i3,l3⟩ (x:=u) (y:=v) (u:=wv) (by simpa using eu) (by simpa using ev) (by simpa using ew) fun k Z2 pO2 j1 j2 j3 pT szk kp=>wpAny_pure ⟨_,rfl,?_⟩) (F.args_zip_next_1 _))))
  refine wpAny_letOwnedTupleGo_zip (s:={s with heap:=k}) Z2 fun k' Z3 b3=>?_
  have hT:s.heap.objs.size≠z:=Nat.ne_of_gt (Heap.lt_size Z)
  have kp3:∀b o,b∉[z,ti,to,t1,t2,t3]→s.heap.get? b=some o→k'.get? b=some o:=fun b o hb e=>by
   simp only[List.mem_cons,not_or,List.not_mem_nil,not_false_eq_true,and_true]at hb
   exact b3.extBut _ _ hb.1 (kp b o hb.1 hb.2.2.1 hb.2.2.2.1 hb.2.2.2.2.1 hb.2.2.2.2.2 e)
  refine⟨.ref s.heap.objs.size,upd H s.heap.objs.size (.tup [x,y,zz]),BB (s:=s) (tk:=s.toks) I hf kp3 (Nat.le_refl _) ?_,rfl,⟨s.heap.objs.size,x,y,zz,I.aT.fresh (Nat.le_refl _),rfl,rfl,?_,?_,?_⟩,?_,?_⟩
  · refine⟨Nat.le_of_ble_eq_true rfl,[u,v,wv],.cons ru (.cons rv (.cons rw' .nil)),?_⟩
    exact⟨_,b3.extBut _ _ hT pT,rfl,_,rfl⟩
  · intro xs' q'
    rw[my I q' q1];exact ex
  · intro ys' q'
    rw[my I q' q2];exact ey
  · intro zs' q'
    rw[my I q' q3];exact ez
  · refine⟨Z3,b3.extBut _ _ n1 (kp _ _ n1 n5 n6 n7 n7' pI),⟨_,_,_,b3.extBut _ _ n2 pO2⟩,iD j1.1 fun o e=>b3.extBut _ _ n3 e,iD j2.1 fun o e=>b3.extBut _ _ n4 e,iD j3.1 fun o e=>b3.extBut _ _ n4' e⟩
  · intro b hb
    have:b≠s.heap.objs.size:=by
     obtain⟨o,e,_⟩:∃o,s.heap.get? b=some o∧True:=by
      simp only[List.mem_cons,List.not_mem_nil,or_false]at hb
      rcases hb with rfl|rfl|rfl|rfl|rfl|rfl
      · exact⟨_,Z,trivial⟩
      · exact⟨_,pI,trivial⟩
      · exact⟨_,pO,trivial⟩
      · obtain⟨o,e,_⟩:=gW i1;exact⟨o,e,trivial⟩
      · obtain⟨o,e,_⟩:=gW i2;exact⟨o,e,trivial⟩
      · obtain⟨o,e,_⟩:=gW i3;exact⟨o,e,trivial⟩
     exact Nat.ne_of_lt (Heap.lt_size e)
    rw[L2.aC this]
    exact(hf b hb).1
 done:=by
  intro X hP hw hK hc i pins s σ H E I hf st hg
  subst hP hw hK
  obtain⟨Z,pI,⟨a,b',c',pO⟩,i1,i2,i3⟩:=st
  obtain⟨xs,ys,zs,q1,q2,q3,he⟩:=hg
  obtain⟨us,r1,l1⟩:=fD I q1
  obtain⟨vs,r2,l2⟩:=fD I q2
  obtain⟨ws,r3,l3⟩:=fD I q3
  have e1:=r1.length
  have e2:=r2.length
  have e3:=r3.length
  have tz:s.TypeIs (.ref z) "zip":=⟨_,Z,rfl⟩
  unfold pyNext
  refine wpAny_bind (wpAny_attempt (wpAny_callSpecial?_slot (name:=Str.ofString "__next__") tz F.slot_zip_next (wpAny_call_entry F.slot_zip_next tz F.entry_zip_next (Al (I.ok.hd hc) D (jS k1 t1 a1 D.a1.2.2.1 us.toArray) (jS k2 t2 a2 D.a2.2.2.2.1 vs.toArray) (jS k3 t3 a3 D.a3.2.2.2.2 ws.toArray) Z pI pO ⟨i1,l1⟩ ⟨i2,l2⟩ ⟨i3,l3⟩ ?_ fun k e kp hx=>?_) (F.args_zip_next_1 _))))
  · rcases he with h|h|h
    · left;simp;omega
    · right;left;simp;omega
    · right;right;simp;omega
  · obtain⟨o,ho,hc2⟩:=hx
    refine wpAny_bind (wpAny_isInstance (T:="StopIteration") (b:=true) ⟨o,ho,hc2⟩ isSubtype_stop ?_)
    refine wpAny_pure ⟨rfl,BO (s:=s) (tk:=s.toks) I hf fun b o hb e=>?_⟩
    simp only[List.mem_cons,not_or,List.not_mem_nil,not_false_eq_true,and_true]at hb
    exact kp b o hb.1 hb.2.2.1 hb.2.2.2.1 hb.2.2.2.2.1 hb.2.2.2.2.2 e
 self:=fun _ _ _ _ _ st h=>wpAny_pyIter_zip st.1 h
end L3
namespace L3
open PySem L2
open PySem.Spec hiding items?
open PyProof.Rows hiding St
theorem si(a b c:Value):checkTypeCall "zip" ⟨[a,b,c],[]⟩=pure ():=by kernel_rfl
theorem td(a b c:Value):checkBuiltinCall "zip.__new__" ⟨[.type "zip",a,b,c],[]⟩=pure ():=by kernel_rfl
theorem nM(a b c d:Value):argsOk "object.__init__" ⟨[a,b,c,d],[]⟩:=by
 unfold argsOk;rw[signature?_of (id:="object.__init__") (n:=['_','_','t','i','n','i','_','_']) (o:=['t','c','e','j','b','o']) (by kernel_rfl) F.owner_object];kernel_rfl
noncomputable abbrev Cd(h:Heap)(k1 k2 k3:SK)(a1 a2 a3:Addr):Heap:=(sL h k1 k2 a1 a2).push (lK k3 a3)
noncomputable abbrev Cf(h:Heap)(k1 k2 k3:SK)(a1 a2 a3:Addr):Heap:=(Cd h k1 k2 k3 a1 a2 a3).push {cls:= .type "tuple",data:= .seq #[.ref h.objs.size,.ref (uJ h k1 a1).objs.size,.ref (sL h k1 k2 a1 a2).objs.size]}
noncomputable abbrev BW(h:Heap)(k1 k2 k3:SK)(a1 a2 a3:Addr):Heap:=(Cf h k1 k2 k3 a1 a2 a3).push {cls:= .type "tuple",data:= .seq #[.none,.none,.none]}
noncomputable abbrev uz(h:Heap)(k1 k2 k3:SK)(a1 a2 a3:Addr):Heap:=(BW h k1 k2 k3 a1 a2 a3).push {cls:= .type "zip",data:= .fields #[.none,.bool false,.bool false,.ref (Cd h k1 k2 k3 a1 a2 a3).objs.size,.ref (Cf h k1 k2 k3 a1 a2 a3).objs.size]}
theorem xg(k1 k2 k3:SK)(a1 a2 a3:Addr)(us vs ws:Array Value):Meets (Builtin.«zip.__new__» ⟨[.type "zip",.ref a1,.ref a2,.ref a3],[]⟩) (fun _ R s=>gp k1 s.heap a1 us∧gp k2 s.heap a2 vs∧gp k3 s.heap a3 ws∧
 R (.ok (.ret (.ref (BW s.heap k1 k2 k3 a1 a2 a3).objs.size))) {s with heap:=uz s.heap k1 k2 k3 a1 a2 a3}):=
 .of_wp fun P w A R s h=>by
  obtain⟨hp,g,d,tk,os⟩:=s
  obtain⟨c1,c2,c3,h⟩:=h
  have hsub:=sub_zip
  have L1:gp k1 (Shared.heap ⟨hp,g,d,tk,os⟩) a1 us:=c1
  have L2:gp k2 (Shared.heap ⟨hp.push (lK k1 a1),g,d,tk,os⟩) a2 vs:=gp.push c2 _
  have L3:gp k3 (Shared.heap ⟨(hp.push (lK k1 a1)).push (lK k2 a2),g,d,tk,os⟩) a3 ws:=gp.push (gp.push c3 _) _
  wp_walk using nG L1,nG L2,nG L3
  exact⟨_,rfl,h⟩
theorem yw{P:Program}{w:World}{A:Around}{s:Shared}{E:Value→Shared→Prop}{k1 k2 k3:SK}{a1 a2 a3:Addr}{us vs ws:Array Value}{Q:Value→Shared→Prop}(c1:gp k1 s.heap a1 us)(c2:gp k2 s.heap a2 vs)(c3:gp k3 s.heap a3 ws)
 (q:∀g n,n=s.heap.objs.size→IsZip g (n+5) (n+3) (n+4) .none→eO g (n+3) (.ref n) (.ref (n+1)) (.ref (n+2))→eO g (n+4) .none .none .none→kH k1 n a1 0 g→kH k2 (n+1) a2 0 g→kH k3 (n+2) a3 0 g→(∀c o,s.heap.get? c=some o→g.get? c=some o)→Q (.ref (n+5)) {s with heap:=g}):
 wpAny (model P w) A (call (.type "zip") [.ref a1,.ref a2,.ref a3]) Q E s:=by
 refine callType_new F.called_zip (by decide) (si _ _ _) (td _ _ _) (fun ob=>nM ob _ _ _) F.entry_zip_new (xg k1 k2 k3 a1 a2 a3 us vs ws) ⟨c1,c2,c3,?_⟩
 have y1:(uJ s.heap k1 a1).objs.size=s.heap.objs.size+1:=Heap.size_push ..
 have y2:(sL s.heap k1 k2 a1 a2).objs.size=s.heap.objs.size+2:=by rw[Heap.size_push,y1]
 have y3:(Cd s.heap k1 k2 k3 a1 a2 a3).objs.size=s.heap.objs.size+3:=by rw[Heap.size_push,y2]
 have y4:(Cf s.heap k1 k2 k3 a1 a2 a3).objs.size=s.heap.objs.size+4:=by rw[Heap.size_push,y3]
 have y5:(BW s.heap k1 k2 k3 a1 a2 a3).objs.size=s.heap.objs.size+5:=by rw[Heap.size_push,y4]
 have e6:(uz s.heap k1 k2 k3 a1 a2 a3).get? (BW s.heap k1 k2 k3 a1 a2 a3).objs.size=some _:=Heap.get?_push_size _ rfl
 have e5:(uz s.heap k1 k2 k3 a1 a2 a3).get? (Cf s.heap k1 k2 k3 a1 a2 a3).objs.size=some _:=Heap.get?_push_of_some _ (Heap.get?_push_size _ rfl)
 have e4:(uz s.heap k1 k2 k3 a1 a2 a3).get? (Cd s.heap k1 k2 k3 a1 a2 a3).objs.size=some _:=Heap.get?_push_of_some _ (Heap.get?_push_of_some _ (Heap.get?_push_size _ rfl))
 have e3:(uz s.heap k1 k2 k3 a1 a2 a3).get? (sL s.heap k1 k2 a1 a2).objs.size=some (lK k3 a3):=Heap.get?_push_of_some _ (Heap.get?_push_of_some _ (Heap.get?_push_of_some _ (Heap.get?_push_size _ (by cases k3<;>rfl))))
 have e2:(uz s.heap k1 k2 k3 a1 a2 a3).get? (uJ s.heap k1 a1).objs.size=some (lK k2 a2):=Heap.get?_push_of_some _ (Heap.get?_push_of_some _ (Heap.get?_push_of_some _ (Heap.get?_push_of_some _ (Heap.get?_push_size _ (by cases k2<;>rfl)))))
 have e1:(uz s.heap k1 k2 k3 a1 a2 a3).get? s.heap.objs.size=some (lK k1 a1):=Heap.get?_push_of_some _ (Heap.get?_push_of_some _ (Heap.get?_push_of_some _ (Heap.get?_push_of_some _ (Heap.get?_push_of_some _ (Heap.get?_push_size _ (by cases k1<;>rfl))))))
 show _∧_
 rw[y3,y4,y5]at e6
 rw[y1,y2,y3]at e4
 rw[y4]at e5
 rw[y2]at e3
 rw[y1]at e2
 rw[y5]
 exact⟨⟨_,e6,rfl⟩,q _ _ rfl e6 e4 e5 (mn (h:=s.heap) e1) (mn (h:=s.heap) e2) (mn (h:=s.heap) e3) fun c o x=>Heap.get?_push_of_some _ (Heap.get?_push_of_some _ (Heap.get?_push_of_some _ (Heap.get?_push_of_some _ (Heap.get?_push_of_some _ (Heap.get?_push_of_some _ x)))))⟩
noncomputable def ff:List D→List D→List D→List D
 |x::xs,y::ys,z::zs=> .tup [x,y,z]::ff xs ys zs
 |_,_,_=>[]
theorem sT:∀ {xs ys zs:List D},(ff xs ys zs).length=min xs.length (min ys.length zs.length)
 | [],_,_=>by unfold ff;simp
 |_::_,[],_=>by unfold ff;simp
 |_::_,_::_,[]=>by unfold ff;simp
 |x::xs,y::ys,z::zs=>by unfold ff;rw[List.length_cons,sT];simp only[List.length_cons];omega
theorem oh:∀ {xs ys zs:List D} {n:Nat} {d:D},(ff xs ys zs)[n]?=some d→∃x y z,xs[n]?=some x∧ys[n]?=some y∧zs[n]?=some z∧d= .tup [x,y,z]
 | [],_,_,_,_,e=>by unfold ff at e;cases e
 |_::_,[],_,_,_,e=>by unfold ff at e;cases e
 |_::_,_::_,[],_,_,e=>by unfold ff at e;cases e
 |x::xs,y::ys,z::zs,0,d,e=>by
  unfold ff at e
  rw[List.getElem?_cons_zero]at e
  cases e
  exact⟨x,y,z,rfl,rfl,rfl,rfl⟩
 |x::xs,y::ys,z::zs,n+1,d,e=>by
  unfold ff at e
  rw[List.getElem?_cons_succ]at e
  obtain⟨a,b,c,h1,h2,h3,h4⟩:=oh e
  exact⟨a,b,c,by rw[List.getElem?_cons_succ];exact h1,by rw[List.getElem?_cons_succ];exact h2,by rw[List.getElem?_cons_succ];exact h3,h4⟩
theorem DH{K:PySem.W.Frag}{k1 k2 k3:SK}{a1 a2 a3:Addr}{α:List (Option Addr)}{G:Hp}{ok:ae→Prop}{xs ys zs:List D}
 (h:∀α' G' st',Step α G α' G'→aU α' st' G'→ok st'→∃vs ws us,uN k1 G' a1 vs∧uN k2 G' a2 ws∧uN k3 G' a3 us∧aG α' G' xs vs∧aG α' G' ys ws∧aG α' G' zs us):qc (GK K k1 k2 k3 a1 a2 a3) α G ok (ff xs ys zs) where
 stop:=fun n α' G' F' H' st' s P S o hn=>by
  obtain⟨vs,ws,us,h1,h2,h3,r1,r2,r3⟩:=h α' G' st' s S o
  rw[sT]at hn
  refine⟨vs,ws,us,eX P h1,eX P h2,eX P h3,?_⟩
  have:=r1.length
  have:=r2.length
  have:=r3.length
  omega
 go:=fun n d α' G' F' H' st' s P S o hn=>by
  obtain⟨vs,ws,us,h1,h2,h3,r1,r2,r3⟩:=h α' G' st' s S o
  obtain⟨x,y,z,ex,ey,ez,rfl⟩:=oh hn
  obtain⟨v,ev,_⟩:=r1.get ex
  obtain⟨u,eu,_⟩:=r2.get ey
  obtain⟨t,et,_⟩:=r3.get ez
  exact⟨vs,ws,us,v,u,t,eX P h1,eX P h2,eX P h3,ev,eu,et⟩
 lL:=fun n d α' G' F' H' st' x H'' s P S o hn y=>by
  obtain⟨vs,ws,us,h1,h2,h3,r1,r2,r3⟩:=h α' G' st' s S o
  obtain⟨c,e,f,ec,ee,ef,rfl⟩:=oh hn
  obtain⟨T,v,u,t,hT,rfl,rfl,y1,y2,y3⟩:=y
  obtain⟨v',ev,rv⟩:=r1.get ec
  obtain⟨u',eu,ru⟩:=r2.get ee
  obtain⟨t',et,rt⟩:=r3.get ef
  rw[y1 vs (eX P h1)]at ev
  rw[y2 ws (eX P h2)]at eu
  rw[y3 us (eX P h3)]at et
  cases ev
  cases eu
  cases et
  have hg:=(P.none hT).1
  refine⟨L2.upd G' T (.tup [v,u,t]),Step.laid hg,P.laid hT,S.laid hg,?_⟩
  unfold Rep
  refine⟨T,[v,u,t],rfl,S.lN hg,br,?_⟩
  unfold aG
  refine⟨v,[u,t],rfl,rv.step (Step.laid hg),?_⟩
  unfold aG
  refine⟨u,[t],rfl,ru.step (Step.laid hg),?_⟩
  unfold aG
  exact⟨t,[],rfl,rt.step (Step.laid hg),by unfold aG;rfl⟩
noncomputable def yc(ds:List D)(st1:ae)(K:List D→(ae→Prop)→ae→Prop):Prop:=match ds with
 | [x,y,z]=>(match items? st1 x,items? st1 y,items? st1 z with
   |some xs,some ys,some zs=>K (ff xs ys zs) (fun st'=>items? st' x=some xs∧items? st' y=some ys∧items? st' z=some zs) st1
   |_,_,_=>False)
 |_=>False
@[irreducible] noncomputable def nN:List D→ae→(List D→(ae→Prop)→ae→Prop)→Prop:=yc
noncomputable def ym(t:DA):DI:=fun σ st K=>t σ st fun ds st1=>nN ds st1 K
theorem D_{n a1 a2 a3:Nat}(h1:a1<n)(h2:a2<n)(h3:a3<n):Cs (n+5) (n+3) (n+4) n (n+1) (n+2) a1 a2 a3:=⟨by omega,by omega,by omega,by omega⟩
theorem vals3{vs:List V}{us:List Value}{a b c:V}(h:Vals vs us)(e:vs=[a,b,c]):∃u v w,us=[u,v,w]∧RelV a u∧RelV b v∧RelV c w:=by
 subst e
 cases h with
 |cons p q=>
  cases q with
  |cons p' q'=>
   cases q' with
   |cons p'' q''=>
    cases q''
    exact⟨_,_,_,rfl,p,p',p''⟩
theorem Dy{X:Cx}{a b c:Expr}{elts:List Expr}{kx:Nat}{tpos p pos:Pos}{t:DA}(hg:Gl X "zip")(hm:X.mg "zip"=none)(ha:PA X [a,b,c] (LA t))(hs:starEach [a,b,c] X.env=(false,eval a X.env)::starEach [b,c] X.env)(hs2:starEach [b,c] X.env=[(false,eval b X.env),(false,eval c X.env)]):
 PI X (.Tuple elts kx tpos) (.Call (.Name "zip" p) [a,b,c] [] pos) (LI (ym t)):=by
 intro pins s σ H R I h
 obtain⟨α,σd,st,K,G,F,P,RS,S,t,k⟩:=h
 refine Call_ (kM I hg hm boot_zip (PyProof.Rows.callWith_type1 (bD (ha pos pins s σ H (fun vs H1=>∃ds α1 G1 st1,Step α G α1 G1∧cm G1 F H1∧aU α1 st1 G1∧aG α1 G1 ds vs∧nN ds st1 K) I ⟨α,σd,st,_,G,F,P,RS,S,t,fun ds st1 q α1 G1 H1 vs s1 P1 S1 r1=>⟨ds,α1,G1,st1,s1,P1,S1,r1,q⟩⟩) fun us s1 ⟨vs,H1,I1,rv,ds,α1,G1,st1,w1,P1,S1,r1,q⟩=>?_) hs (by rw[hs2];rfl)))
 unfold nN yc at q
 split at q
 · rename_i x y z
   split at q
   · rename_i xs ys zs ex ey ez
     obtain⟨v1,v2,v3,rfl,q1,q2,q3⟩:=xy r1 rfl
     obtain⟨p1,vs1,rfl,g1,c1⟩:=gS S1 q1 ex
     obtain⟨p2,vs2,rfl,g2,c2⟩:=gS S1 q2 ey
     obtain⟨p3,vs3,rfl,g3,c3⟩:=gS S1 q3 ez
     obtain⟨u1,u2,u3,rfl,ru1,ru2,ru3⟩:=vals3 rv rfl
     cases ru1
     cases ru2
     cases ru3
     obtain⟨its1,_,l1⟩:=fD I1 (eX P1 c1)
     obtain⟨its2,_,l2⟩:=fD I1 (eX P1 c2)
     obtain⟨its3,_,l3⟩:=fD I1 (eX P1 c3)
     refine yw l1 l2 l3 fun g n hn Z pI pO i1 i2 i3 kp=>?_
     obtain⟨o1,eo1⟩:=l1.some
     obtain⟨o2,eo2⟩:=l2.some
     obtain⟨o3,eo3⟩:=l3.some
     refine wpAny_pyIter_zip (s:={s1 with heap:=g}) Z ?_
     refine⟨n+5,[n+5,n+3,n+4,n,n+1,n+2],_,_,H1,rfl,I1.kept (t':=s1.toks) kp,zO (wM x) (wM y) (wM z) (D_ (by rw[hn];exact Heap.lt_size eo1) (by rw[hn];exact Heap.lt_size eo2) (by rw[hn];exact Heap.lt_size eo3)),⟨Z,pI,⟨_,_,_,pO⟩,i1,i2,i3⟩,fun b hb=>?_,?_⟩
     · have hb':s1.heap.objs.size≤b:=by
        simp only[List.mem_cons,List.not_mem_nil,or_false]at hb
        rcases hb with rfl|rfl|rfl|rfl|rfl|rfl<;>(rw[←hn];first|exact Nat.le_refl _|exact Nat.le_add_right _ _)
       exact I1.pZ hb' (I1.aT.fresh hb')
     · refine k _ _ st1 q _ α1 G1 H1 w1 P1 S1 (DH fun α' G' st' s' S' o=>?_)
       obtain⟨p1',ws1,e1,f1,d1⟩:=gS S' (q1.step s') o.1
       obtain⟨p2',ws2,e2,f2,d2⟩:=gS S' (q2.step s') o.2.1
       obtain⟨p3',ws3,e3,f3,d3⟩:=gS S' (q3.step s') o.2.2
       cases e1
       cases e2
       cases e3
       exact⟨ws1,ws2,ws3,d1,d2,d3,f1,f2,f3⟩
   · exact q.elim
 · exact q.elim
theorem CP{st:ae}{x y z:D}{xs ys zs:List D}{K:List D→(ae→Prop)→ae→Prop}(ex:items? st x=some xs)(ey:items? st y=some ys)(ez:items? st z=some zs)(k:∀ok:ae→Prop,(∀st',items? st' x=some xs→items? st' y=some ys→items? st' z=some zs→ok st')→K (ff xs ys zs) ok st):nN [x,y,z] st K:=by
 unfold nN yc
 simp only[ex,ey,ez]
 exact k _ fun st' h1 h2 h3=>⟨h1,h2,h3⟩
theorem FI{X:Cx}{a b c:Expr}{elts:List Expr}{kx:Nat}{tpos p pos:Pos}{ar:DA}(hg:Gl X "zip")(hm:X.mg "zip"=none)(ha:JA X [a,b,c] ar)(hs:notStar a=true:=by rfl)(hs2:notStar b=true:=by rfl)(hs3:notStar c=true:=by rfl):JI X (.Tuple elts kx tpos) (.Call (.Name "zip" p) [a,b,c] [] pos) (ym ar):=by
 unfold JI;unfold JA at ha;exact Dy hg hm ha (cv hs) (by rw[cv hs2,cv hs3];rfl)
noncomputable def zW:DS:=fun _ _ _=>False
theorem Bu{X:Cx}{s:Stmt}:JS X s zW:=by
 unfold JS
 intro pins s σ H D I h
 obtain⟨α,σd,st,DD,G,F,P,R,S,q,k⟩:=h
 exact q.elim
end L3
namespace L3
open PySem L2
open PySem.Spec hiding items?
open PyProof.Rows hiding St
section
variable {X:Cx}
noncomputable def tI:di:=fun x y st K=>match x,y with
 | .ref n,.lst ys=>(match st[n]? with|some (.lst xs)=>xs.length+ys.length≤sizeLine∧K (.lst (xs++ys)) st|_=>False)
 |_,_=>False
theorem EX:bR X (binaryOp .Add) (LR tI):=fun pins s σ H x y v u Q I rx ry ⟨α,d,e,st,K,G,F',P,r1,r2,S,q,k⟩=>by
 cases d<;>cases e<;>try exact q.elim
 rename_i n ys
 unfold tI at q
 simp only at q
 split at q
 · rename_i xs e
   obtain⟨a,ea,vs,h1,h2⟩:=S.g5 e
   have r1':=d7 ea r1
   subst r1'
   unfold Rep at r2
   obtain⟨b,ws,rfl,nb,hb,rb⟩:=r2
   refine rX pins s σ H _ _ v u Q I rx ry ⟨a,b,vs,ws,rfl,rfl,.of (P.get h1),fK P hb,by rw[←h2.length,←rb.length];exact q.1,fun p hp=>?_⟩
   exact k.lst P q.2 S (aR.mpr (d9 (aR.mp h2) (aR.mp rb))) hp
 · exact q.elim
@[irreducible] noncomputable def oV:di:=tI
theorem Gp:bR X (binaryOp .Add) (LR oV):=by unfold oV;exact EX
end
theorem Dg{st:ae}{K:DK}{n:Nat}{xs ys:List D}(e:st[n]?=some (.lst xs))(h:xs.length+ys.length≤sizeLine)(k:K (.lst (xs++ys)) st):oV (.ref n) (.lst ys) st K:=by unfold oV tI;simp only[e];exact⟨h,k⟩
end L3
namespace L3
open PySem L2
open PySem.Spec hiding items?
open PyProof.Rows hiding St
open Sem (wp)
section
variable {prog:Program}{w:World}{A:Around}{s:Shared}{E:Value→Shared→Prop}
end
section
variable {prog:Program}{w:World}{A:Around}{R:Result→Shared→Prop}{I:Addr}{fp wr:List Addr}{G:Array GenState→Array GenState→Prop}{n:Nat}{P:Nat→Value→Prop}{Sx:Nat→Shared→Prop}
end
section
variable {prog:Program}{w:World}{A:Around}{E:Value→Shared→Prop}{s:Shared}
end
section
variable {X:Cx}{pins:List (Addr×Obj)}{σ:L2.St}{H:Hp}{s:Shared}{α:List (Option Addr)}
end
end L3
namespace L3
open PySem L2
open PySem.Spec hiding items?
open PyProof.Rows hiding St
section
variable {X:Cx}
noncomputable def tE:gf:=fun ds st K=>match ds with| [.lst xs]=>(match kb xs with|some bs=>K (.bl (bs.any id)) st|none=>False)|_=>False
theorem range_any{α:Type}(l:List α)(f:α→Bool)(tr:Nat→Bool)(h:∀i x,l[i]?=some x→tr i=f x):(List.range l.length).any tr=l.any f:=by
 induction l generalizing tr with
 |nil=>rfl
 |cons a l ih=>
  rw[List.length_cons,List.range_succ_eq_map,List.any_cons,List.any_cons,List.any_map,h 0 a rfl]
  congr 1
  exact ih (tr∘Nat.succ) fun i x e=>h (i+1) x (by simpa using e)
theorem Hq(hc:X.calm=true):cn X (.builtin "any") (ij tE):=fun pins s σ H xs us Q I rs ⟨α,ds,st,K,G,F',P,r,S,q,k⟩=>by
 unfold tE at q
 split at q
 · rename_i ys
   split at q
   · rename_i bs e
     obtain⟨v,rfl,r1⟩:=jy r rfl
     unfold Rep at r1
     obtain⟨a,vs,rfl,na,h1,h2⟩:=r1
     obtain⟨u,rfl,ru⟩:=vals1 rs
     cases ru
     have hv:=qx h2 e
     subst hv
     obtain⟨z,its,n,rv,hl,eo⟩:=Inv.rJ I (fK P h1)
     have hits:=qS rv
     subst hits
     have isL:s.heap.IsList a (bs.map Value.bool).toArray:=⟨_,eo,rfl,n,rfl⟩
     refine call_any_walk (wpAny_pyIter_list isL ?_)
     have hne:a≠s.heap.objs.size:=Nat.ne_of_lt (Heap.lt_size eo)
     refine⟨s.heap.objs.size,_,_,_,_,_,fun i=>(bs[i]?).getD true,rfl,Walks.list (A:=X.A.in1) (I.ok.hd hc) _ a hne (bs.map Value.bool).toArray,⟨⟨_,Heap.get?_push_size _ rfl,rfl,rfl⟩,⟨_,Heap.get?_push_of_some _ eo,rfl,n,rfl⟩⟩,?_,?_⟩
     · intro i w s' Q' E' hP hQ
       rw[List.getElem?_toArray,List.getElem?_map]at hP
       cases zb:bs[i]? with
       |none=>rw[zb]at hP;cases hP
       |some b=>
        rw[zb]at hP
        cases hP
        simp only[zb]at hQ
        exact wpAny_truthy_bool hQ
     · intro h' tk hk
       have kp:∀b o,s.heap.get? b=some o→h'.get? b=some o:=fun b o q=>hk b o (by
        intro hb
        have:b=s.heap.objs.size:=by simpa using hb
        exact absurd (Heap.lt_size q) (by rw[this];exact Nat.lt_irrefl _)) (Heap.get?_push_of_some _ q)
       have ea:(List.range (bs.map Value.bool).toArray.size).any (fun i=>(bs[i]?).getD true)=bs.any id:=by
        rw[List.size_toArray,List.length_map]
        exact range_any bs id _ fun i x e=>by rw[e];rfl
       rw[ea]
       exact⟨.bl (bs.any id),H,I.kept (t':=tk) kp,rfl,k.here P q S (by unfold Rep;rfl)⟩
   · exact q.elim
 · exact q.elim
@[irreducible] noncomputable def uX:gf:=tE
theorem HD(hc:X.calm=true):cn X (.builtin "any") (ij uX):=by unfold uX;exact Hq hc
end
theorem GQ{st:ae}{K:DK}{xs:List D}{bs:List Bool}(h:kb xs=some bs)(k:K (.bl (bs.any id)) st):uX [.lst xs] st K:=by unfold uX tE;simp only[h];exact k
end L3
namespace L3
open PySem L2
open PySem.Spec hiding items?
open PyProof.Rows hiding St
noncomputable def putD(f:Str)(v:D):List (Str×D)→List (Str×D)
 | []=>[(f,v)]
 |(g,x)::r=>if g=f then(g,v)::r else(g,x)::putD f v r
theorem iW.look{α:List (Option Addr)}{H:Hp}{f:Str}{v:D}:∀ {fs:List (Str×D)} {vs:List (Str×V)},iW α H fs vs→fs.lookup f=some v→∃u,vs.lookup f=some u∧Rep α H v u
 | [],_,_,e=>by cases e
 |(g,x)::fs,_,.cons (b:=q) h t,e=>by
  obtain⟨g',y⟩:=q
  obtain⟨h1,h2⟩:=h
  simp only at h1 h2
  subst h1
  rw[List.lookup_cons]at e⊢
  cases hb:f==g with
  |true=>rw[hb]at e;cases e;exact⟨y,rfl,h2⟩
  |false=>rw[hb]at e;exact iW.look t e
theorem iW.none{α:List (Option Addr)}{H:Hp}{f:Str}:∀ {fs:List (Str×D)} {vs:List (Str×V)},iW α H fs vs→fs.lookup f=Option.none→vs.lookup f=Option.none
 | [],_,.nil,_=>rfl
 |(g,x)::fs,_,.cons (b:=q) h t,e=>by
  obtain⟨g',y⟩:=q
  obtain⟨h1,h2⟩:=h
  simp only at h1 h2
  subst h1
  rw[List.lookup_cons]at e⊢
  cases hb:f==g with
  |true=>rw[hb]at e;cases e
  |false=>rw[hb]at e;exact iW.none t e
theorem iW.put{α:List (Option Addr)}{H:Hp}{f:Str}{d:D}{v:V}(r:Rep α H d v):∀ {fs:List (Str×D)} {vs:List (Str×V)},iW α H fs vs→iW α H (putD f d fs) (gu f v vs)
 | [],_,.nil=> .cons ⟨rfl,r⟩ .nil
 |(g,x)::fs,_,.cons (b:=q) h t=>by
  obtain⟨g',y⟩:=q
  obtain⟨h1,h2⟩:=h
  simp only at h1 h2
  subst h1
  unfold putD gu
  by_cases hb:g=f
  · rw[if_pos hb,if_pos hb];exact .cons ⟨rfl,r⟩ t
  · rw[if_neg hb,if_neg hb];exact .cons ⟨rfl,h2⟩ (iW.put r t)
noncomputable def AD(C:Addr)(f:Str)(d:D)(st:ae)(K:DK):Prop:=match d with
 | .ref n=>(match st[n]? with|some (.ins C' fs)=>C'=C∧∃v,fs.lookup f=some v∧K v st|_=>False)
 |_=>False
@[irreducible] noncomputable def xv(C:Addr)(f:Str):D→ae→DK→Prop:=AD C f
noncomputable def dj(C:Addr)(f:Str)(te:DE):DE:=fun σ st K=>te σ st fun d st1=>xv C f d st1 K
theorem bW{C:Addr}{f:Str}{n:Nat}{st:ae}{K:DK}{fs:List (Str×D)}{v:D}(e:st[n]?=some (.ins C fs))(h:fs.lookup f=some v)(k:K v st):xv C f (.ref n) st K:=by
 unfold xv AD;simp only[e];exact⟨trivial,v,h,k⟩
noncomputable def yj(C:Addr)(f:Str)(x d:D)(st:ae)(K:ae→Prop):Prop:=match x with
 | .ref n=>(match st[n]? with|some (.ins C' fs)=>C'=C∧fs.length<1000∧K (st.set n (.ins C (putD f d fs)))|_=>False)
 |_=>False
@[irreducible] noncomputable def tG(C:Addr)(f:Str):D→D→ae→(ae→Prop)→Prop:=yj C f
noncomputable def jU(C:Addr)(f:Str)(to te:DE):DS:=fun D σ st=>te σ st fun d st1=>to σ st1 fun x st2=>tG C f x d st2 fun st3=>D.nx σ st3
theorem i6{C:Addr}{f:Str}{n:Nat}{d:D}{st:ae}{K:ae→Prop}{fs:List (Str×D)}(e:st[n]?=some (.ins C fs))(h:fs.length<1000)(k:K (st.set n (.ins C (putD f d fs)))):tG C f (.ref n) d st K:=by
 unfold tG yj;simp only[e];exact⟨trivial,h,k⟩
noncomputable def tJ(C:Addr)(m:Str)(x:D)(st:ae)(k:Prop):Prop:=match x with
 | .ref n=>(match st[n]? with|some (.ins C' fs)=>C'=C∧fs.lookup m=none∧k|_=>False)
 |_=>False
@[irreducible] noncomputable def qA(C:Addr)(m:Str):D→ae→Prop→Prop:=tJ C m
theorem fw{C:Addr}{m:Str}{n:Nat}{st:ae}{k:Prop}{fs:List (Str×D)}(e:st[n]?=some (.ins C fs))(h:fs.lookup m=none)(q:k):qA C m (.ref n) st k:=by
 unfold qA tJ;simp only[e];exact⟨trivial,h,q⟩
noncomputable def e8(C:Addr)(m:Str)(S:cY)(to:DE)(t:DA):DE:=fun σ st K=>to σ st fun x st1=>qA C m x st1 (t σ st1 fun ds st2=>S (x::ds) st2 K)
noncomputable def tS(C:Addr)(S:cY)(t:DA):DE:=fun σ st K=>t σ st fun ds st1=>S (.ref st1.length::ds) (st1++[.ins C []]) fun r st2=>r= .aP∧K (.ref st1.length) st2
section
variable {X:Cx}{C f g:Addr}{fd:FuncData}{k:Nat}{x m fl:Str}{e o value:Expr}{es:List Expr}{p pos pos' apos:Pos}{te to:DE}{t:DA}{S:cY}{ps:List Str}
theorem G_(c:kf X.K C)(na:fy X.K C fl)(he:PE X e (LE te))(hb:attributeBase e fl X.env (eval e X.env)=eval e X.env):PE X (.Attribute e fl pos) (LE (dj C fl te)):=PE.imp (Gw he hb) fun σ H Q ⟨α,σd,st,K,G,F,P,R,S,t,k⟩=>by
 refine⟨α,σd,st,_,G,F,P,R,S,t,fun d st1 q α1 G1 H1 v s1 P1 S1 r1=>?_⟩
 unfold xv AD at q
 cases d<;>try exact q.elim
 simp only at q
 split at q
 · rename_i C' fs e'
   obtain⟨rfl,w,hw,q⟩:=q
   obtain⟨a,ea,dx,vs,h1,h2⟩:=S1.qM e'
   have r1':=d7 ea r1
   subst r1'
   obtain⟨u,hu,ru⟩:=h2.look hw
   exact⟨a,_,dx,vs,u,rfl,P1.get h1,c,na,hu,(k.at s1).here P1 q S1 ru⟩
 · exact q.elim
theorem Fw(c:kf X.K C)(na:fy X.K C fl)(ho:PE X o (LE to))(hv:PE X value (LE te))(hs:swapsWith value (some (.Attribute o fl pos')) pos.line X.env=pure false):PS X (.Assign [.Attribute o fl pos'] value pos) (LS (jU C fl to te)):=PS.imp (Fx ho hv hs) fun D σ H ⟨α,σd,st,DD,G,F,P,R,S,t,k⟩=>by
 refine⟨α,σd,st,_,G,F,P,R,S,t,fun d st1 q α1 G1 H1 v s1 P1 S1 r1=>?_⟩
 refine⟨α1,σd,st1,_,G1,F,P1,R.step s1,S1,q,fun x st2 q2 α2 G2 H2 v2 s2 P2 S2 r2=>?_⟩
 unfold tG yj at q2
 cases x<;>try exact q2.elim
 simp only at q2
 split at q2
 · rename_i C' fs e'
   obtain⟨rfl,hl,q2⟩:=q2
   obtain⟨a,ea,dx,vs,h1,h2⟩:=S2.qM e'
   have r2':=d7 ea r2
   subst r2'
   have hm:some a∈α2:=List.mem_of_getElem? ea
   have lv:vs.length<1000:=by rw[←h2.length];exact hl
   refine⟨a,_,dx,vs,rfl,P2.get h1,c,na,lv,?_⟩
   refine((k.nx.at s1).at s2) σd _ q2 α2 (upd G2 a (.ins _ dx (gu fl v vs))) _ σ (Step.write hm) (P2.write h1) (((R.step s1).step s2).step (Step.write hm)) ?_
   exact S2.write ea ⟨dx,gu fl v vs,br,(h2.put (r1.step s2)).step (Step.write hm)⟩
 · exact q2.elim
theorem LE.Hj{σ:L2.St}{H:Hp}{Q:VK}(h:LE (e8 C m S to t) σ H Q):xr C m (aL S) [] E0 (LE to) (LA t) σ H Q:=by
 obtain⟨α,σd,st,K,G,F,P,R,Sr,tt,k⟩:=h
 refine⟨α,σd,st,_,G,F,P,R,Sr,tt,fun d st1 q α1 G1 H1 v s1 P1 S1 r1=>?_⟩
 unfold qA tJ at q
 cases d<;>try exact q.elim
 simp only at q
 split at q
 · rename_i n C' fs e'
   obtain⟨rfl,hl,q⟩:=q
   obtain⟨a,ea,dx,vs,h1,h2⟩:=S1.qM e'
   have r1':=d7 ea r1
   subst r1'
   refine⟨a,dx,vs,rfl,P1.get h1,h2.none hl,?_⟩
   refine⟨α1,σd,st1,_,G1,F,P1,R.step s1,S1,q,fun ds st2 q2 α2 G2 H2 us s2 P2 S2 r2=>?_⟩
   try dsimp only
   rw[List.append_nil]
   exact⟨α2,_,st2,K,G2,F,P2,by unfold aG;exact⟨_,_,rfl,r1.step s2,r2⟩,S2,q2,(k.at s1).at s2⟩
 · exact q.elim
theorem LE.make{σ:L2.St}{H:Hp}{Q:VK}(h:LE (tS C S t) σ H Q):B0 C (aL S) [] E0 (LA t) σ H Q:=by
 obtain⟨α,σd,st,K,G,F,P,R,Sr,tt,k⟩:=h
 refine⟨α,σd,st,_,G,F,P,R,Sr,tt,fun ds st1 q α1 G1 H1 us s1 P1 S1 r1=>?_⟩
 intro x dx hx hdx hne
 have hgd:=(P1.none hdx).1
 have P2:=P1.laid (o:= .own x) hdx
 have S2:=S1.laid (o:= .own x) hgd
 have hx2:upd H1 dx (.own x) x=none:=by rw[aC (Ne.symm hne)];exact hx
 have hg2:=(P2.none hx2).1
 have P3:=P2.laid (o:= .ins C dx []) hx2
 have S3:=S2.cell (o:= .ins C dx []) (c:= .ins C []) hg2 ⟨dx,[],br,.nil⟩
 have s2:Step α1 G1 α1 (upd G1 dx (.own x)):=Step.laid hgd
 have s3:Step α1 (upd G1 dx (.own x)) (α1++[some x]) (upd (upd G1 dx (.own x)) x (.ins C dx [])):=Step.cell hg2
 have rx:Rep (α1++[some x]) (upd (upd G1 dx (.own x)) x (.ins C dx [])) (.ref st1.length) (.ref x):=by
  unfold Rep
  refine .inr ⟨x,?_,rfl⟩
  rw[List.getElem?_append_right (by rw[S1.len];exact Nat.le_refl _),S1.len,Nat.sub_self]
  rfl
 rw[List.append_nil]
 refine⟨α1++[some x],.ref st1.length::ds,st1++[.ins C []],_,_,F,P3,by unfold aG;exact⟨_,_,rfl,rx,(r1.step s2).step s3⟩,S3,q,fun d st2 q2 α' G' H' v s' P' S' r'=>?_⟩
 obtain⟨rfl,q2⟩:=q2
 unfold Rep at r'
 exact⟨r',(((k.at s1).at s2).at s3) _ st2 q2 α' G' H' _ s' P' S' (rx.step s')⟩
end
end L3
namespace L3
open PySem L2
open PySem.Spec hiding items?
open PyProof.Rows hiding St
noncomputable def Fd(a:Int)(n:Nat):It:=⟨fun i _=>i<n,fun i H x H'=>H'=H∧x= .int (a+(i:Nat)*(-1)),fun i _=>n≤i⟩
theorem zP{P:Program}{w:World}{K:PySem.W.Frag}{tg:Expr}(it:Addr)(a:Int)(n:Nat):Turn P w K tg (Fd a n) [it] it (fun i h=>IsRangeIter h it (a+(i:Nat)*(-1)) ((n:Int)-(i:Nat)) (-1)) where
 mem:=by simp
 obj:=fun i h st b hb=>by
  have e:b=it:=by simpa using hb
  subst e
  exact⟨_,st,fun v z=>by
   have z':Data.fields _=Data.cell v:=z
   cases z'⟩
 keep:=fun i h h' st k=>k it (by simp) _ st
 item:=by
  intro X hP hw hK hc i pins s σ H E I hf st hg
  subst hP hw hK
  obtain⟨f0,f1,f2,f3,f4,f5⟩:=hf it (by simp)
  have W:=Walks.range (prog:=X.prog) (w:=X.w) (I.ok.hd hc) it a (-1) n
  refine W.item i s _ _ hg st fun v h' tk hv st' kk=>?_
  obtain⟨t,rfl⟩:=hv
  have I1:Inv X pins σ H {s with heap:=h',toks:=tk}:=I.turned (fun b o hb e=>kk b o (by simpa using hb) e) f0 f1 f3 f4 f5
  exact⟨_,rfl,tX (s:={s with heap:=h',toks:=tk}) (n:="range_iterator") st' rfl rfl (by decide) ⟨.int (a+(i:Nat)*(-1)),H,I1,⟨t,rfl⟩,⟨rfl,rfl⟩,st',fun b hb=>(hf b hb).1⟩⟩
 done:=by
  intro X hP hw hK hc i pins s σ H E I hf st hg
  subst hP hw hK
  obtain⟨f0,f1,f2,f3,f4,f5⟩:=hf it (by simp)
  exact wpAny_pyNext_range_end (I.ok.hd hc) st (by have:n≤i:=hg;omega) fun h' eb=>⟨rfl,I.turned (t':=s.toks) (fun b o hb e=>eb b o hb e) f0 f1 f3 f4 f5⟩
 self:=fun _ _ _ _ _ st h=>wpAny_pyIter_rangeiter st h
theorem sD(a b:Int):Builtin.Range.rangeSize a b (-1)=((a-b).toNat:Int):=by
 unfold Builtin.Range.rangeSize
 rw[if_neg (by decide)]
 have e:(a-b-1)/(- -1:Int)=a-b-1:=by simp
 rw[e]
 split<;>omega
theorem small_down{a b:Int}(ha: -(2^62)≤a)(ha':a<2^62)(hb: -(2^62)≤b)(hb':b<2^62):Builtin.Range.small a b (-1)=true:=by
 unfold Builtin.Range.small
 rw[sD]
 simp only[Builtin.Range.rangeFitsLong,Bool.and_eq_true,Bool.or_eq_true,decide_eq_true_eq,beq_iff_eq,show¬((-1:Int)>0) by decide,if_false]
 omega
noncomputable def BU(ta:TA):TI:=fun σ H R=>ta σ H fun vs H1=>∃i j:Int,vs=[.int i,.int j,.int (-1)]∧(-(2^62)≤i∧i<2^62∧ -(2^62)≤j∧j<2^62)∧R (Fd i (i-j).toNat) H1
section
variable {X:Cx}{tg:Expr}
theorem yY{a b c:Expr}{ta:TA}{p pos:Pos}(hg:Gl X "range")(hm:X.mg "range"=none)(ha:PA X [a,b,c] ta)(hs:notStar a=true:=by rfl)(hs2:notStar b=true:=by rfl)(hs3:notStar c=true:=by rfl):
 PI X tg (.Call (.Name "range" p) [a,b,c] [] pos) (BU ta):=by
 intro pins s σ H R I h
 refine Call_ (kM I hg hm boot_range (PyProof.Rows.callWith_type1 (bD (ha pos pins s σ H _ I h) fun us s1 ⟨vs,H1,I1,r1,q1⟩=>?_) (cv hs) (iO (by simp[fM,hs2,hs3]))))
 obtain⟨i,j,e,⟨q1,q2,q3,q4⟩,q⟩:=q1
 subst e
 cases r1 with
 |cons r rr=>
  cases rr with
  |cons r' rr=>
   cases rr with
   |cons r'' rr=>
    cases rr
    obtain⟨t,rfl⟩:=r
    obtain⟨t',rfl⟩:=r'
    obtain⟨t'',rfl⟩:=r''
    refine call_range_3 (by decide) ?_ (Or.inl (PyProof.noPylong_of_log2 (by decide+kernel)))
    refine wpAny_pyIter_range (IsRange.new ..) (small_down q1 q2 q3 q4) ?_
    have I2:Inv X pins σ H1 {s1 with heap:=s1.heap.push {cls:= .type "range",data:= .fields #[.int i t,.int j t',.int (-1) t'']},toks:=s1.toks}:=I1.kept fun b o e=>Heap.get?_push_of_some _ e
    generalize({s1 with heap:=s1.heap.push {cls:= .type "range",data:= .fields #[.int i t,.int j t',.int (-1) t'']},toks:=s1.toks}:Shared)=s2 at I2⊢
    refine⟨s2.heap.objs.size,[s2.heap.objs.size],_,_,H1,rfl,I2.kept (t':=s2.toks) fun b o e=>Heap.get?_push_of_some _ e,zP _ i (i-j).toNat,?_,fun b hb=>?_,q⟩
    · show IsRangeIter _ _ (i+((0:Nat):Int)*(-1)) ((((i-j).toNat:Nat):Int)-((0:Nat):Int)) (-1)
      have e1:i+((0:Nat):Int)*(-1)=i:=by omega
      have e2:(((i-j).toNat:Nat):Int)-((0:Nat):Int)=Builtin.Range.rangeSize i j (-1):=by rw[sD];omega
      rw[e1,e2]
      exact Heap.get?_push_size _ rfl
    · have e:b=s2.heap.objs.size:=by simpa using hb
      subst e
      exact I2.pZ (Nat.le_refl _) (I2.aT.fresh (Nat.le_refl _))
end
noncomputable def iN(a:Int)(n:Nat):List D:=(List.range n).map fun(k:Nat)=>D.int (a+(k:Nat)*(-1))
theorem nK{a:Int}{n k:Nat}:(iN a n)[k]?=if k<n then some (.int (a+(k:Nat)*(-1)))else none:=by
 unfold iN
 rw[List.getElem?_map]
 by_cases h:k<n
 · rw[List.getElem?_range h,if_pos h];rfl
 · rw[List.getElem?_eq_none (by simpa using h),if_neg h];rfl
theorem lu{a:Int}{n:Nat}:(iN a n).length=n:=by unfold iN;simp
theorem CU{α:List (Option Addr)}{G:Hp}{a:Int}{n:Nat}:qc (Fd a n) α G (fun _=>True) (iN a n) where
 stop:=fun m α' G' F' H' st' s P S o hn=>by rw[lu]at hn;exact hn
 go:=fun m d α' G' F' H' st' s P S o hn=>by
  rw[nK]at hn
  split at hn
  · assumption
  · cases hn
 lL:=fun m d α' G' F' H' st' x H'' s P S o hn y=>by
  obtain⟨rfl,rfl⟩:=y
  rw[nK]at hn
  split at hn
  · cases hn
    exact⟨G',Step.refl,P,S,by unfold Rep;rfl⟩
  · cases hn
noncomputable def GV(ds:List D)(st1:ae)(K:List D→(ae→Prop)→ae→Prop):Prop:=match ds with
 | [.int i,.int j,.int c]=>(c= -1∧ -(2^62)≤i∧i<2^62∧ -(2^62)≤j∧j<2^62)∧K (iN i (i-j).toNat) (fun _=>True) st1
 |_=>False
@[irreducible] noncomputable def tO:List D→ae→(List D→(ae→Prop)→ae→Prop)→Prop:=GV
noncomputable def sd(t:DA):DI:=fun σ st K=>t σ st fun ds st1=>tO ds st1 K
theorem zC{X:Cx}{tg iter:Expr}{t:DA}(h:PI X tg iter (BU (LA t))):PI X tg iter (LI (sd t)):=PI.imp h fun σ H R ⟨α,σd,st,K,G,F,P,RS,S,t,k⟩=>by
 refine⟨α,σd,st,_,G,F,P,RS,S,t,fun ds st1 q α1 G1 H1 vs s1 P1 S1 r1=>?_⟩
 unfold tO at q
 match ds,q,r1 with
 | [.int i,.int j,.int c],q,r1=>
   obtain⟨v,u,w,rfl,r2,r3,r4⟩:=xy r1 rfl
   unfold Rep at r2 r3 r4
   subst r2 r3 r4
   obtain⟨⟨rfl,q1⟩,q2⟩:=q
   exact⟨i,j,rfl,q1,k _ _ st1 q2 _ α1 G1 H1 s1 P1 S1 CU⟩
theorem C9{st:ae}{i j:Int}{K:List D→(ae→Prop)→ae→Prop}(h: -(2^62)≤i∧i<2^62∧ -(2^62)≤j∧j<2^62)(k:K (iN i (i-j).toNat) (fun _=>True) st):tO [.int i,.int j,.int (-1)] st K:=by unfold tO;exact⟨⟨rfl,h⟩,k⟩
theorem AR{X:Cx}{tg a b c:Expr}{p pos:Pos}{ar:DA}(hg:Gl X "range")(hm:X.mg "range"=none)(ha:JA X [a,b,c] ar)(hs:notStar a=true:=by rfl)(hs2:notStar b=true:=by rfl)(hs3:notStar c=true:=by rfl):JI X tg (.Call (.Name "range" p) [a,b,c] [] pos) (sd ar):=by
 unfold JI;unfold JA at ha;exact zC (yY hg hm ha hs hs2 hs3)
section
variable {X:Cx}
noncomputable def Hy:V→V→Hp→VK→Prop:=fun o i H Q=>∃p xs k j v,o= .ref p∧i= .int k∧H p=some (.lst xs)∧0≤k∧jA xs.length k=some j∧xs[j]?=some v∧Q v H
theorem yC:Ft X Hy:=by
 intro pins s σ H o i ov iv Q I ro ri h
 obtain⟨p,xs,k,j,v,rfl,rfl,hp,h0,hj,hv,q⟩:=h
 cases ro
 obtain⟨t,rfl⟩:=ri
 obtain⟨its,n,r,ho,hz⟩:=I.lst hp
 obtain⟨h1,h2,h3,h4⟩:=rW hj
 have hl:=r.length
 have hn:=mx
 have hk:k.toNat=j:=by
  rw[seqIndex_of h0 h4]at h1
  exact Option.some.inj h1
 obtain⟨w,ew,rw'⟩:=r.get hv
 have isL:s.heap.IsList p its.toArray:=⟨_,ho,rfl,n,rfl⟩
 exact wpAny_getItem_list isL h0 (by omega) (by rw[hk];simpa using ew) ⟨v,H,I,rw',q⟩
end
end L3
namespace L3
open PySem L2
open PySem.Spec hiding items?
open PyProof.Rows hiding St
noncomputable def xm(x y:D)(st:ae)(K:DK):Prop:=match x,y with
 | .ref n,.int k=>(match st[n]? with|some (.lst xs)=>0≤k∧(match dY xs k with|some (.int u)=>K (.int u) st|_=>False)|_=>False)
 |_,_=>False
@[irreducible] noncomputable def tM:D→D→ae→DK→Prop:=xm
noncomputable def x8(f:Int→Int→Int)(x y old d:D)(st:ae)(K:ae→Prop):Prop:=match old,d with
 | .int u,.int v=>pK x y (.int (f u v)) st K
 |_,_=>False
@[irreducible] noncomputable def tV(f:Int→Int→Int):D→D→D→D→ae→(ae→Prop)→Prop:=x8 f
noncomputable def uV(f:Int→Int→Int)(to ti te:DE):DS:=fun D σ st=>to σ st fun x st1=>ti σ st1 fun y st2=>tM x y st2 fun u st3=>te σ st3 fun d st4=>tV f x y u d st4 fun st5=>D.nx σ st5
theorem Dt{n:Nat}{k u:Int}{xs:List D}{st:ae}{K:DK}(e:st[n]?=some (.lst xs))(h0:0≤k)(a:dY xs k=some (.int u))(q:K (.int u) st):tM (.ref n) (.int k) st K:=by
 unfold tM xm;simp only[e,a];exact⟨h0,q⟩
theorem DB{f:Int→Int→Int}{n j:Nat}{k u v:Int}{xs:List D}{st:ae}{K:ae→Prop}(e:st[n]?=some (.lst xs))(a:jA xs.length k=some j)(q:K (st.set n (.lst (xs.set j (.int (f u v)))))):tV f (.ref n) (.int k) (.int u) (.int v) st K:=by
 unfold tV x8 pK;simp only[e,a];exact q
section
variable {X:Cx}{e o i value:Expr}{es:List Expr}{te to ti:DE}{t:DA}{pos pos' tpos apos p:Pos}{C f:Addr}{fl m x:Str}{S:cY}{k:Nat}{fd:FuncData}{ps:List Str}
theorem AX{op:Operator}{g:Int→Int→Int}(ho:PE X o (LE to))(hi:PE X i (LE ti))(he:PE X e (LE te))(hp:uq X op (wm g))
 (ha:∀ov iv new,augStore i ov iv new=(do holding [new,ov,iv] (setItem ov iv new);release [new,ov,iv] [];pure .next)):PS X (.AugAssign (.Subscript o i tpos) op e pos) (LS (uV g to ti te)):=PS.imp (Ea ho hi yC he hp set_list ha) fun D σ H ⟨α,σd,st,DD,G,F,P,R,S,t,k⟩=>by
 refine⟨α,σd,st,_,G,F,P,R,S,t,fun x st1 q α1 G1 H1 v1 s1 P1 S1 r1=>?_⟩
 refine⟨α1,σd,st1,_,G1,F,P1,R.step s1,S1,q,fun y st2 q2 α2 G2 H2 v2 s2 P2 S2 r2=>?_⟩
 unfold tM xm at q2
 cases x<;>cases y<;>try exact q2.elim
 rename_i n kk
 simp only at q2
 split at q2
 · rename_i xs ex
   obtain⟨h0,q2⟩:=q2
   split at q2
   · rename_i u hu
     obtain⟨a,ea,vs,hv,rv⟩:=S2.g5 ex
     have r1':=d7 ea (r1.step s2)
     subst r1'
     unfold Rep at r2
     unfold dY at hu
     cases ej:jA xs.length kk with
     |none=>rw[ej]at hu;cases hu
     |some j=>
      rw[ej]at hu
      have hu2:xs[j]?=some (.int u):=hu
      obtain⟨w,hw,rw'⟩:=rv.get hu2
      unfold Rep at rw'
      subst rw'
      refine⟨a,vs,kk,j,.int u,rfl,r2,P2.get hv,h0,by rw[←rv.length];exact ej,hw,?_⟩
      refine⟨α2,σd,st2,_,G2,F,P2,(R.step s1).step s2,S2,q2,fun d st3 q4 α3 G3 H3 v3 s3 P3 S3 r3=>?_⟩
      unfold tV x8 at q4
      cases d<;>try exact q4.elim
      rename_i v
      unfold Rep at r3
      refine⟨u,v,rfl,r3,?_⟩
      unfold pK at q4
      simp only at q4
      split at q4
      · rename_i xs3 e3
        split at q4
        · rename_i j3 ej3
          obtain⟨a',ea',vs3,hv3,rv3⟩:=S3.g5 e3
          have ra:=d7 ea' ((r1.step s2).step s3)
          cases ra
          have hm:some a∈α3:=List.mem_of_getElem? ea'
          refine⟨a,vs3,kk,j3,rfl,r2,P3.get hv3,by rw[←rv3.length];exact ej3,?_⟩
          refine(((k.nx.at s1).at s2).at s3) σd _ q4 α3 (upd G3 a (.lst (vs3.set j3 (.int (g u v))))) _ σ (Step.write hm) (P3.write hv3) ((((R.step s1).step s2).step s3).step (Step.write hm)) ?_
          exact S3.write ea' ⟨_,br,(aR.mpr (m9 (show Rep α3 G3 (.int (g u v)) (.int (g u v)) by unfold Rep;rfl) j3 (aR.mp rv3))).step (Step.write hm)⟩
        · exact q4.elim
      · exact q4.elim
   · exact q2.elim
 · exact q2.elim
theorem zl{value o:Expr}{fl:Str}{pos':Pos}{n:Nat}{env:Env}:swapsWith value (some (.Attribute o fl pos')) n env=pure false:=by cases value<;>rfl
theorem cL(c:kf X.K C)(na:fy X.K C fl)(he:JE X e te)(hb:attributeBase e fl X.env (eval e X.env)=eval e X.env:=by rfl):JE X (.Attribute e fl pos) (dj C fl te):=by unfold JE at*;exact G_ c na he hb
theorem i7(c:kf X.K C)(na:fy X.K C fl)(ho:JE X o to)(hv:JE X value te):JS X (.Assign [.Attribute o fl pos'] value pos) (jU C fl to te):=by unfold JS;unfold JE at*;exact Fw c na ho hv zl
theorem Aq{op:Operator}{g:Int→Int→Int}(ho:JE X o to)(hi:JE X i ti)(he:JE X e te)(hp:uq X op (wm g))
 (ha:∀ov iv new,augStore i ov iv new=(do holding [new,ov,iv] (setItem ov iv new);release [new,ov,iv] [];pure .next):=by intros;rfl):JS X (.AugAssign (.Subscript o i tpos) op e pos) (uV g to ti te):=by unfold JS;unfold JE at*;exact AX ho hi he hp ha
theorem gK{pl:Sem Bool}(he:JE X o to)(c:kf X.K C)(hm:Meth X.K C m f)(F:ax X.prog X.w X.K X.mg X.base aJ k f fd ps (aL S))(hr:dm k X.A)(hb:Binds X.K fd ps [])(ha:JA X (e::es) t)
 (hs:notStar e=true:=by rfl) (hs2:fM es=true:=by rfl)
 (ht:eval (.Call (.Attribute o m apos) (e::es) [] pos) X.env=(do
   let ov ←eval o X.env
   standAt apos.atName
   let(f,first) ←holding [ov] (getMethod ov m pl)
   callWith pos f first (backTo pos (starEach (e::es) X.env)) (backToKw pos (keywordEach [] X.env))):=by rfl):
 JE X (.Call (.Attribute o m apos) (e::es) [] pos) (e8 C m S to t):=by
 unfold JE at*
 unfold JA at ha
 exact PE.imp (CO he c hm F hr hb .nil tH ha (cv hs) (iO hs2) ht) fun _ _ _ h=>LE.Hj h
theorem Cz{pl:Sem Bool}(he:JE X o to)(c:kf X.K C)(hm:Meth X.K C m f)(F:ax X.prog X.w X.K X.mg X.base aJ k f fd ps (aL S))(hr:dm k X.A)(hb:Binds X.K fd ps [])
 (ht:eval (.Call (.Attribute o m apos) [] [] pos) X.env=(do
   let ov ←eval o X.env
   standAt apos.atName
   let(f,first) ←holding [ov] (getMethod ov m pl)
   callWith pos f first (backTo pos (starEach [] X.env)) (backToKw pos (keywordEach [] X.env))):=by rfl):
 JE X (.Call (.Attribute o m apos) [] [] pos) (e8 C m S to aw):=by
 unfold JE at*
 refine PE.imp (Ac he c hm F hr hb .nil tH ht) fun σ H Q h=>?_
 obtain⟨α,σd,st,K,G,F,P,R,Sr,tt,k⟩:=h
 refine⟨α,σd,st,_,G,F,P,R,Sr,tt,fun d st1 q α1 G1 H1 v s1 P1 S1 r1=>?_⟩
 unfold qA tJ at q
 cases d<;>try exact q.elim
 simp only at q
 split at q
 · rename_i n C' fs e'
   obtain⟨rfl,hl,q⟩:=q
   obtain⟨a,ea,dx,vs,h1,h2⟩:=S1.qM e'
   have r1':=d7 ea r1
   subst r1'
   exact⟨a,dx,vs,rfl,P1.get h1,h2.none hl,α1,_,st1,K,G1,F,P1,by unfold aG;exact⟨_,_,rfl,r1,by unfold aG;rfl⟩,S1,q,k.at s1⟩
 · exact q.elim
theorem zp(M:Mk X.K C f)(F:ax X.prog X.w X.K X.mg X.base aJ k f fd ps (aL S))(hr:dm (k+1) X.A)(hg:Gl X x)(hmg:X.mg x=some (.ref C))(hb:Binds X.K fd ps [])(ha:JA X (e::es) t)(hdb:(x==("__debug__":Str))=false)
 (hs:notStar e=true:=by rfl) (hs2:fM es=true:=by rfl):JE X (.Call (.Name x p) (e::es) [] pos) (tS C S t):=by
 unfold JE
 unfold JA at ha
 exact PE.imp (CF M F hr hg hmg hb .nil tH ha hdb (cv hs) (iO hs2)) fun _ _ _ h=>LE.make h
end
end L3
namespace L3
open PySem PySem.Spec L2
open PyProof.Rows hiding St
section
variable {prog:Program}{w:World}{A:Around}{E:Value→Shared→Prop}{s:Shared}{a₀:Array Keyed}
end
end L3
namespace L2
open PySem PySem.Spec PyProof.Rows
structure Entry(K:PySem.W.Frag)(ts:List (Addr×Addr))(a:Addr)(ns:List Int)(H:Hp):Prop where
 lst:j4 K H a (ns.map V.int)
 tab:∀q∈ts,H q.2=some (.kW #[])∧q.2≠a
theorem sN:∀ {vs:List Value} {ns:List Int},IntsAre vs ns→Vals (ns.map V.int) vs
 |_,_,.nil=> .nil
 |_,_,.cons n t h=> .cons ⟨t,rfl⟩ (sN h)
structure AG(K:PySem.W.Frag)(ts:List (Addr×Addr))(h:Heap):Prop where
 hd:∀q∈ts,PySem.W.codeHdIn K q.1 q.2=true
 no:∀q∈ts,K.lookup q.2=none
 at':∀q∈ts,h.get? q.2=some (PySem.W.tabObj #[])
theorem zA{P:Program}{w:World}{K:PySem.W.Frag}{mg mb:Str→Option Value}{k:Nat}{fa a:Addr}{fd:FuncData}{x:Str}{sp:Sp}{s₁:Shared}{vs:List Value}{ns:List Int}{ts:List (Addr×Addr)}
 (KX:K.In s₁.heap) (hns:s₁.heap.Ns mainGlobals mg) (hb:s₁.heap.Ns builtinsNs mb) (hbb:∀x:Str,x≠"__name__"→mb x=bootBuiltins x) (hlim:s₁.heap.NoLimit) (hse:s₁.heap.NoSeer) (hgt:P.given.tree=none)
 (hbm:∃bm ob,mg "__builtins__"=some (.ref bm)∧bm≠builtinsNs∧s₁.heap.get? bm=some ob∧ob.cls= .type "module"∧ob.dict=some builtinsNs∧ob.data= .plain) (hT:AG K ts s₁.heap) (hg:s₁.gens= #[])
 (ha:s₁.heap.get? a=some {cls:= .type "list",data:= .seq vs.toArray}) (hi:IntsAre vs ns) (hl:ns.length≤sizeLine) (hr:dm k callerA)
 (F:∀base:Heap,K.In base→base.Ns mainGlobals mg→ax P w K mg base (fun _ _ _ _ _ _=>False) k fa fd [x] sp) (hbind:∀(s:Shared) (u:Value),BindsTo s fd ⟨[u],[]⟩ [(x,u)])
 (hsp:∀H:Hp,Entry K ts a ns H→sp [.ref a] H (fun v _=>v= .bl true) fun _ _ _=>False):
 codeAny (model P w) callerA (.call (.ref fa) ⟨[.ref a],[]⟩) (fun r s'=>r= .ok (.ret (.bool true))∧OldK s₁.heap s'.heap∧s'.os=s₁.os∧AllBare s'.gens) s₁:=by
 have rv:=sN hi
 have lenV:=hi.length
 have nta:∀q∈ts,q.2≠a:=fun q hq z=>by
  have:=hT.at' q hq
  rw[z,ha]at this
  cases this
 let sc:Option HO:=match K.lookup a with
  |some _=>none
  |none=>some (.mw {cls:= .type "list",data:= .seq vs.toArray} (.lst (ns.map V.int)))
 let H:Hp:=fun b=>if b=a then sc else if b∈ts.map (·.2)then some (.kW #[])else none
 have Ha:H a=sc:=if_pos rfl
 have Ht:∀q∈ts,H q.2=some (.kW #[]):=fun q hq=>by
  show(if q.2=a then sc else if q.2∈ts.map (·.2)then some (HO.kW #[])else none)=_
  rw[if_neg (nta q hq),if_pos (List.mem_map_of_mem hq)]
 have Hs:∀b u,H b=some u→(b=a∧K.lookup a=none∧u= .mw {cls:= .type "list",data:= .seq vs.toArray} (.lst (ns.map V.int)))∨(∃q∈ts,q.2=b∧u= .kW #[]):=fun b u e=>by
  have e':(if b=a then sc else if b∈ts.map (·.2)then some (HO.kW #[])else none)=some u:=e
  by_cases hba:b=a
  · rw[if_pos hba]at e'
    have e2:(match K.lookup a with
     |some _=>none
     |none=>some (HO.mw {cls:= .type "list",data:= .seq vs.toArray} (.lst (ns.map V.int))))=some u:=e'
    cases q:K.lookup a with
    |some o=>rw[q]at e2;cases e2
    |none=>rw[q]at e2;cases e2;exact .inl ⟨hba,rfl,rfl⟩
  · rw[if_neg hba]at e'
    by_cases hbt:b∈ts.map (·.2)
    · rw[if_pos hbt]at e';cases e'
      obtain⟨q,hq,e⟩:=List.mem_map.mp hbt
      exact .inr ⟨q,hq,e,rfl⟩
    · rw[if_neg hbt]at e';cases e'
 have aT:gN P w H s₁.heap:=fun b u e=>by
  rcases Hs b u e with⟨rfl,_,rfl⟩|⟨q,hq,rfl,rfl⟩
  · exact⟨ha,by rw[List.length_map];exact hl,vs,_,rv,ha⟩
  · exact hT.at' q hq
 have hE:Entry K ts a ns H:=by
  refine⟨?_,fun q hq=>⟨Ht q hq,nta q hq⟩⟩
  cases q:K.lookup a with
  |some o=>
   have e:=KX a o q
   rw[ha]at e;cases e
   exact .inr ⟨_,vs.toArray,_,q,rfl,rfl,rfl,by rw[List.size_toArray,lenV];exact hl,by simpa using rv⟩
  |none=>
   refine .inl (.inr ⟨{cls:= .type "list",data:= .seq vs.toArray},?_⟩)
   rw[Ha]
   show(match K.lookup a with
    |some _=>none
    |none=>some (HO.mw {cls:= .type "list",data:= .seq vs.toArray} (.lst (ns.map V.int))))=_
   rw[q]
 have dictNo:∀ {b:Addr} {o:Obj},s₁.heap.get? b=some o→(∀es ep,o.data≠ .seq es ep)→o.cls≠ .none→H b=none:=fun{b o} e d1 d2=>by
  cases q:H b with
  |none=>rfl
  |some u=>
   rcases Hs b u q with⟨rfl,_,_⟩|⟨t,ht,rfl,_⟩
   · rw[ha]at e;cases e;exact absurd rfl (d1 _ _)
   · rw[hT.at' t ht]at e;cases e;exact absurd rfl d2
 have nsK:∀ {b:Addr} {m:Str→Option Value},s₁.heap.Ns b m→(lO s₁.heap H).Ns b m:=fun{b m} ⟨o,es,ep,e,d,r⟩=>by
  refine⟨o,es,ep,mT e ?_,d,r⟩
  cases q:H b with
  |none=>rfl
  |some u=>
   rcases Hs b u q with⟨rfl,_,_⟩|⟨t,ht,rfl,_⟩
   · rw[ha]at e;cases e;cases d
   · rw[hT.at' t ht]at e;cases e;cases d
 have hKb:K.In (lO s₁.heap H):=fun b o e=>mT (KX b o e) (by
  cases q:H b with
  |none=>rfl
  |some u=>
   rcases Hs b u q with⟨rfl,z,_⟩|⟨t,ht,rfl,_⟩
   · rw[z]at e;cases e
   · rw[hT.no t ht]at e;cases e)
 obtain⟨bm,ob,b1,b2,b3,b4,b5,b6⟩:=hbm
 have hbmK:(lO s₁.heap H).get? bm=some ob:=mT b3 (dictNo b3 (fun es ep z=>by rw[b6]at z;cases z) (fun z=>by rw[b4]at z;cases z))
 have seK:(lO s₁.heap H).NoSeer:=by
  obtain⟨⟨m1,a1,a2⟩,⟨m2,c1,c2⟩,⟨m3,d1,d2⟩,⟨mg',bm',ob',e1,e2,e3,e4,e5⟩⟩:=hse
  refine⟨⟨m1,nsK a1,a2⟩,⟨m2,nsK c1,c2⟩,⟨m3,nsK d1,d2⟩,⟨mg',bm',ob',nsK e1,e2,mT e3 ?_,e4,e5⟩⟩
  cases q:H bm' with
  |none=>rfl
  |some u=>
   rcases Hs bm' u q with⟨rfl,_,_⟩|⟨t,ht,rfl,_⟩
   · rw[ha]at e3;cases e3;exact absurd (show Value.type "list"=Value.type "module" from e4) (by intro z;injection z with z;exact absurd z (by decide))
   · rw[hT.at' t ht]at e3;cases e3;cases e4
 have hM:Mod K mg (lO s₁.heap H):=⟨hKb,nsK hns,⟨mb,nsK hb,hbb⟩,let⟨mc,h1,h2⟩:=hlim;⟨mc,nsK h1,h2⟩,seK,⟨bm,ob,b1,b2,hbmK,b4,b5,b6⟩⟩
 have e0:p9 P w K mg (lO s₁.heap H) callerA [] s₁ H:=⟨rfl,hM,fun b o e=>DQ e,Nat.le_of_eq (zI _ _),trivial,fun b hb=>absurd (show b∈([]:List Addr)from hb) (by simp),aT,.of_eq hg,hgt⟩
 refine codeAny_mono ((F _ hKb (nsK hns)).run callerA [] s₁ H ⟨[.ref a],[]⟩ [.ref a] [.ref a] _ _ hr e0 (hbind s₁ (.ref a)) (.cons rfl .nil) (hsp H hE)) fun r s' h=>?_
 cases r with
 |error e=>exact False.elim h
 |ok fl=>
  cases fl with
  |next=>exact False.elim h
  |brk=>exact False.elim h
  |cont=>exact False.elim h
  |ret u=>
   obtain⟨v,H',os,bare,un,hok',r',q⟩:=h
   have q':v= .bl true:=q
   subst q'
   obtain rfl:u=Value.bool true:=r'
   have noF:∀b:Addr,b∉mD ([]:List Env):=fun b z=>absurd (show b∈([]:List Addr)from z) (by simp)
   refine⟨rfl,⟨fun b o e=>?_,fun b o e=>un.there b o e (by simp)⟩,os,bare⟩
   cases q:H b with
   |none=>exact .inl (un.keep b o e q (noF b) (by simp))
   |some u=>
    rcases Hs b u q with⟨rfl,_,rfl⟩|⟨t,ht,rfl,rfl⟩
    · obtain⟨e2,_⟩:=hok' b _ (un.lX b _ _ q)
      rw[ha]at e;cases e
      exact .inl e2
    · obtain⟨more,e1⟩:=un.lR _ _ q
      have e2:s'.heap.get? t.2=some {cls:= .none,data:= .fields (#[]++more)}:=hok' _ _ e1
      have e3:=hT.at' t ht
      rw[e3]at e;cases e
      have C:PySem.W.CodeHd s₁.heap t.1 t.2:=PySem.W.codeHd_of_K KX (hT.hd t ht)
      exact .inr (.inl ⟨(C.tab e3).isCodeTable,rfl,#[],more,rfl,e2⟩)
theorem Iq{l:PySem.W.OpenLaw}{n k:Nat}{q:Program}{loose:List Str}{XP:(Str→Option Value)→Heap→Prop}{YP:World→Heap→Prop}{d:DefRec}{K:Params→PySem.W.Frag}{sp:World→Sp}{x:Str}{ts:List (Addr×Addr)}
 (hn:l.most=some n) (hn2:n≤sizeLine) (hdf:d.params.defaults=[]) (hr:dm k callerA) (hq:importsNone q=true) (hgt:l.prog.given.tree=none)
 (hY:∀(w:World) (h:Heap),YP w h→(K w.params).In h∧AG (K w.params) ts h)
 (F:∀(w:World) (mg:Str→Option Value) (fa:Addr) (h:Heap),(K w.params).In h→h.Ns mainGlobals mg→mg d.name=some (.ref fa)→
   ∃fd:FuncData,(∀(s:Shared) (u:Value),BindsTo s fd ⟨[u],[]⟩ [(x,u)])∧
    ∀base:Heap,(K w.params).In base→base.Ns mainGlobals mg→ax l.prog w (K w.params) mg base (fun _ _ _ _ _ _=>False) k fa fd [x] (sp w))
 (hsp:∀(w:World) (H:Hp) (a:Addr) (ns:List Int),ns.length≤n→Entry (K w.params) ts a ns H→sp w [.ref a] H (fun v _=>v= .bl true) fun _ _ _=>False):
 PySem.W.WalkO q loose XP YP l.row.toRowW d [] (fun f vs=>PySem.call f vs):=by
 refine Att.vw hn hdf fun w s₀ s₁ mg mb fa o pm cd doc a vs ns G Y ho hd hcd hmg hobj hints hlen hg=>?_
 obtain⟨KX,hT⟩:=hY w _ Y
 obtain⟨fd,hb,hF⟩:=F w mg fa _ KX G.T.g hmg
 exact zA KX G.T.g G.T.b G.T.builtins G.T.nolimit (G.T.seer hq) hgt G.T.bmain hT hg hobj hints (Nat.le_trans hlen hn2) hr hF hb fun H hE=>hsp w H a ns hlen hE
end L2
namespace L3
open PySem PySem.Spec L2
open PyProof.Rows hiding St
section
variable {X:Cx}{pins:List (Addr×Obj)}{σ:L2.St}{H:Hp}{s:Shared}{p:Addr}{o o':Obj}{h':Heap}
end
section
variable {X:Cx}{pins:List (Addr×Obj)}{σ:L2.St}{R:Hp→Prop}{s:Shared}{A:Around}{E:Value→Shared→Prop}{a kS:Addr}{e1 e:Nat}{keys:Array Value}{P:PySem.Fin→Shared→Prop}
structure Own(X:Cx)(pins:List (Addr×Obj))(p:Addr):Prop where
 ge:X.s₀.heap.objs.size≤p
 ne:∀q∈X.pn++pins,q.1≠p
end
end L3
namespace L3
open PySem PySem.Spec L2
open PyProof.Rows hiding St
section
variable {X:Cx}{scope:Scope}{Nc:List Str}{fr:List (Option Nat)}{p qual:Str}{f c:Addr}{pins:List (Addr×Obj)}{σ:L2.St}{H:Hp}{s:Shared}
end
section
variable {X:Cx}{scope:Scope}{Nc:List Str}{fr:List (Option Nat)}{p x qual:Str}{params:Arguments}{e body:Expr}{te tb:DE}{lpos kpos pos ppos:Pos}{c0 T:Addr}{n0:Nat}
end
end L3
namespace L3
open PySem L2
open PySem.Spec hiding items?
open PyProof.Rows hiding St
noncomputable def Bi(sc:Scope)(N gl:List Str):Bool:=
 N.all (fun x=>(sc.names.lookup x==some .local||sc.names.lookup x==some .cell)&&x != "__debug__"&&x != "__classdict__")&&gl.all (fun x=>sc.names.lookup x==some .globalImplicit&&x != "__debug__")
structure VS(sc:Scope)(N gl:List Str):Prop where
 ok:Bi sc N gl=true
theorem VS.at_{sc:Scope}{N gl:List Str}(V:VS sc N gl){i:Nat}{x:Str}(h:N[i]?=some x):Loc sc x∧(x==("__debug__":Str))=false∧(x==("__classdict__":Str))=false:=by
 have o:=V.ok
 unfold Bi at o
 have:=List.all_eq_true.mp (Bool.and_eq_true_iff.mp o).1 x (List.mem_of_getElem? h)
 simp only[Bool.and_eq_true,Bool.or_eq_true,beq_iff_eq,bne_iff_ne,ne_eq]at this
 exact⟨this.1.1,beq_false_of_ne this.1.2,beq_false_of_ne this.2⟩
theorem VS.I0{sc:Scope}{N gl:List Str}(V:VS sc N gl){i:Nat}{x:Str}(h:gl[i]?=some x):sc.names.lookup x=some .globalImplicit∧(x==("__debug__":Str))=false:=by
 have o:=V.ok
 unfold Bi at o
 have:=List.all_eq_true.mp (Bool.and_eq_true_iff.mp o).2 x (List.mem_of_getElem? h)
 simp only[Bool.and_eq_true,beq_iff_eq,bne_iff_ne,ne_eq]at this
 exact⟨this.1,beq_false_of_ne this.2⟩
section
variable {X:Cx}{sc:Scope}{N gl:List Str}{x:Str}{pos:Pos}
theorem VS.nm(V:VS X.env.scope X.N gl)(i:Nat)(h:X.N[i]?=some x:=by rfl):JE X (.Name x pos) (aa i):=
 let q:=V.at_ h
 yK q.2.1 q.2.2 (q.1.elim .inl fun z=> .inr (.inl z)) h
theorem VS.l(V:VS sc N gl)(i:Nat)(h:N[i]?=some x:=by rfl):Loc sc x:=(V.at_ h).1
theorem VS.g(V:VS sc N gl)(i:Nat)(h:gl[i]?=some x:=by rfl):sc.names.lookup x=some .globalImplicit:=(V.I0 h).1
theorem VS.d(V:VS sc N gl)(i:Nat)(h:gl[i]?=some x:=by rfl):(x==("__debug__":Str))=false:=(V.I0 h).2
theorem eS{n:Nat}(hN:X.N[n]?=some x:=by rfl)(hd:((x==("__debug__":Str))||(x==("__classdict__":Str)))=false:=by decide+kernel)
 (hv:ui X.env.scope x:=by first|exact Or.inl rfl|exact Or.inr (Or.inl rfl)|exact Or.inr (Or.inr rfl)):JE X (.Name x pos) (aa n):=
 yK (Bool.or_eq_false_iff.mp hd).1 (Bool.or_eq_false_iff.mp hd).2 hv hN
end
noncomputable def zL(tl:List (Addr×Pos×Str)):cY:=fun ds st K=>∃ns:List Int,ds=[.lst (ns.map .int)]∧ns.length≤63∧st=tl.map (fun q=> .tab q.1 q.2.1 q.2.2 false)∧∀st',K (.bl true) st'
noncomputable def qz(K:PySem.W.Frag)(ts:List (Addr×Addr)):Sp:=fun vs H Q _=>∃(a:Addr) (ns:List Int),vs=[.ref a]∧Entry K ts a ns H∧ns.length≤63∧∀H',Q (.bl true) H'
theorem yN{K:PySem.W.Frag}{ts:List (Addr×Addr)}{tl:List (Addr×Pos×Str)}(nl:vi K=true)(hts:ts.map (·.2)=tl.map (·.1))(nd:(tl.map (·.1)).Nodup){vs:List V}{H:Hp}{Q:VK}{E:XK}(h:qz K ts vs H Q E):aL (zL tl) vs H Q E:=by
 obtain⟨a,ns,rfl,hE,hl,q⟩:=h
 have tabs:∀q∈tl,H q.1=some (.kW #[])∧q.1≠a:=fun q hq=>by
  have h1:q.1∈ts.map (·.2):=by rw[hts];exact List.mem_map_of_mem hq
  obtain⟨t,ht,e⟩:=List.mem_map.mp h1
  rw[←e];exact hE.tab t ht
 have at_:∀(i:Nat) (x:Addr),(tl.map fun q=>some q.1)[i]?=some (some x)→∃q,tl[i]?=some q∧q.1=x:=fun i x e=>by
  rw[List.getElem?_map]at e
  cases z:tl[i]? with
  |none=>rw[z]at e;cases e
  |some w=>rw[z]at e;simp at e;exact⟨w,rfl,e⟩
 have nota:some a∉tl.map fun q=>some q.1:=fun z=>by
  obtain⟨w,hw,e⟩:=List.mem_map.mp z
  exact(tabs w hw).2 (Option.some.inj e)
 rcases hE.lst with hS|⟨o,its,n,e,hc,_⟩
 · refine⟨tl.map fun q=>some q.1,[.lst (ns.map .int)],tl.map (fun q=> .tab q.1 q.2.1 q.2.2 false),fun d _=>d= .bl true,H,fun _=>none,⟨fun b=>by cases H b<;>rfl,fun _ _ _=>rfl⟩,?_,⟨by simp,fun i j x e1 e2=>?_,fun n c e=>?_⟩,⟨ns,rfl,hl,rfl,fun _=>rfl⟩,?_⟩
   · unfold aG
     refine⟨.ref a,[],rfl,?_,by unfold aG;rfl⟩
     unfold Rep
     exact⟨a,ns.map V.int,rfl,nota,hS,sU ns⟩
   · obtain⟨p,hp,e3⟩:=at_ i x e1
     obtain⟨r,hr,e4⟩:=at_ j x e2
     have k1:(tl.map (·.1))[i]?=some x:=by rw[List.getElem?_map,hp,←e3];rfl
     have k2:(tl.map (·.1))[j]?=some x:=by rw[List.getElem?_map,hr,←e4];rfl
     have hi:=(List.getElem?_eq_some_iff.mp k1).1
     exact(List.getElem?_inj hi nd).mp (k1.trans k2.symm)
   · rw[List.getElem?_map]at e
     cases z:tl[n]? with
     |none=>rw[z]at e;cases e
     |some w=>
      rw[z]at e
      have e':Cell.tab w.1 w.2.1 w.2.2 false=c:=Option.some.inj e
      subst e'
      refine .inr ⟨w.1,by rw[List.getElem?_map,z];rfl,rfl,#[],(tabs w (List.mem_of_getElem? z)).1,trivial,.inl ⟨rfl,rfl⟩⟩
   · rintro d st' rfl α' G' H' v _ _ _ r
     unfold Rep at r
     subst r
     exact q H'
 · exact absurd hc (tf nl e)
end L3
namespace L3
open PySem L2
open PySem.Spec hiding items?
open PyProof.Rows hiding St
section
variable {K:PySem.W.Frag}{x qual p1 p2 p3 p4 p5:Str}{st:Stmt}{f:Addr}{fd:FuncData}
noncomputable abbrev Cr(x qual:Str)(st:Stmt)(kV doc pm:Value)(an:Option Addr)(cdv ct:Value):FuncData:=PySem.W.fnOf x qual (aY st) (aV st) (ah st) .none kV doc pm an cdv ct
theorem fW{α:Type}{n:Nat}{us:List α}(h:us.length=n+1):∃a r,us=a::r∧r.length=n:=by
 cases us with
 |nil=>cases h
 |cons a r=>exact⟨a,r,rfl,Nat.succ.inj h⟩
theorem oR{α:Type}{us:List α}(h:us.length=0):us=[]:=List.length_eq_zero_iff.mp h
theorem sG(F:mr K x qual st f fd)(h:∀kV doc pm an cdv ct a,bindArgs (Cr x qual st kV doc pm an cdv ct) ⟨[a],[]⟩=pure [(p1,a)]):Binds K fd [p1] []:=
 F.binds fun kV doc pm an cdv ct us hl=>by
  obtain⟨a,r1,rfl,h1⟩:=fW hl
  cases oR h1
  exact h kV doc pm an cdv ct a
theorem kc(F:mr K x qual st f fd)(h:∀kV doc pm an cdv ct a b,bindArgs (Cr x qual st kV doc pm an cdv ct) ⟨[a,b],[]⟩=pure [(p1,a),(p2,b)]):Binds K fd [p1,p2] []:=
 F.binds fun kV doc pm an cdv ct us hl=>by
  obtain⟨a,r1,rfl,h1⟩:=fW hl
  obtain⟨b,r2,rfl,h2⟩:=fW h1
  cases oR h2
  exact h kV doc pm an cdv ct a b
theorem wc(F:mr K x qual st f fd)(h:∀kV doc pm an cdv ct a b c,bindArgs (Cr x qual st kV doc pm an cdv ct) ⟨[a,b,c],[]⟩=pure [(p1,a),(p2,b),(p3,c)]):Binds K fd [p1,p2,p3] []:=
 F.binds fun kV doc pm an cdv ct us hl=>by
  obtain⟨a,r1,rfl,h1⟩:=fW hl
  obtain⟨b,r2,rfl,h2⟩:=fW h1
  obtain⟨c,r3,rfl,h3⟩:=fW h2
  cases oR h3
  exact h kV doc pm an cdv ct a b c
theorem GI(F:mr K x qual st f fd)(h:∀kV doc pm an cdv ct a b c d,bindArgs (Cr x qual st kV doc pm an cdv ct) ⟨[a,b,c,d],[]⟩=pure [(p1,a),(p2,b),(p3,c),(p4,d)]):Binds K fd [p1,p2,p3,p4] []:=
 F.binds fun kV doc pm an cdv ct us hl=>by
  obtain⟨a,r1,rfl,h1⟩:=fW hl
  obtain⟨b,r2,rfl,h2⟩:=fW h1
  obtain⟨c,r3,rfl,h3⟩:=fW h2
  obtain⟨d,r4,rfl,h4⟩:=fW h3
  cases oR h4
  exact h kV doc pm an cdv ct a b c d
end
end L3
namespace L3
open PySem L2
open PySem.Spec hiding items?
open PyProof.Rows hiding St
section
variable {X:Cx}
end
end L3
namespace L3
open PySem L2
open PySem.Spec hiding items?
open PyProof.Rows hiding St
section
variable {X:Cx}
end
end L3
namespace L3
open PySem L2
open PySem.Spec hiding items?
open PyProof.Rows hiding St
section
variable {X:Cx}
end
end L3
namespace L3
open PySem L2
open PySem.Spec hiding items?
open PyProof.Rows hiding St
section
variable {X:Cx}
end
end L3
namespace L3
open PySem L2
open PySem.Spec hiding items?
open PyProof.Rows hiding St
section
variable {X:Cx}
noncomputable def uk(X:Cx):Cx:={X with xe:=fun _ _=>False}
end
end L3
namespace L3
open PySem L2
open PySem.Spec hiding items?
open PyProof.Rows hiding St
section
variable {X:Cx}
noncomputable def BK(i j:Int):Prop:=0≤j∧(Builtin.Int.intBits i:Int)*j≤2^27
noncomputable def EA(i j:Int):Prop:=0≤j∧(Builtin.Int.intBits i:Int)+j≤2^27
theorem m7{i:Int}{n:Nat}(h:i.natAbs<2^n):Builtin.Int.intBits i≤n:=by
 unfold Builtin.Int.intBits
 split
 · omega
 · rename_i z
   have z':i.natAbs≠0:=fun q=>z (by have:i=0:=by omega
                                    subst this;rfl)
   have:=(Nat.log2_lt z').mpr h
   omega
noncomputable abbrev zq:di:=nD BK fun i j=> .int (i^j.toNat)
noncomputable abbrev BR:di:=nD EA fun i j=> .int (i*2^j.toNat)
theorem Gy:bR X (binaryOp .Pow) (LR zq):=iA (fun _ _ _ _=>by unfold Rep;rfl) (wV fun _ _ _ _ _ _ _ hc q=>pow_int hc.1 hc.2 q)
theorem Ia:bR X (binaryOp .LShift) (LR BR):=iA (fun _ _ _ _=>by unfold Rep;rfl) (wV fun _ _ _ _ _ _ _ hc q=>lshift_int hc.1 hc.2 q)
@[irreducible] noncomputable def qB:di:=zq
theorem EK:bR X (binaryOp .Pow) (LR qB):=by unfold qB;exact Gy
@[irreducible] noncomputable def rT:di:=BR
theorem Cg:bR X (binaryOp .LShift) (LR rT):=by unfold rT;exact Ia
end
variable {st:ae}{K:D→ae→Prop}{i j:Int}
theorem CD(h:BK i j)(k:K (.int (i^j.toNat)) st):qB (.int i) (.int j) st K:=by unfold qB;exact⟨h,k⟩
theorem yM(h:EA i j)(k:K (.int (i*2^j.toNat)) st):rT (.int i) (.int j) st K:=by unfold rT;exact⟨h,k⟩
end L3
namespace Mx
noncomputable def S:Nat→(Nat→Int)→Int
 |0,_=>0
 |n+1,f=>S n f+f n
theorem aA{n:Nat}{f g:Nat→Int}(h:∀i,i<n→f i=g i):S n f=S n g:=by
 induction n with
 |zero=>rfl
 |succ n ih=>unfold S;rw[ih fun i hi=>h i (by omega),h n (by omega)]
theorem kI{n:Nat}{f:Nat→Int}(h:∀i,i<n→f i=0):S n f=0:=by
 induction n with
 |zero=>rfl
 |succ n ih=>unfold S;rw[ih fun i hi=>h i (by omega),h n (by omega)];rfl
theorem i_(n:Nat)(f g:Nat→Int):S n (fun i=>f i+g i)=S n f+S n g:=by
 induction n with
 |zero=>rfl
 |succ n ih=>unfold S;rw[ih];dsimp only;omega
theorem dD(n:Nat)(c:Int)(f:Nat→Int):S n (fun i=>c*f i)=c*S n f:=by
 induction n with
 |zero=>unfold S;rw[Int.mul_zero]
 |succ n ih=>unfold S;rw[ih,Int.mul_add]
theorem mG(n:Nat)(c:Int)(f:Nat→Int):S n (fun i=>f i*c)=S n f*c:=by
 induction n with
 |zero=>unfold S;rw[Int.zero_mul]
 |succ n ih=>unfold S;rw[ih,Int.add_mul]
theorem B9(n:Nat)(f:Nat→Int):S n (fun i=> -f i)= -S n f:=by
 induction n with
 |zero=>rfl
 |succ n ih=>unfold S;rw[ih];dsimp only;omega
theorem jq(m n:Nat)(f:Nat→Nat→Int):S m (fun i=>S n fun j=>f i j)=S n fun j=>S m fun i=>f i j:=by
 induction m with
 |zero=>exact(kI (n:=n) (fun i _=>rfl)).symm
 |succ m ih=>
  have:S n (fun j=>S (m+1) fun i=>f i j)=S n fun j=>(S m fun i=>f i j)+f m j:=aA fun j _=>rfl
  rw[this,i_,←ih]
  rfl
theorem lI{n:Nat}{k:Nat}(hk:k<n){f:Nat→Int}(h:∀i,i<n→i≠k→f i=0):S n f=f k:=by
 induction n with
 |zero=>omega
 |succ n ih=>
  unfold S
  by_cases e:k=n
  · subst e
    rw[kI fun i hi=>h i (by omega) (by omega),Int.zero_add]
  · rw[ih (by omega) fun i hi hn=>h i (by omega) hn,h n (by omega) (by omega),Int.add_zero]
theorem uU(n:Nat)(f:Nat→Int):S (n+1) f=f 0+S n fun i=>f (i+1):=by
 induction n with
 |zero=>unfold S S;omega
 |succ n ih=>
  have:S (n+1+1) f=S (n+1) f+f (n+1):=rfl
  rw[this,ih]
  have:S (n+1) (fun i=>f (i+1))=S n (fun i=>f (i+1))+f (n+1):=rfl
  rw[this]
  omega
noncomputable def dl(i j:Nat):Int:=if i=j then 1 else 0
theorem dO(i:Nat):dl i i=1:=if_pos rfl
theorem eB{i j:Nat}(h:i≠j):dl i j=0:=if_neg h
theorem mB{n k:Nat}(hk:k<n)(f:Nat→Int):S n (fun i=>dl k i*f i)=f k:=by
 rw[lI hk (fun i _ h=>by rw[eB (Ne.symm h),Int.zero_mul]),dO,Int.one_mul]
theorem qr{n k:Nat}(hk:k<n)(f:Nat→Int):S n (fun i=>f i*dl i k)=f k:=by
 rw[lI hk (fun i _ h=>by rw[eB h,Int.mul_zero]),dO,Int.mul_one]
noncomputable abbrev Row:=List Int
noncomputable abbrev Rows:=List (List Int)
noncomputable def g(A:Rows)(i j:Nat):Int:=(A.getD i []).getD j 0
structure cz(m n:Nat)(A:Rows):Prop where
 len:A.length=m
 jf:∀r∈A,r.length=n
theorem bj{α:Type}{l:List α}{i:Nat}{d:α}(h:i<l.length):l.getD i d=l[i]:=by
 rw[List.getD_eq_getElem?_getD,List.getElem?_eq_getElem h];rfl
theorem oO{α:Type}{l:List α}{i:Nat}{d:α}(h:l.length≤i):l.getD i d=d:=by
 rw[List.getD_eq_getElem?_getD,List.getElem?_eq_none h];rfl
theorem wx{a b:Row}{n:Nat}(ha:a.length=n)(hb:b.length=n)(h:∀j,j<n→a.getD j 0=b.getD j 0):a=b:=by
 refine List.ext_getElem (by omega) fun i h1 h2=>?_
 have:=h i (by omega)
 rwa [bj h1,bj h2]at this
noncomputable def fe(r:Row)(t:Int)(s:Row):Row:=List.zipWith (fun a b=>a+t*b) r s
theorem iP{r s:Row}{t:Int}(h:r.length=s.length):(fe r t s).length=r.length:=by unfold fe;simp[h]
theorem mi{r s:Row}{t:Int}(h:r.length=s.length)(j:Nat):(fe r t s).getD j 0=r.getD j 0+t*s.getD j 0:=by
 unfold fe
 by_cases hj:j<r.length
 · rw[bj (by simp;omega),bj hj,bj (by omega)];simp
 · rw[oO (by simp;omega),oO (by omega),oO (by omega)];simp
noncomputable def fg:Row→Rows→Row→Row
 |w::ws,r::rs,acc=>fg ws rs (fe acc w r)
 |_,_,acc=>acc
theorem sC{n:Nat}:∀ {ws:Row} {rs:Rows} {acc:Row},acc.length=n→(∀r∈rs,r.length=n)→(fg ws rs acc).length=n
 | [],_,acc,h,_=>by unfold fg;exact h
 |_::_,[],acc,h,_=>by unfold fg;exact h
 |w::ws,r::rs,acc,h,hr=>by
  unfold fg
  refine sC ?_ fun r hr'=>hr r (List.mem_cons_of_mem _ hr')
  rw[iP (by rw[h,hr r List.mem_cons_self]),h]
theorem uQ{n:Nat}:∀ {ws:Row} {rs:Rows} {acc:Row} (j:Nat),acc.length=n→(∀r∈rs,r.length=n)→ws.length=rs.length→(fg ws rs acc).getD j 0=acc.getD j 0+S rs.length fun k=>ws.getD k 0*g rs k j
 | [],[],acc,j,h,_,_=>by unfold fg;show _=_+(0:Int);rw[Int.add_zero]
 | [],_::_,acc,j,h,_,hl=>by cases hl
 |_::_,[],acc,j,h,_,hl=>by cases hl
 |w::ws,r::rs,acc,j,h,hr,hl=>by
  have e1:acc.length=r.length:=by rw[h,hr r List.mem_cons_self]
  unfold fg
  rw[uQ j (by rw[iP e1,h]) (fun r hr'=>hr r (List.mem_cons_of_mem _ hr')) (by simpa using hl),mi e1,List.length_cons,uU]
  have:(fun k=>(w::ws).getD (k+1) 0*g (r::rs) (k+1) j)=fun k=>ws.getD k 0*g rs k j:=by
   funext k;unfold g;simp
  rw[this]
  unfold g
  simp
  omega
noncomputable def mulM(A B:Rows)(n:Nat):Rows:=A.map fun w=>fg w B (List.replicate n 0)
theorem d7(n j:Nat):(List.replicate n (0:Int)).getD j 0=0:=by
 by_cases h:j<n
 · rw[bj (by simpa using h)];simp
 · rw[oO (by simp;omega)]
noncomputable def i4(n i:Nat):Row:=(List.range n).map fun k=>dl k i
noncomputable def units(n:Nat):Rows:=(List.range n).map fun i=>i4 n i
theorem range_getD{α:Type}{f:Nat→α}{n i:Nat}{d:α}(h:i<n):((List.range n).map f).getD i d=f i:=by
 rw[bj (by simpa using h)];simp
theorem ur(n:Nat):cz n n (units n):=⟨by simp[units],fun r hr=>by unfold units at hr;obtain⟨i,_,rfl⟩:=List.mem_map.mp hr;simp[i4]⟩
noncomputable def rP(A:Rows)(j:Nat):Row:=A.map fun r=>r.getD j 0
noncomputable def zw(A:Rows)(n:Nat):Rows:=(List.range n).map fun j=>rP A j
noncomputable def fz:Row→Row→Int
 |a::as,b::bs=>a*b+fz as bs
 |_,_=>0
theorem jc:∀ {a b:Row},a.length=b.length→fz a b=S b.length fun k=>a.getD k 0*b.getD k 0
 | [],[],_=>rfl
 | [],_::_,h=>by cases h
 |_::_,[],h=>by cases h
 |x::a,y::b,h=>by
  unfold fz
  rw[jc (by simpa using h),List.length_cons,uU]
  simp
end Mx
namespace Mx
theorem mh(i j:Nat):dl i j=dl j i:=by
 unfold dl
 by_cases h:i=j
 · rw[if_pos h,if_pos h.symm]
 · rw[if_neg h,if_neg (Ne.symm h)]
noncomputable def sw(i j k:Nat):Nat:=if k=i then j else if k=j then i else k
theorem JN{n i j:Nat}(hi:i<n)(hj:j<n)(hij:i≠j)(f:Nat→Int):S n (fun k=>f (sw i j k))=S n f:=by
 have:S n (fun k=>f (sw i j k))=S n fun k=>f k+(f j-f i)*dl k i+(f i-f j)*dl k j:=aA fun k _=>by
  unfold sw
  by_cases h1:k=i
  · subst h1;rw[if_pos rfl,dO,eB hij];omega
  · rw[if_neg h1,eB h1]
    by_cases h2:k=j
    · subst h2;rw[if_pos rfl,dO];omega
    · rw[if_neg h2,eB h2];omega
 rw[this,i_,i_,qr (f:=fun _=>f j-f i) hi,qr (f:=fun _=>f i-f j) hj]
 omega
theorem j6{A:Rows}{i:Nat}{r:Row}(hi:i<A.length)(a k:Nat):g (A.set i r) a k=if a=i then r.getD k 0 else g A a k:=by
 have e:(A.set i r).getD a []=if a=i then r else A.getD a []:=by
  rw[List.getD_eq_getElem?_getD,List.getD_eq_getElem?_getD]
  by_cases h:a=i
  · subst h
    rw[if_pos rfl,List.getElem?_set_self hi];rfl
  · rw[if_neg h,List.getElem?_set_ne (Ne.symm h)]
 unfold g
 rw[e]
 by_cases h:a=i
 · rw[if_pos h,if_pos h]
 · rw[if_neg h,if_neg h]
end Mx
namespace Mx
noncomputable abbrev Fn:=Nat→Nat→Int
noncomputable def sk(j c:Nat):Nat:=if c<j then c else c+1
noncomputable def sg(j:Nat):Int:=if j%2=0 then 1 else-1
theorem rm(j:Nat):sg (j+1)= -sg j:=by unfold sg;split<;>split<;>omega
theorem oW:sg 0=1:=rfl
theorem ju{j c n:Nat}(h:c<n):sk j c<n+1:=by unfold sk;split<;>omega
theorem Ic{j k c:Nat}(h:k<j):sk j (sk k c)=sk k (sk (j-1) c):=by unfold sk;grind
noncomputable def D:Nat→Fn→Int
 |0,_=>1
 |n+1,M=>S (n+1) fun j=>sg j*M 0 j*D n fun r c=>M (r+1) (sk j c)
theorem gI(M:Fn):D 0 M=1:=rfl
theorem dh(n:Nat)(M:Fn):D (n+1) M=S (n+1) fun j=>sg j*M 0 j*D n fun r c=>M (r+1) (sk j c):=rfl
theorem a_:∀ {n:Nat} {M M':Fn},(∀r c,r<n→c<n→M r c=M' r c)→D n M=D n M'
 |0,_,_,_=>rfl
 |n+1,M,M',h=>by
  rw[dh,dh]
  refine aA fun j hj=>?_
  have e:D n (fun r c=>M (r+1) (sk j c))=D n (fun r c=>M' (r+1) (sk j c)):=a_ fun r c hr hc=>h (r+1) (sk j c) (by omega) (ju hc)
  rw[h 0 j (by omega) hj,e]
theorem xo:∀ {n:Nat} {M P Q:Fn} {a b:Int} {i:Nat},i<n→(∀c,c<n→M i c=a*P i c+b*Q i c)→(∀r c,r<n→c<n→r≠i→M r c=P r c∧M r c=Q r c)→D n M=a*D n P+b*D n Q
 |0,_,_,_,_,_,_,h,_,_=>by omega
 |n+1,M,P,Q,a,b,0,_,h0,h=>by
  rw[dh,dh,dh,←dD,←dD,←i_]
  refine aA fun j hj=>?_
  have e1:D n (fun r c=>M (r+1) (sk j c))=D n (fun r c=>P (r+1) (sk j c)):=a_ fun r c hr hc=>(h (r+1) (sk j c) (by omega) (ju hc) (by omega)).1
  have e2:D n (fun r c=>M (r+1) (sk j c))=D n (fun r c=>Q (r+1) (sk j c)):=a_ fun r c hr hc=>(h (r+1) (sk j c) (by omega) (ju hc) (by omega)).2
  rw[h0 j hj,←e1,←e2]
  grind
 |n+1,M,P,Q,a,b,i+1,hi,h0,h=>by
  rw[dh,dh,dh,←dD,←dD,←i_]
  refine aA fun j hj=>?_
  have e:=xo (n:=n) (M:=fun r c=>M (r+1) (sk j c)) (P:=fun r c=>P (r+1) (sk j c)) (Q:=fun r c=>Q (r+1) (sk j c)) (a:=a) (b:=b) (i:=i) (by omega) (fun c hc=>h0 (sk j c) (ju hc)) fun r c hr hc hne=>h (r+1) (sk j c) (by omega) (ju hc) (by omega)
  have p:=h 0 j (by omega) hj (by omega)
  rw[e,←p.1,←p.2]
  grind
theorem JD{n:Nat}{M:Fn}(h:∀c,c<n+2→M 0 c=M 1 c):D (n+2) M=0:=by
 let T:Nat→Nat→Int:=fun j k=>sg j*M 0 j*(sg k*M 1 (sk j k)*D n fun r c=>M (r+2) (sk j (sk k c)))
 have e1:∀j,j<n+2→sg j*M 0 j*D (n+1) (fun r c=>M (r+1) (sk j c))=S (n+1) fun k=>T j k:=fun j hj=>by
  rw[dh,←dD]
 rw[dh,aA e1]
 have e2:∀j,j<n+2→S (n+1) (fun k=>T j k)=S (n+1) (fun k=>if k<j then T j k else 0)+S (n+1) (fun k=>if k<j then 0 else T j k):=fun j _=>by
  rw[←i_]
  refine aA fun k _=>?_
  split<;>omega
 rw[aA e2,i_]
 have e3:∀j k,j<n+2→k<n+1→¬k<j→T j k= -T (k+1) j:=fun j k hj hk hjk=>by
  have s1:sk (k+1) j=j:=by unfold sk;rw[if_pos (by omega)]
  have s2:sk j k=k+1:=by unfold sk;rw[if_neg hjk]
  have s3:(fun r c=>M (r+2) (sk (k+1) (sk j c)))=fun r c=>M (r+2) (sk j (sk k c)):=by
   funext r c
   rw[Ic (show j<k+1 by omega)];rfl
  show sg j*M 0 j*(sg k*M 1 (sk j k)*D n fun r c=>M (r+2) (sk j (sk k c)))= -(sg (k+1)*M 0 (k+1)*(sg j*M 1 (sk (k+1) j)*D n fun r c=>M (r+2) (sk (k+1) (sk j c))))
  rw[s1,s2,s3,rm,←h j hj,←h (k+1) (by omega)]
  grind
 have e4:S (n+2) (fun j=>S (n+1) fun k=>if k<j then 0 else T j k)= -S (n+2) (fun j=>S (n+1) fun k=>if k<j then T j k else 0):=by
  rw[jq,uU (n+1) (fun j=>S (n+1) fun k=>if k<j then T j k else 0)]
  have z:S (n+1) (fun k=>if k<0 then T 0 k else 0)=0:=kI fun k _=>if_neg (by omega)
  rw[z,Int.zero_add,←B9]
  refine aA fun k hk=>?_
  have:S (n+2) (fun j=>if k<j then 0 else T j k)=S (n+1) (fun j=>if k<j then 0 else T j k)+(if k<n+1 then 0 else T (n+1) k):=rfl
  rw[this,if_pos hk,Int.add_zero,←B9]
  refine aA fun j hj=>?_
  by_cases hkj:k<j
  · rw[if_pos hkj,if_neg (by omega)];rfl
  · rw[if_neg hkj,if_pos (by omega)]
    exact e3 j k (by omega) hk hkj
 rw[e4]
 omega
theorem BS:∀ {n:Nat} {M:Fn} {i:Nat},i+1<n→(∀c,c<n→M i c=M (i+1) c)→D n M=0
 |0,_,_,h,_=>by omega
 |1,_,_,h,_=>by omega
 |n+2,M,0,_,h=>JD h
 |n+2,M,i+1,hi,h=>by
  rw[dh]
  refine kI fun j hj=>?_
  rw[BS (n:=n+1) (M:=fun r c=>M (r+1) (sk j c)) (i:=i) (by omega) fun c hc=>h (sk j c) (ju hc),Int.mul_zero]
structure Alt(n:Nat)(φ:Fn→Int):Prop where
 cg:∀M M':Fn,(∀r c,r<n→c<n→M r c=M' r c)→φ M=φ M'
 mJ:∀(i:Nat) (M P Q:Fn) (a b:Int),i<n→(∀c,c<n→M i c=a*P i c+b*Q i c)→(∀r c,r<n→c<n→r≠i→M r c=P r c∧M r c=Q r c)→φ M=a*φ P+b*φ Q
 alt:∀(i j:Nat) (M:Fn),i<n→j<n→i≠j→(∀c,c<n→M i c=M j c)→φ M=0
noncomputable def upd(M:Fn)(i:Nat)(x:Nat→Int):Fn:=fun r c=>if r=i then x c else M r c
theorem bH(M:Fn)(i:Nat)(x:Nat→Int)(c:Nat):upd M i x i c=x c:=if_pos rfl
theorem aC{M:Fn}{i r:Nat}{x:Nat→Int}(h:r≠i)(c:Nat):upd M i x r c=M r c:=if_neg h
theorem I_{n i j:Nat}{φ:Fn→Int}(cg:∀M M':Fn,(∀r c,r<n→c<n→M r c=M' r c)→φ M=φ M')
 (mJ:∀(i:Nat) (M P Q:Fn) (a b:Int),i<n→(∀c,c<n→M i c=a*P i c+b*Q i c)→(∀r c,r<n→c<n→r≠i→M r c=P r c∧M r c=Q r c)→φ M=a*φ P+b*φ Q)
 (hi:i<n) (hj:j<n) (hij:i≠j) (alt:∀N:Fn,(∀c,c<n→N i c=N j c)→φ N=0) (M:Fn):φ (fun r=>M (sw i j r))= -φ M:=by
 have l1:φ (upd (upd M i fun c=>M i c+M j c) j fun c=>M i c+M j c)=1*φ (upd (upd M i (M i)) j fun c=>M i c+M j c)+1*φ (upd (upd M i (M j)) j fun c=>M i c+M j c):=
  mJ i _ _ _ 1 1 hi (fun c _=>by rw[aC hij,aC hij,aC hij,bH,bH,bH];omega) fun r c _ _ hr=>by
   unfold upd
   grind
 have l2:∀x:Nat→Int,φ (upd (upd M i x) j fun c=>M i c+M j c)=1*φ (upd (upd M i x) j (M i))+1*φ (upd (upd M i x) j (M j)):=fun x=>
  mJ j _ _ _ 1 1 hj (fun c _=>by rw[bH,bH,bH];omega) fun r c _ _ hr=>by
   rw[aC hr,aC hr,aC hr];exact⟨rfl,rfl⟩
 have z0:φ (upd (upd M i fun c=>M i c+M j c) j fun c=>M i c+M j c)=0:=alt _ fun c _=>by rw[aC hij,bH,bH]
 have z1:φ (upd (upd M i (M i)) j (M i))=0:=alt _ fun c _=>by rw[aC hij,bH,bH]
 have z2:φ (upd (upd M i (M j)) j (M j))=0:=alt _ fun c _=>by rw[aC hij,bH,bH]
 have s1:φ (upd (upd M i (M i)) j (M j))=φ M:=cg _ _ fun r c _ _=>by
  unfold upd
  split
  · rename_i e;rw[e]
  · split
    · rename_i e;rw[e]
    · rfl
 have s2:φ (upd (upd M i (M j)) j (M i))=φ (fun r=>M (sw i j r)):=cg _ _ fun r c _ _=>by
  unfold upd sw
  by_cases h1:r=j
  · rw[if_pos h1]
    by_cases h2:r=i
    · omega
    · rw[if_neg h2,if_pos h1]
  · rw[if_neg h1]
    by_cases h2:r=i
    · rw[if_pos h2,if_pos h2]
    · rw[if_neg h2,if_neg h2,if_neg h1]
 have a1:=l2 (M i)
 have a2:=l2 (M j)
 rw[z1,s1]at a1
 rw[z2,s2]at a2
 rw[z0,a1,a2]at l1
 omega
theorem Alt.swap{n i j:Nat}{φ:Fn→Int}(A:Alt n φ)(hi:i<n)(hj:j<n)(hij:i≠j)(M:Fn):φ (fun r=>M (sw i j r))= -φ M:=
 I_ A.cg A.mJ hi hj hij (fun N h=>A.alt i j N hi hj hij h) M
theorem qW{n:Nat}{φ:Fn→Int}(cg:∀M M':Fn,(∀r c,r<n→c<n→M r c=M' r c)→φ M=φ M')
 (mJ:∀(i:Nat) (M P Q:Fn) (a b:Int),i<n→(∀c,c<n→M i c=a*P i c+b*Q i c)→(∀r c,r<n→c<n→r≠i→M r c=P r c∧M r c=Q r c)→φ M=a*φ P+b*φ Q)
 (adj:∀(i:Nat) (M:Fn),i+1<n→(∀c,c<n→M i c=M (i+1) c)→φ M=0):Alt n φ:=by
 have far:∀(d i:Nat) (M:Fn),i+d+1<n→(∀c,c<n→M i c=M (i+d+1) c)→φ M=0:=by
  intro d
  induction d with
  |zero=>exact fun i M h1 h2=>adj i M h1 h2
  |succ d ih=>
   intro i M h1 h2
   have hs:=I_ cg mJ (i:=i+d+1) (j:=i+d+1+1) (by omega) (by omega) (by omega) (fun N h=>adj (i+d+1) N (by omega) h) M
   have:φ (fun r=>M (sw (i+d+1) (i+d+1+1) r))=0:=ih i _ (by omega) fun c hc=>by
    have e1:sw (i+d+1) (i+d+1+1) i=i:=by unfold sw;rw[if_neg (by omega),if_neg (by omega)]
    have e2:sw (i+d+1) (i+d+1+1) (i+d+1)=i+d+1+1:=by unfold sw;rw[if_pos rfl]
    rw[e1,e2]
    exact h2 c hc
   omega
 refine⟨cg,mJ,fun i j M hi hj hij h=>?_⟩
 by_cases hlt:i<j
 · obtain⟨d,rfl⟩:∃d,j=i+d+1:=⟨j-i-1,by omega⟩
   exact far d i M hj h
 · obtain⟨d,rfl⟩:∃d,i=j+d+1:=⟨i-j-1,by omega⟩
   exact far d j M hi fun c hc=>(h c hc).symm
theorem jh(n:Nat):Alt n (D n):=qW (fun _ _ h=>a_ h) (fun _ _ _ _ _ _ hi h0 h=>xo hi h0 h) fun _ _ h1 h2=>BS h1 h2
theorem Alt.FW{n i:Nat}{φ:Fn→Int}(A:Alt n φ)(hi:i<n){M:Fn}(h:∀c,c<n→M i c=0):φ M=0:=by
 have:=A.mJ i M M M 0 0 hi (fun c hc=>by rw[h c hc];rfl) fun _ _ _ _ _=>⟨rfl,rfl⟩
 omega
theorem Alt.j7{n i:Nat}{φ:Fn→Int}(A:Alt n φ)(hi:i<n)(M:Fn)(t:Int)(x:Nat→Int):φ (upd M i fun c=>t*x c)=t*φ (upd M i x):=by
 have:=A.mJ i (upd M i fun c=>t*x c) (upd M i x) (upd M i x) t 0 hi (fun c hc=>by rw[bH,bH];omega) fun r c _ _ hr=>by rw[aC hr,aC hr];exact⟨rfl,rfl⟩
 omega
theorem Alt.oq{n i:Nat}{φ:Fn→Int}(A:Alt n φ)(hi:i<n)(M:Fn)(x y:Nat→Int):φ (upd M i fun c=>x c+y c)=φ (upd M i x)+φ (upd M i y):=by
 have:=A.mJ i (upd M i fun c=>x c+y c) (upd M i x) (upd M i y) 1 1 hi (fun c hc=>by rw[bH,bH,bH];omega) fun r c _ _ hr=>by rw[aC hr,aC hr,aC hr];exact⟨rfl,rfl⟩
 omega
theorem Alt.nF{n i:Nat}{φ:Fn→Int}(A:Alt n φ)(hi:i<n)(M:Fn)(a:Nat→Int)(x:Nat→Nat→Int):∀m,φ (upd M i fun c=>S m fun j=>a j*x j c)=S m fun j=>a j*φ (upd M i (x j))
 |0=>A.FW hi fun c _=>by rw[bH];rfl
 |m+1=>by
  have:(fun c=>S (m+1) fun j=>a j*x j c)=fun c=>(S m fun j=>a j*x j c)+a m*x m c:=rfl
  rw[this,A.oq hi,A.nF hi M a x m,A.j7 hi]
  rfl
theorem Alt.more{n i:Nat}{φ:Fn→Int}(A:Alt n φ)(hi:i<n)(M:Fn)(x:Nat→Int)(a:Nat→Int)(m:Nat)(hm:m≤n)(him:m≤i):φ (upd M i fun c=>x c+S m fun j=>a j*M j c)=φ (upd M i x):=by
 rw[A.oq hi,A.nF hi M a (fun j=>M j) m,kI fun j hj=>?_,Int.add_zero]
 rw[A.alt i j _ hi (by omega) (by omega) fun c _=>by rw[bH,aC (by omega)],Int.mul_zero]
noncomputable def un(j c:Nat):Nat:=if c<j then c else c-1
noncomputable def grow(j:Nat)(B:Fn):Fn:=fun r c=>if r=0 then dl j c else if c=j then 0 else B (r-1) (un j c)
theorem qK{n j c:Nat}(hj:j<n+1)(hc:c<n+1)(h:c≠j):un j c<n:=by unfold un;split<;>omega
theorem xi{j c:Nat}(h:c≠j):sk j (un j c)=c:=by unfold sk un;grind
theorem Alt.grow{n j:Nat}{φ:Fn→Int}(A:Alt (n+1) φ)(hj:j<n+1):Alt n fun B=>φ (Mx.grow j B) where
 cg:=fun M M' h=>A.cg _ _ fun r c hr hc=>by
  have:=h (r-1) (un j c)
  have:=qK (c:=c) hj hc
  unfold Mx.grow
  grind
 mJ:=fun i M P Q a b hi h0 h=>A.mJ (i+1) _ _ _ a b (by omega) (fun c hc=>by
  have:=h0 (un j c)
  have:=qK (c:=c) hj hc
  have e:i+1-1=i:=by omega
  unfold Mx.grow
  rw[e]
  grind) fun r c hr hc hne=>by
  have:=h (r-1) (un j c)
  have:=qK (c:=c) hj hc
  unfold Mx.grow
  grind
 alt:=fun i k M hi hk hik h=>A.alt (i+1) (k+1) _ (by omega) (by omega) (by omega) fun c hc=>by
  have:=h (un j c)
  have:=qK (c:=c) hj hc
  have e:i+1-1=i:=by omega
  have e2:k+1-1=k:=by omega
  unfold Mx.grow
  rw[e,e2]
  grind
theorem Alt.units{n:Nat}{φ:Fn→Int}(A:Alt (n+1) φ):∀j,j<n+1→φ (Mx.grow j dl)=sg j*φ dl
 |0,_=>by
  rw[oW,Int.one_mul]
  refine A.cg _ _ fun r c hr hc=>?_
  unfold Mx.grow un dl
  grind
 |j+1,hj=>by
  have ih:=A.units j (by omega)
  have s:=A.swap (i:=0) (j:=j+1) (by omega) hj (by omega) (Mx.grow j dl)
  rw[rm,Int.neg_mul,←ih,←s]
  refine A.cg _ _ fun r c hr hc=>?_
  unfold Mx.grow un dl sw
  grind
theorem Alt.FP{n i k:Nat}{φ:Fn→Int}(A:Alt n φ)(hi:i<n)(hk:k<n)(hik:i≠k)(M:Fn)(x:Nat→Int)(t:Int):φ (upd M i fun c=>x c+t*M k c)=φ (upd M i x):=by
 rw[A.oq hi,A.j7 hi M t (M k),A.alt i k (upd M i (M k)) hi hk hik fun c _=>by rw[bH,aC (Ne.symm hik)],Int.mul_zero,Int.add_zero]
noncomputable def zr(j m:Nat)(M:Fn):Fn:=fun r c=>if r=0 then dl j c else if r≤m∧c=j then 0 else M r c
theorem Alt.zr{n j:Nat}{φ:Fn→Int}(A:Alt (n+1) φ)(M:Fn):∀m,m≤n→φ (Mx.zr j m M)=φ (upd M 0 (dl j))
 |0,_=>A.cg _ _ fun r c hr hc=>by unfold Mx.zr upd;grind
 |m+1,hm=>by
  rw[←A.zr M m (by omega)]
  have e:=A.FP (i:=m+1) (k:=0) (by omega) (by omega) (by omega) (Mx.zr j m M) (M (m+1)) (-M (m+1) j)
  have e1:φ (Mx.zr j (m+1) M)=φ (upd (Mx.zr j m M) (m+1) fun c=>M (m+1) c+ -M (m+1) j*Mx.zr j m M 0 c):=A.cg _ _ fun r c hr hc=>by
   unfold upd Mx.zr dl
   by_cases h0:r=m+1
   · subst h0
     by_cases h1:c=j
     · subst h1;simp;omega
     · have:¬j=c:=fun z=>h1 z.symm
       simp[h1,this]
   · rw[if_neg h0]
     grind
  have e2:φ (upd (Mx.zr j m M) (m+1) (M (m+1)))=φ (Mx.zr j m M):=A.cg _ _ fun r c hr hc=>by
   unfold upd Mx.zr
   grind
  rw[e1,e,e2]
theorem xT:∀ {n:Nat} {φ:Fn→Int},Alt n φ→∀M,φ M=φ dl*D n M
 |0,φ,A,M=>by rw[gI,Int.mul_one];exact A.cg _ _ fun r c hr=>by omega
 |n+1,φ,A,M=>by
  have h1:φ M=S (n+1) fun j=>M 0 j*φ (upd M 0 (dl j)):=by
   rw[←A.nF (by omega) M (M 0) dl (n+1)]
   refine A.cg _ _ fun r c hr hc=>?_
   by_cases h0:r=0
   · subst h0
     rw[bH,qr hc]
   · rw[aC h0]
  have h2:∀j,j<n+1→φ (upd M 0 (dl j))=φ (Mx.grow j fun r c=>M (r+1) (sk j c)):=fun j hj=>by
   rw[←A.zr M n (Nat.le_refl _)]
   refine A.cg _ _ fun r c hr hc=>?_
   unfold Mx.grow Mx.zr
   by_cases h0:r=0
   · rw[if_pos h0,if_pos h0]
   · rw[if_neg h0,if_neg h0]
     by_cases h3:c=j
     · rw[if_pos ⟨by omega,h3⟩,if_pos h3]
     · rw[if_neg (by omega),if_neg h3]
       dsimp only
       rw[xi h3,show r-1+1=r by omega]
  rw[h1,dh,←dD]
  refine aA fun j hj=>?_
  have h3:=xT (A.grow hj) fun r c=>M (r+1) (sk j c)
  have h4:=A.units j hj
  have h5:φ (Mx.grow j fun r c=>M (r+1) (sk j c))=φ (Mx.grow j dl)*D n fun r c=>M (r+1) (sk j c):=h3
  rw[h2 j hj,h5,h4]
  grind
theorem rB:∀n,D n dl=1
 |0=>rfl
 |n+1=>by
  rw[dh,lI (k:=0) (by omega) fun j hj h0=>by rw[eB (Ne.symm h0),Int.mul_zero,Int.zero_mul]]
  have:D n (fun r c=>dl (r+1) (sk 0 c))=D n dl:=a_ fun r c _ _=>by
   unfold dl sk
   grind
  rw[this,rB n,dO];rfl
theorem w6(n:Nat)(A B:Fn):D n (fun r c=>S n fun k=>A r k*B k c)=D n A*D n B:=by
 have al:Alt n fun A=>D n (fun r c=>S n fun k=>A r k*B k c):=by
  refine⟨fun M M' h=>a_ fun r c hr hc=>aA fun k hk=>by rw[h r k hr hk],fun i M P Q a b hi h0 h=>(jh n).mJ i _ _ _ a b hi (fun c hc=>?_) fun r c hr hc hne=>⟨aA fun k hk=>by rw[(h r k hr hk hne).1],aA fun k hk=>by rw[(h r k hr hk hne).2]⟩,fun i j M hi hj hij h=>(jh n).alt i j _ hi hj hij fun c hc=>aA fun k hk=>by rw[h k hk]⟩
  show(S n fun k=>M i k*B k c)=a*(S n fun k=>P i k*B k c)+b*S n fun k=>Q i k*B k c
  rw[←dD,←dD,←i_]
  refine aA fun k hk=>?_
  rw[h0 k hk]
  grind
 have h:=xT al A
 have e:D n (fun r c=>S n fun k=>dl r k*B k c)=D n B:=a_ fun r c hr hc=>mB hr fun k=>B k c
 rw[h,e,Int.mul_comm]
theorem zU:∀ {n:Nat} {M P Q:Fn} {a b:Int} {i:Nat},i<n→(∀r,r<n→M r i=a*P r i+b*Q r i)→(∀r c,r<n→c<n→c≠i→M r c=P r c∧M r c=Q r c)→D n M=a*D n P+b*D n Q
 |0,_,_,_,_,_,_,h,_,_=>by omega
 |n+1,M,P,Q,a,b,i,hi,h0,h=>by
  rw[dh,dh,dh,←dD,←dD,←i_]
  refine aA fun j hj=>?_
  by_cases hij:j=i
  · subst hij
    have hs:∀c,sk j c≠j:=fun c=>by unfold sk;split<;>omega
    have e1:D n (fun r c=>M (r+1) (sk j c))=D n (fun r c=>P (r+1) (sk j c)):=a_ fun r c hr hc=>(h (r+1) (sk j c) (by omega) (ju hc) (hs c)).1
    have e2:D n (fun r c=>M (r+1) (sk j c))=D n (fun r c=>Q (r+1) (sk j c)):=a_ fun r c hr hc=>(h (r+1) (sk j c) (by omega) (ju hc) (hs c)).2
    rw[h0 0 (by omega),←e1,←e2]
    grind
  · have p:=h 0 j (by omega) hj hij
    have hu:sk j (un j i)=i:=xi (Ne.symm hij)
    have hs:∀c,c≠un j i→sk j c≠i:=fun c hc=>by unfold sk;unfold un at hc;grind
    have hlt:un j i<n:=qK hj hi (Ne.symm hij)
    have e:=zU (n:=n) (M:=fun r c=>M (r+1) (sk j c)) (P:=fun r c=>P (r+1) (sk j c)) (Q:=fun r c=>Q (r+1) (sk j c)) (a:=a) (b:=b) (i:=un j i) hlt (fun r hr=>by
     rw[hu]
     exact h0 (r+1) (by omega)) fun r c hr hc hne=>h (r+1) (sk j c) (by omega) (ju hc) (hs c hne)
    rw[e,←p.1,←p.2]
    grind
theorem yD:∀ {n:Nat} {M:Fn} {i:Nat},i+1<n→(∀r,r<n→M r i=M r (i+1))→D n M=0
 |0,_,_,h,_=>by omega
 |n+1,M,i,hi,h=>by
  rw[dh]
  have key:∀j,j<n+1→j≠i→j≠i+1→D n (fun r c=>M (r+1) (sk j c))=0:=fun j hj h1 h2=>by
   refine yD (i:=un j i) (by unfold un;split<;>omega) fun r hr=>?_
   have e1:sk j (un j i)=i:=xi (Ne.symm h1)
   have e2:sk j (un j i+1)=i+1:=by unfold sk un;grind
   rw[e1,e2]
   exact h (r+1) (by omega)
  have e:D n (fun r c=>M (r+1) (sk i c))=D n (fun r c=>M (r+1) (sk (i+1) c)):=a_ fun r c hr hc=>by
   by_cases hc2:c=i
   · subst hc2
     have a1:sk c c=c+1:=by unfold sk;rw[if_neg (by omega)]
     have a2:sk (c+1) c=c:=by unfold sk;rw[if_pos (by omega)]
     rw[a1,a2]
     exact(h (r+1) (by omega)).symm
   · have a1:sk i c=sk (i+1) c:=by unfold sk;grind
     rw[a1]
  have two:∀(m:Nat) (f:Nat→Int),i+1<m→(∀j,j<m→j≠i→j≠i+1→f j=0)→S m f=f i+f (i+1):=fun m=>by
   induction m with
   |zero=>intro f h;omega
   |succ m ih=>
    intro f hm hf
    show S m f+f m=_
    by_cases hmi:m=i+1
    · subst hmi
      rw[lI (k:=i) (by omega) fun j hj hne=>hf j (by omega) hne (by omega)]
    · rw[ih f (by omega) fun j hj h1 h2=>hf j (by omega) h1 h2,hf m (by omega) (by omega) hmi,Int.add_zero]
  rw[two (n+1) _ hi fun j hj h1 h2=>by rw[key j hj h1 h2,Int.mul_zero],e,rm,h 0 (by omega)]
  grind
noncomputable def tr(M:Fn):Fn:=fun r c=>M c r
theorem lW(n:Nat)(M:Fn):D n (tr M)=D n M:=by
 have al:Alt n fun A=>D n (tr A):=qW (fun M M' h=>a_ fun r c hr hc=>h c r hc hr)
  (fun i M P Q a b hi h0 h=>zU hi (fun r hr=>h0 r hr) fun r c hr hc hne=>h c r hc hr hne)
  fun i M hi h=>yD hi fun r hr=>h r hr
 have h:=xT al M
 have e:D n (tr dl)=D n dl:=a_ fun r c _ _=>mh c r
 have h2:D n (tr M)=D n (tr dl)*D n M:=h
 rw[h2,e,rB,Int.one_mul]
noncomputable def Pr:Nat→(Nat→Int)→Int
 |0,_=>1
 |n+1,f=>Pr n f*f n
theorem qL:∀ {n:Nat} {M:Fn},(∀c,c<n+1→M n c=dl n c)→D (n+1) M=D n M
 |0,M,h=>by
  rw[dh]
  show 0+sg 0*M 0 0*D 0 _=1
  rw[h 0 (by omega),dO,oW,gI];omega
 |n+1,M,h=>by
  have e1:∀j,j<n+1→D (n+1) (fun r c=>M (r+1) (sk j c))=D n (fun r c=>M (r+1) (sk j c)):=fun j hj=>qL fun c hc=>by
   rw[h (sk j c) (ju hc)]
   unfold dl sk
   grind
  have e2:D (n+1) (fun r c=>M (r+1) (sk (n+1) c))=0:=(jh (n+1)).FW (i:=n) (by omega) fun c hc=>by
   have s:sk (n+1) c=c:=by unfold sk;rw[if_pos (by omega)]
   rw[s,h c (by omega),eB (by omega)]
  have e3:D (n+1+1) M=(S (n+1) fun j=>sg j*M 0 j*D (n+1) fun r c=>M (r+1) (sk j c))+sg (n+1)*M 0 (n+1)*D (n+1) (fun r c=>M (r+1) (sk (n+1) c)):=dh (n+1) M
  rw[e3,e2,Int.mul_zero,Int.add_zero,dh]
  exact aA fun j hj=>by rw[e1 j hj]
end Mx
namespace Mx
theorem kZ{M:Fn}{i j:Nat}{x y:Nat→Int}(h:i≠j):upd (upd M i x) j y=upd (upd M j y) i x:=by
 funext r c
 unfold upd
 grind
noncomputable def gx(R:Fn)(p:Nat)(x:Nat→Int)(j:Nat):Int:=D (p+1) fun r c=>if r<p then R r (if c<p then c else j)else x (if c<p then c else j)
theorem t9{R:Fn}{p j:Nat}{x:Nat→Int}(h:j<p):gx R p x j=0:=by
 unfold gx
 rw[←lW]
 refine(jh (p+1)).alt j p _ (by omega) (by omega) (by omega) fun c hc=>?_
 unfold tr
 dsimp only
 rw[if_pos h,if_neg (Nat.lt_irrefl p)]
noncomputable def bt(R:Fn)(p:Nat)(x:Nat→Int)(k:Nat):Int:=D (p+1) (upd (fun c r=>if r<p then R r c else x c) p (dl k))
theorem Cb(R:Fn)(p:Nat)(x:Nat→Int)(j:Nat):gx R p x j=D p R*x j+S p fun k=>bt R p x k*R k j:=by
 have e1:gx R p x j=D (p+1) (upd (fun c r=>if r<p then R r c else x c) p fun r=>S (p+1) fun k=>(if k<p then R k j else x j)*dl k r):=by
  unfold gx
  rw[←lW]
  refine a_ fun c r hc hr=>?_
  unfold tr upd
  by_cases h:c=p
  · subst h
    rw[if_pos rfl]
    dsimp only
    rw[qr hr,if_neg (Nat.lt_irrefl _)]
  · rw[if_neg h]
    dsimp only
    rw[if_pos (show c<p by omega)]
 rw[e1,(jh (p+1)).nF (by omega)]
 have e2:D (p+1) (upd (fun c r=>if r<p then R r c else x c) p (dl p))=D p R:=by
  rw[qL fun c _=>bH _ _ _ _]
  rw[←lW]
  refine a_ fun r c hr hc=>?_
  unfold tr
  rw[aC (by omega),if_pos (by omega)]
 have e3:(S (p+1) fun k=>(if k<p then R k j else x j)*D (p+1) (upd (fun c r=>if r<p then R r c else x c) p (dl k)))=(S p fun k=>(if k<p then R k j else x j)*D (p+1) (upd (fun c r=>if r<p then R r c else x c) p (dl k)))+(if p<p then R p j else x j)*D (p+1) (upd (fun c r=>if r<p then R r c else x c) p (dl p)):=rfl
 rw[e3,e2,if_neg (Nat.lt_irrefl p),Int.add_comm,Int.mul_comm]
 congr 1
 refine aA fun k hk=>?_
 rw[if_pos hk,Int.mul_comm]
 rfl
noncomputable def cl(p j1 j2 c:Nat):Nat:=if c<p then c else if c=p then j1 else j2
noncomputable def gy(R:Fn)(p:Nat)(x y:Nat→Int)(j1 j2:Nat):Int:=D (p+2) (upd (upd (fun r c=>R r (cl p j1 j2 c)) p fun c=>x (cl p j1 j2 c)) (p+1) fun c=>y (cl p j1 j2 c))
theorem GY{R:Fn}{p j1 j2:Nat}{x y:Nat→Int}(hd:D p R≠0):gx R p x j1*gx R p y j2-gx R p y j1*gx R p x j2=D p R*gy R p x y j1 j2:=by
 have A:=jh (p+2)
 let B:Fn:=fun r c=>R r (cl p j1 j2 c)
 let ps:(Nat→Int)→(Nat→Int)→Int:=fun u v=>D (p+2) (upd (upd B p u) (p+1) v)
 have s1:∀u,ps u (fun c=>gx R p y (cl p j1 j2 c))=D p R*ps u fun c=>y (cl p j1 j2 c):=fun u=>by
  have e:(fun c=>gx R p y (cl p j1 j2 c))=fun c=>(fun c=>D p R*y (cl p j1 j2 c)) c+S p fun k=>bt R p y k*upd B p u k c:=by
   funext c
   rw[Cb]
   congr 1
   refine aA fun k hk=>?_
   rw[aC (by omega)]
  show D (p+2) (upd (upd B p u) (p+1) fun c=>gx R p y (cl p j1 j2 c))=_
  rw[e,A.more (i:=p+1) (by omega) (upd B p u) (fun c=>D p R*y (cl p j1 j2 c)) (bt R p y) p (by omega) (by omega),A.j7 (by omega)]
 have s2:∀v,ps (fun c=>gx R p x (cl p j1 j2 c)) v=D p R*ps (fun c=>x (cl p j1 j2 c)) v:=fun v=>by
  have e:(fun c=>gx R p x (cl p j1 j2 c))=fun c=>(fun c=>D p R*x (cl p j1 j2 c)) c+S p fun k=>bt R p x k*upd B (p+1) v k c:=by
   funext c
   rw[Cb]
   congr 1
   refine aA fun k hk=>?_
   rw[aC (by omega)]
  show D (p+2) (upd (upd B p fun c=>gx R p x (cl p j1 j2 c)) (p+1) v)=D p R*D (p+2) (upd (upd B p fun c=>x (cl p j1 j2 c)) (p+1) v)
  rw[kZ (by omega),e,A.more (i:=p) (by omega) (upd B (p+1) v) (fun c=>D p R*x (cl p j1 j2 c)) (bt R p x) p (by omega) (by omega),A.j7 (by omega),kZ (by omega)]
 have lhs:ps (fun c=>gx R p x (cl p j1 j2 c)) (fun c=>gx R p y (cl p j1 j2 c))=D p R*(D p R*gy R p x y j1 j2):=by
  rw[s1,s2];rfl
 have two:∀z:Nat→Int,∀c,c<p+2→gx R p z (cl p j1 j2 c)=gx R p z j1*dl p c+gx R p z j2*dl (p+1) c:=fun z c hc=>by
  unfold cl
  by_cases h1:c<p
  · rw[if_pos h1,t9 h1,eB (by omega),eB (by omega)];omega
  · rw[if_neg h1]
    by_cases h2:c=p
    · rw[if_pos h2,h2,dO,eB (by omega)];omega
    · rw[if_neg h2,show c=p+1 by omega,dO,eB (by omega)];omega
 have lin2:∀u a b,ps u (fun c=>a*dl p c+b*dl (p+1) c)=a*ps u (dl p)+b*ps u (dl (p+1)):=fun u a b=>by
  show D (p+2) (upd (upd B p u) (p+1) fun c=>a*dl p c+b*dl (p+1) c)=_
  rw[A.oq (by omega),A.j7 (by omega),A.j7 (by omega)]
 have lin1:∀v a b,ps (fun c=>a*dl p c+b*dl (p+1) c) v=a*ps (dl p) v+b*ps (dl (p+1)) v:=fun v a b=>by
  show D (p+2) (upd (upd B p fun c=>a*dl p c+b*dl (p+1) c) (p+1) v)=a*D (p+2) (upd (upd B p (dl p)) (p+1) v)+b*D (p+2) (upd (upd B p (dl (p+1))) (p+1) v)
  rw[kZ (by omega),A.oq (by omega),A.j7 (by omega),A.j7 (by omega),kZ (by omega),kZ (show p+1≠p by omega)]
 have z1:∀u,ps u u=0:=fun u=>A.alt p (p+1) _ (by omega) (by omega) (by omega) fun c _=>by rw[aC (by omega),bH,bH]
 have z2:ps (dl (p+1)) (dl p)= -ps (dl p) (dl (p+1)):=by
  have h:=A.swap (i:=p) (j:=p+1) (by omega) (by omega) (by omega) (upd (upd B p (dl p)) (p+1) (dl (p+1)))
  rw[←h]
  refine a_ fun r c hr hc=>?_
  unfold upd sw
  grind
 have z3:ps (dl p) (dl (p+1))=D p R:=by
  show D (p+2) (upd (upd B p (dl p)) (p+1) (dl (p+1)))=_
  rw[qL fun c _=>bH _ _ _ _]
  have e:D (p+1) (upd (upd B p (dl p)) (p+1) (dl (p+1)))=D (p+1) (upd B p (dl p)):=a_ fun r c hr hc=>aC (by omega) c
  rw[e,qL fun c _=>bH _ _ _ _]
  refine a_ fun r c hr hc=>?_
  rw[aC (by omega)]
  show R r (cl p j1 j2 c)=R r c
  unfold cl
  rw[if_pos hc]
 have rhs:ps (fun c=>gx R p x (cl p j1 j2 c)) (fun c=>gx R p y (cl p j1 j2 c))=D p R*(gx R p x j1*gx R p y j2-gx R p y j1*gx R p x j2):=by
  have e:ps (fun c=>gx R p x (cl p j1 j2 c)) (fun c=>gx R p y (cl p j1 j2 c))=ps (fun c=>gx R p x j1*dl p c+gx R p x j2*dl (p+1) c) (fun c=>gx R p y j1*dl p c+gx R p y j2*dl (p+1) c):=a_ fun r c hr hc=>by
   unfold upd
   by_cases h1:r=p+1
   · rw[if_pos h1,if_pos h1];exact two y c hc
   · rw[if_neg h1,if_neg h1]
     by_cases h2:r=p
     · rw[if_pos h2,if_pos h2];exact two x c hc
     · rw[if_neg h2,if_neg h2]
  rw[e,lin1,lin2,lin2,z1,z1,z2,z3]
  grind
 have:=lhs.symm.trans rhs
 exact(Int.eq_of_mul_eq_mul_left hd this).symm
theorem HL{n:Nat}{f:Nat→Int}{m:Nat}(h:∀i,i<n→(f i).natAbs≤m):(S n f).natAbs≤n*m:=by
 induction n with
 |zero=>simp[S]
 |succ n ih=>
  have h1:=ih fun i hi=>h i (by omega)
  have h2:=h n (by omega)
  show(S n f+f n).natAbs≤_
  rw[Nat.succ_mul]
  omega
theorem qs{m:Nat}:∀ {n:Nat} {M:Fn},n≤8→(∀r c,r<n→c<n→(M r c).natAbs≤m)→(D n M).natAbs≤(8*m)^n
 |0,_,_,_=>by simp[D]
 |n+1,M,hn,h=>by
  rw[dh]
  have key:∀j,j<n+1→(sg j*M 0 j*D n fun r c=>M (r+1) (sk j c)).natAbs≤m*(8*m)^n:=fun j hj=>by
   have a:=qs (n:=n) (M:=fun r c=>M (r+1) (sk j c)) (by omega) fun r c hr hc=>h (r+1) (sk j c) (by omega) (ju hc)
   have b:=h 0 j (by omega) hj
   have s:(sg j).natAbs=1:=by unfold sg;split<;>rfl
   rw[Int.natAbs_mul,Int.natAbs_mul,s,Nat.one_mul]
   exact Nat.mul_le_mul b a
  have e:=HL key
  refine Nat.le_trans e ?_
  rw[Nat.pow_succ,Nat.mul_comm ((8*m)^n),Nat.mul_assoc]
  have:(n+1)*(m*(8*m)^n)≤8*(m*(8*m)^n):=Nat.mul_le_mul_right _ hn
  exact this
end Mx
namespace Mx
end Mx
namespace Mx
theorem kC(R:Fn)(x:Nat→Int)(j:Nat):gx R 0 x j=x j:=by
 unfold gx
 rw[dh]
 show 0+sg 0*_*D 0 _=_
 rw[oW,gI,if_neg (by omega),if_neg (by omega)]
 omega
theorem ky(R:Fn)(p:Nat):gx R p (R p) p=D (p+1) R:=a_ fun r c hr hc=>by
 have e2:(if c<p then c else p)=c:=by split<;>omega
 rw[e2]
 split
 · rfl
 · have:r=p:=by omega
   rw[this]
theorem HU(R:Fn)(p:Nat)(y:Nat→Int)(j:Nat):gy R p (R p) y p j=gx R (p+1) y j:=by
 unfold gy gx
 refine a_ fun r c hr hc=>?_
 have ec:cl p p j c=if c<p+1 then c else j:=by unfold cl;grind
 unfold upd
 dsimp only
 rw[ec]
 by_cases a1:r=p+1
 · rw[if_pos a1,if_neg (show¬r<p+1 by omega)]
 · rw[if_neg a1,if_pos (show r<p+1 by omega)]
   by_cases a2:r=p
   · rw[if_pos a2,a2]
   · rw[if_neg a2]
theorem jB{R:Fn}{p:Nat}(hd:D p R≠0)(y:Nat→Int)(j:Nat):D (p+1) R*gx R p y j-gx R p y p*gx R p (R p) j=D p R*gx R (p+1) y j:=by
 rw[←HU,←GY hd,ky]
theorem kQ{G:Fn}(sym:∀i j,G i j=G j i)(p k j:Nat):gx G p (G k) j=gx G p (G j) k:=by
 unfold gx
 rw[←lW]
 refine a_ fun r c hr hc=>?_
 unfold tr
 by_cases h1:c<p
 · by_cases h2:r<p
   · simp only[if_pos h1,if_pos h2];exact sym _ _
   · simp only[if_pos h1,if_neg h2];exact sym _ _
 · by_cases h2:r<p
   · simp only[if_neg h1,if_pos h2];exact sym _ _
   · simp only[if_neg h1,if_neg h2];exact sym _ _
theorem zf{G:Fn}{n m p i j:Nat}(hn:n≤8)(hb:∀r c,r<n→c<n→(G r c).natAbs≤m)(hp:p<n)(hi:i<n)(hj:j<n):(gx G p (G i) j).natAbs≤(8*m)^(p+1):=
 qs (by omega) fun r c hr hc=>by
  split
  · exact hb _ _ (by omega) (by split<;>omega)
  · exact hb _ _ hi (by split<;>omega)
noncomputable def lam(G:Fn)(i j:Nat):Int:=gx G j (G i) j
theorem dz(G:Fn)(i:Nat):lam G i i=D (i+1) G:=ky G i
theorem vv{G:Fn}(sym:∀i j,G i j=G j i){k:Nat}(hd:D k G≠0)(i j:Nat):(D (k+1) G*gx G k (G i) j-lam G i k*lam G j k).fdiv (D k G)=gx G (k+1) (G i) j:=by
 have h:=jB hd (G i) j
 rw[kQ sym k k j]at h
 unfold lam
 rw[h,Int.mul_fdiv_cancel_left _ hd]
noncomputable def ab(A:Rows):Fn:=fun i j=>fz (A.getD i []) (A.getD j [])
end Mx
namespace Mx
theorem vo:∀a b:Row,fz a b=fz b a
 | [],[]=>rfl
 | [],_::_=>rfl
 |_::_,[]=>rfl
 |a::as,b::bs=>by
  unfold fz
  rw[vo as bs,Int.mul_comm]
theorem iU(A:Rows)(i j:Nat):ab A i j=ab A j i:=vo _ _
noncomputable def aO(G:Fn)(i:Nat):Row:=(List.range (i+1)).map fun j=>lam G i j
noncomputable def nP(G:Fn)(n:Nat):Rows:=(List.range n).map (aO G)
theorem d_(G:Fn)(i:Nat):(aO G i).length=i+1:=by unfold aO;simp
theorem iR(G:Fn){i j:Nat}(h:j≤i):(aO G i).getD j 0=lam G i j:=by
 unfold aO
 rw[bj (by simp;omega),List.getElem_map,List.getElem_range]
theorem uP(G:Fn)(n:Nat):(nP G n).length=n:=by unfold nP;simp
theorem wg(G:Fn){n i:Nat}(h:i<n):(nP G n).getD i []=aO G i:=by
 unfold nP
 rw[bj (by simpa using h),List.getElem_map,List.getElem_range]
end Mx
namespace Mx
noncomputable def RA(A:Rows)(N:Nat):Fn:=fun i j=>if j<N then ab A i j else(A.getD i []).getD (j-N) 0
noncomputable def ev(A:Rows)(N i k c:Nat):Int:=gx (RA A N) k (RA A N i) (N+c)
theorem AL{A:Rows}{N k:Nat}(hk:k≤N):D k (RA A N)=D k (ab A):=a_ fun r c hr hc=>if_pos (by omega)
theorem Hc{A:Rows}{N k i j:Nat}(hk:k≤N)(hj:j<N):gx (RA A N) k (RA A N i) j=gx (ab A) k (ab A i) j:=a_ fun r c hr hc=>by
 have h:(if c<k then c else j)<N:=by split<;>omega
 unfold RA
 rw[if_pos h,if_pos h]
theorem rH(A:Rows)(N i c:Nat):ev A N i 0 c=(A.getD i []).getD c 0:=by
 unfold ev
 rw[kC]
 unfold RA
 rw[if_neg (by omega)]
 congr 1;omega
theorem rS{A:Rows}{N k:Nat}(hk:k<N)(hd:D k (ab A)≠0)(i c:Nat):D k (ab A)*ev A N i (k+1) c=D (k+1) (ab A)*ev A N i k c-lam (ab A) i k*ev A N k k c:=by
 have h:=jB (R:=RA A N) (p:=k) (by rw[AL (by omega)];exact hd) (RA A N i) (N+c)
 rw[AL (by omega),AL (by omega),Hc (by omega) hk]at h
 unfold ev lam
 omega
theorem iH(n:Nat)(a b:Int)(f g:Nat→Int):S n (fun c=>a*f c-b*g c)=a*S n f-b*S n g:=by
 induction n with
 |zero=>show(0:Int)=a*0-b*0;omega
 |succ n ih=>
  show S n (fun c=>a*f c-b*g c)+(a*f n-b*g n)=a*(S n f+f n)-b*(S n g+g n)
  rw[ih,Int.mul_add,Int.mul_add];omega
theorem cancel{a x y:Int}(ha:a≠0)(h:a*x=a*y):x=y:=Int.eq_of_mul_eq_mul_left ha h
section
variable {A:Rows}{N w:Nat}
theorem mz(hA:cz N w A)(hD:∀k,k≤N→D k (ab A)≠0){m:Nat}(hm:m<N):∀(k i:Nat),k≤N→i<N→S w (fun c=>ev A N i k c*(A.getD m []).getD c 0)=gx (ab A) k (ab A i) m
 |0,i,_,hi=>by
  rw[kC]
  have hl:=hA.len
  have e1:(A.getD i []).length=w:=hA.jf _ (by rw[bj (by omega)];exact List.getElem_mem _)
  have e2:(A.getD m []).length=w:=hA.jf _ (by rw[bj (by omega)];exact List.getElem_mem _)
  unfold ab
  rw[jc (by rw[e1,e2]),e2]
  refine aA fun c hc=>?_
  rw[rH]
 |k+1,i,hk,hi=>by
  have hd:=hD k (by omega)
  refine cancel hd ?_
  rw[←dD,←jB hd (ab A i) m]
  have e:S w (fun c=>D k (ab A)*(ev A N i (k+1) c*(A.getD m []).getD c 0))=S w fun c=>D (k+1) (ab A)*(ev A N i k c*(A.getD m []).getD c 0)-lam (ab A) i k*(ev A N k k c*(A.getD m []).getD c 0):=aA fun c hc=>by
   rw[←Int.mul_assoc,rS (by omega) hd,Int.sub_mul,Int.mul_assoc,Int.mul_assoc]
  rw[e,iH,mz hA hD hm k i (by omega) hi,mz hA hD hm k k (by omega) (by omega)]
  rfl
theorem rV(hA:cz N w A)(hD:∀k,k≤N→D k (ab A)≠0){i:Nat}(hi:i<N):∀(k j:Nat),k≤j→j<i→S w (fun c=>ev A N i i c*ev A N j k c)=0
 |0,j,_,hj=>by
  have:=mz hA hD (m:=j) (by omega) i i (by omega) hi
  rw[t9 hj]at this
  rw[←this]
  exact aA fun c hc=>by rw[rH]
 |k+1,j,hk,hj=>by
  have hd:=hD k (by omega)
  refine cancel hd ?_
  rw[←dD]
  have e:S w (fun c=>D k (ab A)*(ev A N i i c*ev A N j (k+1) c))=S w fun c=>D (k+1) (ab A)*(ev A N i i c*ev A N j k c)-lam (ab A) j k*(ev A N i i c*ev A N k k c):=aA fun c hc=>by
   rw[Int.mul_left_comm,rS (by omega) hd,Int.mul_sub,Int.mul_left_comm,Int.mul_left_comm (ev A N i i c)]
  rw[e,iH,rV hA hD hi k j (by omega) hj,rV hA hD hi k k (Nat.le_refl _) (by omega)]
  simp
theorem lq(hA:cz N w A)(hD:∀k,k≤N→D k (ab A)≠0){i:Nat}(hi:i<N):∀k,k≤i→S w (fun c=>ev A N i i c*ev A N i k c)=D k (ab A)*D (i+1) (ab A)
 |0,_=>by
  have:=mz hA hD (m:=i) hi i i (by omega) hi
  rw[ky]at this
  rw[gI,Int.one_mul,←this]
  exact aA fun c hc=>by rw[rH]
 |k+1,hk=>by
  have hd:=hD k (by omega)
  refine cancel hd ?_
  rw[←dD]
  have e:S w (fun c=>D k (ab A)*(ev A N i i c*ev A N i (k+1) c))=S w fun c=>D (k+1) (ab A)*(ev A N i i c*ev A N i k c)-lam (ab A) i k*(ev A N i i c*ev A N k k c):=aA fun c hc=>by
   rw[Int.mul_left_comm,rS (by omega) hd,Int.mul_sub,Int.mul_left_comm,Int.mul_left_comm (ev A N i i c)]
  rw[e,iH,lq hA hD hi k (by omega),rV hA hD hi k k (Nat.le_refl _) (by omega),Int.mul_zero,Int.sub_zero,Int.mul_left_comm]
end
end Mx
namespace Mx
theorem kG{n:Nat}{f:Nat→Int}(h:∀i,i<n→0≤f i):0≤S n f:=by
 induction n with
 |zero=>exact Int.le_refl _
 |succ n ih=>exact Int.add_nonneg (ih fun i hi=>h i (by omega)) (h n (by omega))
theorem sq_nonneg(x:Int):0≤x*x:=by
 rcases Int.le_total 0 x with h|h
 · exact Int.mul_nonneg h h
 · exact Int.mul_nonneg_of_nonpos_of_nonpos h h
theorem je{A:Rows}{N w:Nat}(hA:cz N w A)(hD:∀k,k≤N→D k (ab A)≠0):∀k,k≤N→0<D k (ab A)
 |0,_=>by rw[gI];decide
 |k+1,hk=>by
  have ih:=je hA hD k (by omega)
  have h:=lq hA hD (i:=k) (by omega) k (Nat.le_refl _)
  have h2:0≤D k (ab A)*D (k+1) (ab A):=by rw[←h];exact kG fun i _=>sq_nonneg _
  have h3:=Int.nonneg_of_mul_nonneg_right h2 ih
  have h4:=hD (k+1) hk
  omega
structure Sh(G:Fn)(N:Nat):Prop where
 half:∀i j,j<i→i<N→2*(((lam G i j).natAbs:Nat):Int)≤D (j+1) G
 Gj:∀i,0<i→i<N→¬4*D (i+1) G*D (i-1) G<3*D i G*D i G-4*lam G i (i-1)*lam G i (i-1)
end Mx
namespace Mx
noncomputable def mF(M:Fn)(k j:Nat)(q:Int):Fn:=fun a b=>if a=k then M a b-q*M j b else M a b
noncomputable def ou(M:Fn)(k j:Nat)(q:Int):Fn:=fun a b=>if b=k then M a b-q*M a j else M a b
noncomputable def tk(G:Fn)(k j:Nat)(q:Int):Fn:=ou (mF G k j q) k j q
theorem Ce{n k j:Nat}(M:Fn)(q:Int)(hk:k<n)(hj:j<n)(h:k≠j):D n (mF M k j q)=D n M:=by
 have e:=(jh n).FP hk hj h M (M k) (-q)
 have e1:D n (upd M k fun c=>M k c+ -q*M j c)=D n (mF M k j q):=a_ fun r c _ _=>by
  unfold upd mF
  by_cases hr:r=k
  · rw[if_pos hr,if_pos hr,hr]
    dsimp only
    rw[Int.neg_mul];omega
  · rw[if_neg hr,if_neg hr]
 have e2:D n (upd M k (M k))=D n M:=a_ fun r c _ _=>by
  unfold upd
  by_cases hr:r=k
  · rw[if_pos hr,hr]
  · rw[if_neg hr]
 rw[←e1,e,e2]
theorem BP{n k j:Nat}(M:Fn)(q:Int)(hk:k<n)(hj:j<n)(h:k≠j):D n (ou M k j q)=D n M:=by
 rw[←lW n M,←Ce (tr M) q hk hj h,←lW n (ou M k j q)]
 exact a_ fun r c _ _=>rfl
theorem fm(G:Fn)(i p:Nat):lam G i p=D (p+1) fun r c=>G (if r<p then r else i) c:=a_ fun r c hr hc=>by
 have e:(if c<p then c else p)=c:=by split<;>omega
 rw[e]
 split<;>rfl
theorem FC{G:Fn}{p j c:Nat}(h:j<p):gx G p (G j) c=0:=by
 unfold gx
 refine(jh (p+1)).alt j p _ (by omega) (by omega) (by omega) fun c' hc'=>?_
 rw[if_pos h,if_neg (Nat.lt_irrefl p)]
theorem qO{G:Fn}{j p:Nat}(h:j<p):lam G j p=0:=FC h
theorem Eg{G:Fn}{k j i p:Nat}{q:Int}(hj:j<k)(hp:p≤i):lam (tk G k j q) i p=lam G i p-if i=k then q*lam G j p else 0:=by
 by_cases h1:p<k
 · by_cases hi:i=k
   · rw[if_pos hi,fm,fm,fm]
     have e:=xo (n:=p+1) (M:=fun r c=>tk G k j q (if r<p then r else i) c) (P:=fun r c=>G (if r<p then r else i) c) (Q:=fun r c=>G (if r<p then r else j) c) (a:=1) (b:= -q) (i:=p) (by omega) (fun c hc=>by
      try dsimp only
      rw[if_neg (Nat.lt_irrefl p)]
      rw[if_neg (Nat.lt_irrefl p)]
      unfold tk ou mF
      rw[if_neg (by omega),if_pos hi,hi,Int.neg_mul];omega) (fun r c hr hc hne=>by
      try dsimp only
      have hrp:r<p:=by omega
      rw[if_pos hrp,if_pos hrp]
      unfold tk ou mF
      rw[if_neg (by omega),if_neg (by omega)]
      exact⟨rfl,rfl⟩)
     rw[e,Int.one_mul,Int.neg_mul];omega
   · rw[if_neg hi,Int.sub_zero,fm,fm]
     refine a_ fun r c hr hc=>?_
     unfold tk ou mF
     rw[if_neg (by omega),if_neg (by split<;>omega)]
 · have e0:(if i=k then q*lam G j p else 0)=0:=by
    split
    · rw[qO (by omega),Int.mul_zero]
    · rfl
   rw[e0,Int.sub_zero,fm,fm]
   by_cases h2:k<p∨i=k
   ·
    have hkk:∀r,r<p+1→((if r<p then r else i)=k↔r=if k<p then k else p):=fun r hr=>by
     by_cases hkp:k<p
     · rw[if_pos hkp];split<;>omega
     · rw[if_neg hkp];split<;>omega
    have hk':(if k<p then k else p)=k:=by split<;>omega
    rw[←Ce (fun r c=>G (if r<p then r else i) c) q (show k<p+1 by omega) (show j<p+1 by omega) (by omega),←BP (mF (fun r c=>G (if r<p then r else i) c) k j q) q (show k<p+1 by omega) (show j<p+1 by omega) (by omega)]
    refine a_ fun r c hr hc=>?_
    have hrk:=hkk r hr
    rw[hk']at hrk
    have hjj:(if j<p then j else i)=j:=if_pos (by omega)
    unfold tk ou mF
    by_cases hr2:r=k
    · subst hr2
      have:=hrk.mpr rfl
      simp only[this,if_true,hjj]
    · have hne:¬(if r<p then r else i)=k:=fun z=>hr2 (hrk.mp z)
      simp only[if_neg hne,if_neg hr2]
   · have hpk:p=k:=by omega
     have hik:i≠k:=by omega
     rw[←BP (fun r c=>G (if r<p then r else i) c) q (show k<p+1 by omega) (show j<p+1 by omega) (by omega)]
     refine a_ fun r c hr hc=>?_
     have hne:¬(if r<p then r else i)=k:=by split<;>omega
     unfold tk ou mF
     simp only[if_neg hne]
end Mx
namespace Mx
noncomputable def bG(G:Fn)(t:Nat):Fn:=fun a b=>G (sw t (t+1) a) (sw t (t+1) b)
theorem uW(t:Nat):sw t (t+1) t=t+1:=if_pos rfl
theorem yf(t:Nat):sw t (t+1) (t+1)=t:=by unfold sw;rw[if_neg (by omega),if_pos rfl]
theorem hO{t a:Nat}(h1:a≠t)(h2:a≠t+1):sw t (t+1) a=a:=by unfold sw;rw[if_neg h1,if_neg h2]
theorem BA{n i j:Nat}(hi:i<n)(hj:j<n)(h:i≠j)(M:Fn):D n (fun r c=>M (sw i j r) c)= -D n M:=(jh n).swap hi hj h M
theorem Hm{n i j:Nat}(hi:i<n)(hj:j<n)(h:i≠j)(M:Fn):D n (fun r c=>M r (sw i j c))= -D n M:=by
 rw[←lW n M,←BA hi hj h (tr M),←lW]
 exact a_ fun r c _ _=>rfl
theorem GP{n t:Nat}(h:t+1<n)(M:Fn):D n (fun r c=>M (sw t (t+1) r) (sw t (t+1) c))=D n M:=by
 have e1:=BA (n:=n) (i:=t) (j:=t+1) (by omega) h (by omega) fun r c=>M r (sw t (t+1) c)
 have e2:=Hm (n:=n) (i:=t) (j:=t+1) (by omega) h (by omega) M
 rw[e1,e2];omega
theorem kq{G:Fn}{t p:Nat}(h:p≠t+1):D p (bG G t)=D p G:=by
 by_cases h1:p≤t
 · refine a_ fun r c hr hc=>?_
   unfold bG
   rw[hO (by omega) (by omega),hO (by omega) (by omega)]
 · exact GP (by omega) G
theorem jM{G:Fn}{t i p:Nat}(h:p<t):lam (bG G t) i p=lam G (sw t (t+1) i) p:=by
 rw[fm,fm]
 refine a_ fun r c hr hc=>?_
 unfold bG
 rw[hO (a:=c) (by omega) (by omega)]
 by_cases hr2:r<p
 · rw[if_pos hr2,if_pos hr2,hO (by omega) (by omega)]
 · rw[if_neg hr2,if_neg hr2]
theorem Bh{G:Fn}{t i p:Nat}(h:t+1<p)(hi:p≤i):lam (bG G t) i p=lam G i p:=by
 rw[fm,fm,←GP (n:=p+1) (t:=t) (by omega) (fun r c=>G (if r<p then r else i) c)]
 refine a_ fun r c hr hc=>?_
 unfold bG
 by_cases hr2:r<p
 · have:sw t (t+1) r<p:=by
    unfold sw
    by_cases h1:r=t
    · rw[if_pos h1];omega
    · rw[if_neg h1]
      by_cases h2:r=t+1
      · rw[if_pos h2];omega
      · rw[if_neg h2];exact hr2
   rw[if_pos hr2,if_pos this]
 · have e:r=p:=by omega
   rw[if_neg hr2,e,hO (a:=p) (by omega) (by omega),if_neg (Nat.lt_irrefl p),hO (a:=i) (by omega) (by omega)]
theorem p6{G:Fn}{t i:Nat}:lam (bG G t) i t=gx G t (G (sw t (t+1) i)) (t+1):=by
 unfold lam gx
 refine a_ fun r c hr hc=>?_
 have ec:sw t (t+1) (if c<t then c else t)=if c<t then c else t+1:=by
  by_cases h:c<t
  · rw[if_pos h,if_pos h,hO (by omega) (by omega)]
  · rw[if_neg h,if_neg h,uW]
 unfold bG
 rw[ec]
 by_cases hr2:r<t
 · rw[if_pos hr2,if_pos hr2,hO (by omega) (by omega)]
 · rw[if_neg hr2,if_neg hr2]
section
variable {G:Fn}{t:Nat}(sym:∀i j,G i j=G j i)
include sym
theorem C6:∀i j,bG G t i j=bG G t j i:=fun i j=>sym _ _
theorem t8:lam (bG G t) (t+1) t=lam G (t+1) t:=by
 rw[p6,yf,kQ sym];rfl
theorem mq(hd:D t G≠0):D (t+1) G*lam (bG G t) t t=D t G*D (t+2) G+lam G (t+1) t*lam G (t+1) t:=by
 have h:=jB hd (G (t+1)) (t+1)
 rw[ky,kQ sym t t (t+1)]at h
 rw[p6,uW]
 unfold lam
 rw[show t+1+1=t+2 from rfl]at h
 omega
theorem FE:lam (bG G t) (t+1) (t+1)=lam G (t+1) (t+1):=by
 rw[dz,dz];exact kq (by omega)
theorem yU(hd:D t G≠0){i:Nat}(hi:t+1<i):D (t+1) G*lam (bG G t) i t=D t G*lam G i (t+1)+lam G (t+1) t*lam G i t:=by
 have h:=jB hd (G i) (t+1)
 rw[kQ sym t t (t+1)]at h
 rw[p6,hO (by omega) (by omega)]
 unfold lam
 have e:gx G t (G i) t*gx G t (G (t+1)) t=gx G t (G (t+1)) t*gx G t (G i) t:=Int.mul_comm _ _
 omega
theorem Bx(hd:D t G≠0)(hd1:D (t+1) G≠0){i:Nat}(hi:t+1<i):D (t+1) G*lam (bG G t) i (t+1)=D (t+2) G*lam G i t-lam G (t+1) t*lam G i (t+1):=by
 have hd':D t (bG G t)≠0:=by rw[kq (by omega)];exact hd
 have h:=jB hd' (bG G t i) (t+1)
 have e1:gx (bG G t) t (bG G t i) (t+1)=lam G i t:=by
  unfold lam gx
  refine a_ fun r c hr hc=>?_
  have ec:sw t (t+1) (if c<t then c else t+1)=if c<t then c else t:=by
   by_cases h:c<t
   · rw[if_pos h,if_pos h,hO (by omega) (by omega)]
   · rw[if_neg h,if_neg h,yf]
  unfold bG
  rw[ec]
  by_cases hr2:r<t
  · rw[if_pos hr2,if_pos hr2,hO (by omega) (by omega)]
  · rw[if_neg hr2,if_neg hr2,hO (by omega) (by omega)]
 have e2:gx (bG G t) t (bG G t i) t=lam (bG G t) i t:=rfl
 have e3:gx (bG G t) t (bG G t t) (t+1)=lam G (t+1) t:=by
  rw[kQ (C6 sym)];exact t8 sym
 have e4:gx (bG G t) (t+1) (bG G t i) (t+1)=lam (bG G t) i (t+1):=rfl
 have e5:D (t+1) (bG G t)=lam (bG G t) t t:=(dz _ _).symm
 rw[e1,e2,e3,e4,e5,kq (by omega)]at h
 have m:=mq (t:=t) sym hd
 have l:=yU sym hd hi
 refine cancel hd ?_
 grind
theorem DC(hd:D t G≠0)(hd1:D (t+1) G≠0){i:Nat}(hi:t+1<i):D (t+2) G*lam (bG G t) i t=lam (bG G t) t t*lam G i (t+1)+lam G (t+1) t*lam (bG G t) i (t+1):=by
 have m:=mq (t:=t) sym hd
 have l:=yU sym hd hi
 have u:=Bx sym hd hd1 hi
 refine cancel hd1 ?_
 grind
end
end Mx
namespace Mx
theorem Ec{a b c x y:Int}(ha:0≤a)(hb:0≤b)(h:c*c≤a*b):2*(c*(x*y))≤a*(y*y)+b*(x*x):=by
 by_cases h0:a=0
 · subst h0
   have hc:c=0:=by
    have h1:=sq_nonneg c
    have h2:c*c=0:=by omega
    rcases Int.mul_eq_zero.mp h2 with h|h<;>exact h
   subst hc
   have:=Int.mul_nonneg hb (sq_nonneg x)
   omega
 · have hp:0<a:=by omega
   have h1:=sq_nonneg (a*y-c*x)
   have h2:=Int.mul_le_mul_of_nonneg_right h (sq_nonneg x)
   refine Int.le_of_mul_le_mul_left (a:=a) ?_ hp
   have e1:(a*y-c*x)*(a*y-c*x)=a*(a*(y*y))-a*(2*(c*(x*y)))+c*c*(x*x):=by grind
   have e2:a*(a*(y*y)+b*(x*x))=a*(a*(y*y))+a*b*(x*x):=by grind
   rw[e1]at h1
   rw[e2]
   omega
theorem um(n:Nat)(f g:Nat→Int):S n (fun i=>f i*g i)*S n (fun i=>f i*g i)≤S n (fun i=>f i*f i)*S n (fun i=>g i*g i):=by
 induction n with
 |zero=>exact Int.le_refl _
 |succ n ih=>
  show(S n (fun i=>f i*g i)+f n*g n)*(S n (fun i=>f i*g i)+f n*g n)≤(S n (fun i=>f i*f i)+f n*f n)*(S n (fun i=>g i*g i)+g n*g n)
  have ha:0≤S n fun i=>f i*f i:=kG fun i _=>sq_nonneg _
  have hb:0≤S n fun i=>g i*g i:=kG fun i _=>sq_nonneg _
  generalize S n (fun i=>f i*f i)=a at*
  generalize S n (fun i=>g i*g i)=b at*
  generalize S n (fun i=>f i*g i)=c at*
  have h:=Ec (x:=f n) (y:=g n) ha hb ih
  have e1:(c+f n*g n)*(c+f n*g n)=c*c+2*(c*(f n*g n))+(f n*f n)*(g n*g n):=by grind
  have e2:(a+f n*f n)*(b+g n*g n)=a*b+(a*(g n*g n)+b*(f n*f n))+(f n*f n)*(g n*g n):=by grind
  rw[e1,e2]
  omega
section
variable {A:Rows}{N w:Nat}
theorem bM(hA:cz N w A){i:Nat}(hi:i<N):(A.getD i []).length=w:=hA.jf _ (by have:=hA.len;rw[bj (by omega)];exact List.getElem_mem _)
theorem gH(hA:cz N w A){i j:Nat}(hi:i<N)(hj:j<N):ab A i j=S w fun c=>(A.getD i []).getD c 0*(A.getD j []).getD c 0:=by
 unfold ab
 rw[jc (by rw[bM hA hi,bM hA hj]),bM hA hj]
theorem eJ(hA:cz N w A){i:Nat}(hi:i<N):0≤ab A i i:=by
 rw[gH hA hi hi];exact kG fun c _=>sq_nonneg _
theorem Gf(hA:cz N w A)(hD:∀k,k≤N→D k (ab A)≠0){k j:Nat}(hk:k<N)(hj:j<N):lam (ab A) k j*lam (ab A) k j≤D j (ab A)*D (j+1) (ab A)*ab A k k:=by
 have h1:=mz hA hD (m:=k) hk j j (by omega) hj
 rw[kQ (iU A)]at h1
 have h2:=um w (fun c=>ev A N j j c) (fun c=>(A.getD k []).getD c 0)
 rw[lq hA hD hj j (Nat.le_refl _),←gH hA hk hk]at h2
 have h3:S w (fun c=>ev A N j j c*(A.getD k []).getD c 0)=lam (ab A) k j:=h1
 rw[h3]at h2
 exact h2
theorem GJ(hA:cz N w A)(hD:∀k,k≤N→D k (ab A)≠0){m:Int}(hm:∀k,k≤N→D k (ab A)≤m){i:Nat}(hi:i<N)(hh:∀j,j<i→2*(((lam (ab A) i j).natAbs:Nat):Int)≤D (j+1) (ab A)):
 ∀d,d≤i→gx (ab A) (i-d) (ab A i) i≤D (i-d) (ab A)*((d+1:Nat)*m):=by
 have hp:=je hA hD
 intro d
 induction d with
 |zero=>
  intro _
  rw[Nat.sub_zero,ky]
  have h1:=hm (i+1) (by omega)
  have h2:=hp i (by omega)
  have h3:=hp (i+1) (by omega)
  have:(((0+1:Nat):Int)*m)=m:=by simp
  rw[this]
  calc D (i+1) (ab A)≤1*m:=by omega
   _≤D i (ab A)*m:=Int.mul_le_mul_of_nonneg_right (by omega) (by omega)
 |succ d ih=>
  intro hd
  obtain⟨p,ep⟩:∃p,i-d=p+1:=⟨i-d-1,by omega⟩
  have ep2:i-(d+1)=p:=by omega
  rw[ep2]
  have ih:=ih (by omega)
  rw[ep]at ih
  have q1:=hp p (by omega)
  have q2:=hp (p+1) (by omega)
  have q3:=hm (p+1) (by omega)
  have hl:=hh p (by omega)
  have nx:=jB (R:=ab A) (p:=p) (by omega) (ab A i) i
  rw[kQ (iU A) p p i]at nx
  have hll:lam (ab A) i p*lam (ab A) i p≤D (p+1) (ab A)*D (p+1) (ab A):=by
   have:lam (ab A) i p*lam (ab A) i p=(((lam (ab A) i p).natAbs:Nat):Int)*(((lam (ab A) i p).natAbs:Nat):Int):=(Int.natAbs_mul_self' _).symm
   rw[this]
   exact Int.mul_le_mul (by omega) (by omega) (by omega) (by omega)
  refine Int.le_of_mul_le_mul_left (a:=D (p+1) (ab A)) ?_ q2
  have h5:=Int.mul_le_mul_of_nonneg_left ih (show 0≤D p (ab A) by omega)
  have h6:D (p+1) (ab A)*D (p+1) (ab A)≤D (p+1) (ab A)*(D p (ab A)*m):=by
   refine Int.mul_le_mul_of_nonneg_left ?_ (by omega)
   calc D (p+1) (ab A)≤1*m:=by omega
    _≤D p (ab A)*m:=Int.mul_le_mul_of_nonneg_right (by omega) (by omega)
  have e1:D (p+1) (ab A)*(D p (ab A)*(((d+1+1:Nat):Int)*m))=D p (ab A)*(D (p+1) (ab A)*(((d+1:Nat):Int)*m))+D (p+1) (ab A)*(D p (ab A)*m):=by
   push_cast
   grind
  rw[e1]
  unfold lam at hll
  omega
theorem wK(hA:cz N w A)(hD:∀k,k≤N→D k (ab A)≠0){m:Int}(hm:∀k,k≤N→D k (ab A)≤m){i:Nat}(hi:i<N)(hh:∀j,j<i→2*(((lam (ab A) i j).natAbs:Nat):Int)≤D (j+1) (ab A)):ab A i i≤((i+1:Nat):Int)*m:=by
 have h:=GJ hA hD hm hi hh i (Nat.le_refl _)
 rw[Nat.sub_self,kC,gI,Int.one_mul]at h
 exact h
end
theorem tY{t d:Int}(hd:0<d):2*((t-((2*t+d).fdiv (2*d))*d).natAbs:Int)≤d∧(((2*t+d).fdiv (2*d)).natAbs:Int)≤(t.natAbs:Int):=by
 have h1:=Int.fmod_add_mul_fdiv (2*t+d) (2*d)
 have h2:=Int.fmod_nonneg_of_pos (2*t+d) (show 0<2*d by omega)
 have h3:=Int.fmod_lt_of_pos (2*t+d) (show 0<2*d by omega)
 generalize(2*t+d).fmod (2*d)=r at*
 generalize(2*t+d).fdiv (2*d)=q at*
 have e:2*d*q=2*(q*d):=by grind
 rw[e]at h1
 constructor
 · generalize q*d=u at*
   omega
 ·
  rcases Int.lt_trichotomy q 0 with hq|hq|hq
  · have h4:=Int.mul_nonneg (show 0≤ -q-1 by omega) (show 0≤d-1 by omega)
    have e4:(-q-1)*(d-1)= -(q*d)+q-d+1:=by grind
    rw[e4]at h4
    generalize q*d=u at*
    omega
  · subst hq;simp
  · have h4:=Int.mul_nonneg (show 0≤q-1 by omega) (show 0≤d-1 by omega)
    have e4:(q-1)*(d-1)=q*d-q-d+1:=by grind
    rw[e4]at h4
    generalize q*d=u at*
    omega
end Mx
namespace Mx
theorem EU{N j:Nat}{G:Fn}{u x:Nat→Int}(hj:j<N)(hx:∀c,c<N→x c=S N fun k=>u k*G k c):D N (upd G j x)=u j*D N G:=by
 have e1:D N (upd G j x)=D N (upd G j fun c=>S N fun k=>u k*G k c):=a_ fun r c hr hc=>by
  unfold upd
  by_cases h:r=j
  · rw[if_pos h,if_pos h];exact hx c hc
  · rw[if_neg h,if_neg h]
 rw[e1,(jh N).nF hj G u G N,lI hj fun k hk hkj=>?_]
 · congr 1
   refine a_ fun r c hr hc=>?_
   unfold upd
   by_cases h:r=j
   · rw[if_pos h,h]
   · rw[if_neg h]
 · have:D N (upd G j (G k))=0:=(jh N).alt j k _ hj hk (Ne.symm hkj) fun c _=>by rw[bH,aC hkj]
   rw[this,Int.mul_zero]
theorem qu{N j m:Nat}{G:Fn}{u x:Nat→Int}(hN:N≤8)(hj:j<N)(hx:∀c,c<N→x c=S N fun k=>u k*G k c)(hD:D N G≠0)(hG:∀r c,r<N→c<N→(G r c).natAbs≤m)(hxm:∀c,c<N→(x c).natAbs≤m):(u j).natAbs≤(8*m)^N:=by
 have h:=EU hj hx
 have h2:(D N (upd G j x)).natAbs≤(8*m)^N:=qs hN fun r c hr hc=>by
  unfold upd
  by_cases hr2:r=j
  · rw[if_pos hr2];exact hxm c hc
  · rw[if_neg hr2];exact hG r c hr hc
 rw[h,Int.natAbs_mul]at h2
 have h3:(u j).natAbs*1≤(u j).natAbs*(D N G).natAbs:=Nat.mul_le_mul_left _ (by omega)
 omega
noncomputable def bh(A:Rows)(k:Nat)(q:Int)(j:Nat):Rows:=A.set k (fe (A.getD k []) (-q) (A.getD j []))
noncomputable def bT(A:Rows)(k o:Nat):Rows:=(A.set k (A.getD o [])).set o (A.getD k [])
theorem nc{A:Rows}{k i:Nat}{r:Row}(hk:k<A.length):(A.set k r).getD i []=if i=k then r else A.getD i []:=by
 rw[List.getD_eq_getElem?_getD,List.getElem?_set]
 by_cases h:k=i
 · rw[if_pos h,if_pos (by omega),if_pos h.symm];rfl
 · rw[if_neg h,if_neg (Ne.symm h),List.getD_eq_getElem?_getD]
theorem pL{A:Rows}{t i:Nat}(ht:t+1<A.length):(bT A (t+1) t).getD i []=A.getD (sw t (t+1) i) []:=by
 unfold bT
 rw[nc (by rw[List.length_set];omega),nc ht]
 unfold sw
 by_cases h1:i=t
 · rw[if_pos h1,if_pos h1]
 · rw[if_neg h1,if_neg h1]
   by_cases h2:i=t+1
   · rw[if_pos h2,if_pos h2]
   · rw[if_neg h2,if_neg h2]
theorem j9{A:Rows}{t:Nat}(ht:t+1<A.length):ab (bT A (t+1) t)=bG (ab A) t:=by
 funext a b
 unfold ab bG
 rw[pL ht,pL ht]
theorem zt{A:Rows}{k j:Nat}{q:Int}:(bh A k q j).length=A.length:=by unfold bh;rw[List.length_set]
theorem kK{A:Rows}{N w k j:Nat}{q:Int}(hA:cz N w A)(hk:k<N)(hj:j<N):cz N w (bh A k q j):=by
 refine⟨zt.trans hA.len,fun r hr=>?_⟩
 unfold bh at hr
 rcases List.mem_or_eq_of_mem_set hr with h|rfl
 · exact hA.jf r h
 · rw[iP (by rw[bM hA hk,bM hA hj]),bM hA hk]
theorem qi{A:Rows}{N w t:Nat}(hA:cz N w A)(ht:t+1<N):cz N w (bT A (t+1) t):=by
 refine⟨by unfold bT;rw[List.length_set,List.length_set];exact hA.len,fun r hr=>?_⟩
 unfold bT at hr
 rcases List.mem_or_eq_of_mem_set hr with h|rfl
 · rcases List.mem_or_eq_of_mem_set h with h|rfl
   · exact hA.jf r h
   · exact bM hA (by omega)
 · exact bM hA ht
theorem nz{A:Rows}{N w k j:Nat}{q:Int}(hA:cz N w A)(hk:k<N)(hj:j<N)(hkj:j≠k){a b:Nat}(ha:a<N)(hb:b<N):ab (bh A k q j) a b=tk (ab A) k j q a b:=by
 have hl:=hA.len
 have lk:=bM hA hk
 have lj:=bM hA hj
 have at':∀i c,(((bh A k q j).getD i []).getD c 0)=if i=k then(A.getD k []).getD c 0-q*(A.getD j []).getD c 0 else(A.getD i []).getD c 0:=fun i c=>by
  unfold bh
  rw[nc (by omega)]
  by_cases h:i=k
  · rw[if_pos h,if_pos h,mi (by rw[lk,lj]),Int.neg_mul];omega
  · rw[if_neg h,if_neg h]
 have hS:=iH
 rw[gH (kK hA hk hj) ha hb]
 unfold tk ou mF
 rw[gH hA ha hb,gH hA ha hj,gH hA hj hb,gH hA hj hj]
 by_cases h1:b=k
 · by_cases h2:a=k
   · rw[if_pos h1,if_pos h2,if_pos h2]
     have e:S w (fun c=>((bh A k q j).getD a []).getD c 0*((bh A k q j).getD b []).getD c 0)=S w fun c=>1*(1*((A.getD a []).getD c 0*(A.getD b []).getD c 0)-q*((A.getD j []).getD c 0*(A.getD b []).getD c 0))-q*(1*((A.getD a []).getD c 0*(A.getD j []).getD c 0)-q*((A.getD j []).getD c 0*(A.getD j []).getD c 0)):=aA fun c _=>by
      rw[at',at',if_pos h1,if_pos h2,h1,h2];grind
     rw[e,iH,iH,iH]
     simp only[Int.one_mul]
   · rw[if_pos h1,if_neg h2,if_neg h2]
     have e:S w (fun c=>((bh A k q j).getD a []).getD c 0*((bh A k q j).getD b []).getD c 0)=S w fun c=>1*((A.getD a []).getD c 0*(A.getD b []).getD c 0)-q*((A.getD a []).getD c 0*(A.getD j []).getD c 0):=aA fun c _=>by
      rw[at',at',if_pos h1,if_neg h2,h1];grind
     rw[e,iH];omega
 · rw[if_neg h1]
   by_cases h2:a=k
   · rw[if_pos h2]
     have e:S w (fun c=>((bh A k q j).getD a []).getD c 0*((bh A k q j).getD b []).getD c 0)=S w fun c=>1*((A.getD a []).getD c 0*(A.getD b []).getD c 0)-q*((A.getD j []).getD c 0*(A.getD b []).getD c 0):=aA fun c _=>by
      rw[at',at',if_neg h1,if_pos h2,h2];grind
     rw[e,iH];omega
   · rw[if_neg h2]
     exact aA fun c _=>by rw[at',at',if_neg h1,if_neg h2]
theorem DY{A:Rows}{N p i:Nat}{G:Fn}(h:∀a b,a<N→b<N→ab A a b=G a b)(hp:p≤i)(hi:i<N):lam (ab A) i p=lam G i p:=by
 rw[fm,fm]
 exact a_ fun r c hr hc=>h _ _ (by split<;>omega) (by omega)
theorem jE{A:Rows}{N w k j i p:Nat}{q:Int}(hA:cz N w A)(hj:j<k)(hk:k<N)(hi:i<N)(hp:p≤i):lam (ab (bh A k q j)) i p=lam (ab A) i p-if i=k then q*lam (ab A) j p else 0:=by
 rw[DY (fun a b ha hb=>nz hA hk (by omega) (by omega) ha hb) hp hi,Eg hj hp]
theorem qm{A:Rows}{N w k j p:Nat}{q:Int}(hA:cz N w A)(hj:j<k)(hk:k<N)(hp:p≤N):D p (ab (bh A k q j))=D p (ab A):=by
 cases p with
 |zero=>rw[gI,gI]
 |succ p=>
  have:=jE (q:=q) hA hj hk (i:=p) (p:=p) (by omega) (Nat.le_refl _)
  rw[dz,dz]at this
  rw[this]
  split
  · rename_i h;subst h;rw[qO hj,Int.mul_zero,Int.sub_zero]
  · omega
theorem yA{A:Rows}{N w k j:Nat}{q:Int}(hA:cz N w A)(hk:k<N)(hj:j<N)(hkj:j≠k):ab (bh A k q j) k k≤2*(ab A k k+q*q*ab A j j):=by
 have h1:=eJ (kK (q:= -q) hA hk hj) hk
 rw[nz hA hk hj hkj hk hk]at h1⊢
 unfold tk ou mF at h1⊢
 simp only[if_true]at h1⊢
 have hs:=iU A k j
 rw[hs]at h1⊢
 grind
end Mx
namespace Mx
structure Tn(A0 A U C:Rows)(N w:Nat):Prop where
 isA:cz N w A
 ke:cz N N U
 kO:cz N N C
 ua:∀i c,i<N→c<w→g A i c=S N fun k=>g U i k*g A0 k c
 ub:∀i j,i<N→j<N→S N (fun k=>g U i k*g C j k)=dl i j
 bu:∀i j,i<N→j<N→S N (fun k=>g C k i*g U k j)=dl i j
theorem mH{A:Rows}{N w k j:Nat}{q:Int}(hA:cz N w A)(hk:k<N)(hj:j<N)(i c:Nat):g (bh A k q j) i c=if i=k then g A k c-q*g A j c else g A i c:=by
 unfold g bh
 have hl:=hA.len
 rw[nc (by omega)]
 by_cases h:i=k
 · rw[if_pos h,if_pos h,mi (by rw[bM hA hk,bM hA hj]),Int.neg_mul];omega
 · rw[if_neg h,if_neg h]
theorem l_{A:Rows}{N w t:Nat}(hA:cz N w A)(ht:t+1<N)(i c:Nat):g (bT A (t+1) t) i c=g A (sw t (t+1) i) c:=by
 unfold g
 rw[pL (by have:=hA.len;omega)]
theorem qj(n:Nat)(a b:Int)(f h:Nat→Int):S n (fun c=>a*f c+b*h c)=a*S n f+b*S n h:=by
 rw[i_,dD,dD]
theorem Tn.take{A0 A U C:Rows}{N w k j:Nat}{q:Int}(T:Tn A0 A U C N w)(hk:k<N)(hj:j<N)(hkj:j≠k):Tn A0 (bh A k q j) (bh U k q j) (bh C j (-q) k) N w where
 isA:=kK T.isA hk hj
 ke:=kK T.ke hk hj
 kO:=kK T.kO hj hk
 ua:=fun i c hi hc=>by
  rw[mH T.isA hk hj]
  have e:S N (fun m=>g (bh U k q j) i m*g A0 m c)=S N fun m=>(if i=k then g U k m-q*g U j m else g U i m)*g A0 m c:=aA fun m _=>by rw[mH T.ke hk hj]
  rw[e]
  by_cases h:i=k
  · simp only[if_pos h]
    rw[T.ua k c hk hc,T.ua j c hj hc]
    have e2:S N (fun m=>(g U k m-q*g U j m)*g A0 m c)=S N fun m=>1*(g U k m*g A0 m c)-q*(g U j m*g A0 m c):=aA fun m _=>by grind
    rw[e2,iH];omega
  · simp only[if_neg h]
    exact T.ua i c hi hc
 ub:=fun i l hi hl=>by
  have e:S N (fun m=>g (bh U k q j) i m*g (bh C j (-q) k) l m)=S N fun m=>(if i=k then g U k m-q*g U j m else g U i m)*(if l=j then g C j m- -q*g C k m else g C l m):=aA fun m _=>by rw[mH T.ke hk hj,mH T.kO hj hk]
  rw[e]
  have djk:dl j k=0:=eB hkj
  by_cases h:i=k
  · by_cases h2:l=j
    · simp only[if_pos h,if_pos h2]
      have e2:S N (fun m=>(g U k m-q*g U j m)*(g C j m- -q*g C k m))=S N fun m=>1*(1*(g U k m*g C j m)+q*(g U k m*g C k m))-q*(1*(g U j m*g C j m)+q*(g U j m*g C k m)):=aA fun m _=>by grind
      rw[e2,iH,qj,qj,T.ub k j hk hj,T.ub k k hk hk,T.ub j j hj hj,T.ub j k hj hk,h,h2,dO,dO,djk,mh k j,djk]
      omega
    · simp only[if_pos h,if_neg h2]
      have e2:S N (fun m=>(g U k m-q*g U j m)*g C l m)=S N fun m=>1*(g U k m*g C l m)-q*(g U j m*g C l m):=aA fun m _=>by grind
      rw[e2,iH,T.ub k l hk hl,T.ub j l hj hl,h,eB (Ne.symm h2)]
      omega
  · by_cases h2:l=j
    · simp only[if_neg h,if_pos h2]
      have e2:S N (fun m=>g U i m*(g C j m- -q*g C k m))=S N fun m=>1*(g U i m*g C j m)+q*(g U i m*g C k m):=aA fun m _=>by grind
      rw[e2,qj,T.ub i j hi hj,T.ub i k hi hk,h2,eB h]
      omega
    · simp only[if_neg h,if_neg h2]
      exact T.ub i l hi hl
 bu:=fun i l hi hl=>by
  have e:S N (fun m=>g (bh C j (-q) k) m i*g (bh U k q j) m l)=S N fun m=>g C m i*g U m l+((q*(g C k i*g U j l))*dl m j+(-(q*(g C k i*g U j l)))*dl m k):=aA fun m _=>by
   rw[mH T.ke hk hj,mH T.kO hj hk]
   by_cases h1:m=j
   · have h2:m≠k:=by omega
     rw[if_pos h1,if_neg h2,h1,dO,eB hkj];grind
   · rw[if_neg h1,eB h1]
     by_cases h2:m=k
     · rw[if_pos h2,h2,dO];grind
     · rw[if_neg h2,eB h2];grind
  rw[e,i_,qj,T.bu i l hi hl]
  have e1:S N (fun c=>dl c j)=1:=by
   rw[lI hj fun i _ h=>eB h,dO]
  have e2:S N (fun c=>dl c k)=1:=by
   rw[lI hk fun i _ h=>eB h,dO]
  rw[e1,e2];omega
theorem DM{t a b:Nat}:dl (sw t (t+1) a) (sw t (t+1) b)=dl a b:=by
 by_cases h:a=b
 · rw[h,dO,dO]
 · rw[eB h,eB]
   intro z
   apply h
   have:∀x,sw t (t+1) (sw t (t+1) x)=x:=fun x=>by unfold sw;grind
   rw[←this a,←this b,z]
theorem nB{t N i:Nat}(ht:t+1<N)(hi:i<N):sw t (t+1) i<N:=by unfold sw;grind
theorem Tn.swap{A0 A U C:Rows}{N w t:Nat}(T:Tn A0 A U C N w)(ht:t+1<N):Tn A0 (bT A (t+1) t) (bT U (t+1) t) (bT C (t+1) t) N w where
 isA:=qi T.isA ht
 ke:=qi T.ke ht
 kO:=qi T.kO ht
 ua:=fun i c hi hc=>by
  rw[l_ T.isA ht,T.ua _ c (nB ht hi) hc]
  exact aA fun m _=>by rw[l_ T.ke ht]
 ub:=fun i j hi hj=>by
  rw[←DM (t:=t),←T.ub _ _ (nB ht hi) (nB ht hj)]
  exact aA fun m _=>by rw[l_ T.ke ht,l_ T.kO ht]
 bu:=fun i j hi hj=>by
  rw[←T.bu i j hi hj,←JN (i:=t) (j:=t+1) (by omega) ht (by omega) fun k=>g C k i*g U k j]
  exact aA fun m _=>by rw[l_ T.ke ht,l_ T.kO ht]
theorem uc{a b:Row}(h:a.length=b.length):fz a b*fz a b≤fz a a*fz b b:=by
 rw[jc h,jc (a:=a) rfl,jc (a:=b) rfl,h]
 exact um _ _ _
theorem lD{x:Int}{m:Nat}{a b:Int}(h:x*x≤a*b)(ha:0≤a)(hb:0≤b)(h1:a≤m)(h2:b≤m):x.natAbs≤m:=by
 have h3:a*b≤(m:Int)*m:=Int.mul_le_mul h1 h2 hb (by omega)
 have h4:((x.natAbs*x.natAbs:Nat):Int)≤((m*m:Nat):Int):=by
  rw[Int.natCast_mul,Int.natCast_mul,Int.natAbs_mul_self'];omega
 have h5:x.natAbs*x.natAbs≤m*m:=by omega
 exact Nat.le_of_not_lt fun h=>by
  have:=Nat.mul_lt_mul'' h h
  omega
theorem Tn.abs{A0 A U C:Rows}{N w m:Nat}(T:Tn A0 A U C N w)(h0:cz N w A0)(hN:N≤8)(hD0:D N (ab A0)≠0)(hD:D N (ab A)≠0)(g0:∀i,i<N→ab A0 i i≤m)(g1:∀i,i<N→ab A i i≤m){i j:Nat}(hi:i<N)(hj:j<N):
 (g U i j).natAbs≤(8*m)^N∧(g C i j).natAbs≤(8*m)^N:=by
 have gb:∀ {B:Rows},cz N w B→(∀i,i<N→ab B i i≤m)→∀r c,r<N→c<N→(ab B r c).natAbs≤m:=fun{B} hB hb r c hr hc=>by
  have:=uc (a:=B.getD r []) (b:=B.getD c []) (by rw[bM hB hr,bM hB hc])
  exact lD this (eJ hB hr) (eJ hB hc) (hb r hr) (hb c hc)
 have xb:∀a b,a<N→b<N→(fz (A.getD a []) (A0.getD b [])).natAbs≤m:=fun a b ha hb=>
  lD (uc (by rw[bM T.isA ha,bM h0 hb])) (eJ T.isA ha) (eJ h0 hb) (g1 a ha) (g0 b hb)
 constructor
 · refine qu (u:=fun k=>g U i k) (x:=fun c=>fz (A.getD i []) (A0.getD c [])) hN hj (fun c hc=>?_) hD0 (gb h0 g0) fun c hc=>xb i c hi hc
   rw[jc (by rw[bM T.isA hi,bM h0 hc]),bM h0 hc]
   have e:S w (fun d=>(A.getD i []).getD d 0*(A0.getD c []).getD d 0)=S w fun d=>S N fun k=>g U i k*(g A0 k d*g A0 c d):=aA fun d hd=>by
    have:=T.ua i d hi hd
    show g A i d*g A0 c d=_
    rw[this,←mG]
    exact aA fun k _=>by grind
   rw[e,jq]
   refine aA fun k hk=>?_
   rw[dD,gH h0 hk hc]
   rfl
 · refine qu (u:=fun k=>g C k j) (x:=fun c=>fz (A.getD c []) (A0.getD j [])) hN hi (fun c hc=>?_) hD (gb T.isA g1) fun c hc=>xb c j hc hj
   rw[jc (by rw[bM T.isA hc,bM h0 hj]),bM h0 hj]
   have back:∀d,d<w→g A0 j d=S N fun k=>g C k j*g A k d:=fun d hd=>by
    have e:S N (fun k=>g C k j*g A k d)=S N fun k=>S N fun l=>(g C k j*g U k l)*g A0 l d:=aA fun k hk=>by
     rw[T.ua k d hk hd,←dD]
     exact aA fun l _=>by grind
    rw[e,jq]
    have e2:S N (fun l=>S N fun k=>(g C k j*g U k l)*g A0 l d)=S N fun l=>dl j l*g A0 l d:=aA fun l hl=>by rw[mG,T.bu j l hj hl]
    rw[e2,mB hj]
   have e:S w (fun d=>(A.getD c []).getD d 0*(A0.getD j []).getD d 0)=S w fun d=>S N fun k=>g C k j*(g A k d*g A c d):=aA fun d hd=>by
    show g A c d*g A0 j d=_
    rw[back d hd,←dD]
    exact aA fun k _=>by grind
   rw[e,jq]
   refine aA fun k hk=>?_
   rw[dD,gH T.isA hk hc]
   rfl
end Mx
set_option exponentiation.threshold 100
namespace Mx
theorem p2{a b:Nat}(h:a≤b):(2:Int)^a≤2^b:=by
 have:=Nat.pow_le_pow_right (n:=2) (by decide) h
 have h2:((2^a:Nat):Int)≤((2^b:Nat):Int):=Int.ofNat_le.mpr this
 rw[Int.natCast_pow,Int.natCast_pow]at h2
 exact h2
theorem kl(a:Nat):(0:Int)<2^a:=Int.pow_pos (by decide)
structure Lg(A0 A U C:Rows)(N w:Nat)(m:Nat→Nat):Prop where
 T:Tn A0 A U C N w
 D:∀p,p≤N→0<D p (ab A)∧D p (ab A)≤2^744
 len:∀i,i<N→ab A i i≤2^m i
variable {A0 A U C:Rows}{N w:Nat}{m:Nat→Nat}
theorem Lg.ne(L:Lg A0 A U C N w m):∀k,k≤N→Mx.D k (ab A)≠0:=fun k hk=>by have:=(L.D k hk).1;omega
theorem Lg.mono(L:Lg A0 A U C N w m){m':Nat→Nat}(h:∀i,i<N→m i≤m' i):Lg A0 A U C N w m':=⟨L.T,L.D,fun i hi=>Int.le_trans (L.len i hi) (p2 (h i hi))⟩
theorem Lg.Jc(L:Lg A0 A U C N w m){i p:Nat}(hi:i<N)(hp:p<N):lam (ab A) i p*lam (ab A) i p≤2^(1488+m i):=by
 have h:=Gf L.T.isA L.ne hi hp
 have h1:=L.D p (by omega)
 have h2:=L.D (p+1) (by omega)
 have h3:=L.len i hi
 have h4:=eJ L.T.isA hi
 have h5:Mx.D p (ab A)*Mx.D (p+1) (ab A)≤2^744*2^744:=Int.mul_le_mul h1.2 h2.2 (by omega) (Int.le_of_lt (kl _))
 have h6:Mx.D p (ab A)*Mx.D (p+1) (ab A)*ab A i i≤2^744*2^744*2^m i:=Int.mul_le_mul h5 h3 h4 (Int.le_of_lt (Int.mul_pos (kl _) (kl _)))
 have e:(2:Int)^744*2^744*2^m i=2^(1488+m i):=by rw[←Int.pow_add,←Int.pow_add]
 rw[e]at h6
 exact Int.le_trans h h6
theorem yV{x:Int}{b:Nat}(h:x*x≤2^(b+b)):x.natAbs≤2^b:=by
 refine lD (m:=2^b) (a:=2^b) (b:=2^b) (by rw[←Int.pow_add];exact h) (Int.le_of_lt (kl _)) (Int.le_of_lt (kl _)) ?_ ?_<;>(rw[Int.natCast_pow];exact Int.le_refl _)
theorem Lg.En(L:Lg A0 A U C N w m){i p:Nat}(hi:i<N)(hp:p<N)(h:m i≤37000):(lam (ab A) i p).natAbs≤2^40000:=yV (Int.le_trans (L.Jc hi hp) (p2 (by omega)))
theorem Lg.ent(L:Lg A0 A U C N w m)(h:∀i,i<N→m i≤37000):∀r∈A,∀x∈r,x.natAbs≤2^400000:=fun r hr x hx=>by
 obtain⟨i,hi,e⟩:=List.mem_iff_getElem.mp hr
 have hl:=L.T.isA.len
 have hiN:i<N:=by omega
 have e2:A.getD i []=r:=by rw[bj hi,e]
 have h1:=L.len i hiN
 obtain⟨c,hc,ec⟩:=List.mem_iff_getElem.mp hx
 have hcw:c<w:=by have:=L.T.isA.jf r hr;omega
 rw[gH L.T.isA hiN hiN,e2]at h1
 have h2:x*x≤S w fun c=>r.getD c 0*r.getD c 0:=by
  have key:∀n,c<n→x*x≤S n fun c=>r.getD c 0*r.getD c 0:=fun n=>by
   induction n with
   |zero=>intro h;omega
   |succ n ih=>
    intro h
    show x*x≤S n (fun c=>r.getD c 0*r.getD c 0)+r.getD n 0*r.getD n 0
    by_cases hcn:c=n
    · subst hcn
      rw[bj hc,ec]
      have:=kG (n:=c) (f:=fun c=>r.getD c 0*r.getD c 0) fun i _=>sq_nonneg _
      omega
    · have:=ih (by omega)
      have h9:=sq_nonneg (r.getD n 0)
      omega
  exact key w hcw
 exact yV (Int.le_trans h2 (Int.le_trans h1 (p2 (by have:=h i hiN;omega))))
theorem Lg.turn(L:Lg A0 A U C N w m)(h0:cz N w A0)(hN:N≤8)(hD0:Mx.D N (ab A0)≠0)(g0:∀i,i<N→ab A0 i i≤2^37000)(h:∀i,i<N→m i≤37000):(∀r∈U,∀x∈r,x.natAbs≤2^400000)∧∀r∈C,∀x∈r,x.natAbs≤2^400000:=by
 have b:(8*2^37000)^N≤2^400000:=by
  have e:8*2^37000=2^37003:=by rw[show 37003=3+37000 from rfl,Nat.pow_add]
  rw[e,←Nat.pow_mul]
  exact Nat.pow_le_pow_right (by decide) (by omega)
 have key:∀i j,i<N→j<N→(g U i j).natAbs≤2^400000∧(g C i j).natAbs≤2^400000:=fun i j hi hj=>by
  have:=L.T.abs (m:=2^37000) h0 hN hD0 (L.ne N (Nat.le_refl _)) (fun i hi=>by rw[Int.natCast_pow];exact g0 i hi) (fun i hi=>by rw[Int.natCast_pow];exact Int.le_trans (L.len i hi) (p2 (h i hi))) hi hj
  exact⟨Nat.le_trans this.1 b,Nat.le_trans this.2 b⟩
 have fin:∀ {B:Rows},cz N N B→(∀i j,i<N→j<N→(g B i j).natAbs≤2^400000)→∀r∈B,∀x∈r,x.natAbs≤2^400000:=fun{B} hB hb r hr x hx=>by
  obtain⟨i,hi,e⟩:=List.mem_iff_getElem.mp hr
  obtain⟨c,hc,ec⟩:=List.mem_iff_getElem.mp hx
  have hl:=hB.len
  have hw:=hB.jf r hr
  have:=hb i c (by omega) (by omega)
  unfold g at this
  rw[bj hi,e,bj hc,ec]at this
  exact this
 exact⟨fin L.T.ke fun i j hi hj=>(key i j hi hj).1,fin L.T.kO fun i j hi hj=>(key i j hi hj).2⟩
theorem Lg.take(L:Lg A0 A U C N w m){k j:Nat}{q:Int}(hj:j<k)(hk:k<N)(hq:q*q≤2^(1488+m k))(hmj:m j≤748):Lg A0 (bh A k q j) (bh U k q j) (bh C j (-q) k) N w fun i=>if i=k then m k+2240 else m i where
 T:=L.T.take hk (by omega) (by omega)
 D:=fun p hp=>by rw[qm L.T.isA hj hk hp];exact L.D p hp
 len:=fun i hi=>by
  by_cases h:i=k
  · subst h
    rw[if_pos rfl]
    have h1:=yA (q:=q) L.T.isA hi (show j<N by omega) (by omega)
    have h2:=L.len i hi
    have h3:=Int.le_trans (L.len j (by omega)) (p2 hmj)
    have h4:=eJ L.T.isA (i:=j) (by omega)
    have h5:q*q*ab A j j≤2^(1488+m i)*2^748:=Int.mul_le_mul hq h3 h4 (Int.le_of_lt (kl _))
    rw[←Int.pow_add]at h5
    have h6:=p2 (show m i≤1488+m i+748 by omega)
    have h7:(2:Int)^(m i+2240)=2^(1488+m i+748)*2^4:=by rw[←Int.pow_add];congr 1;omega
    have h8:(2:Int)^4=16:=by decide
    rw[h7,h8]
    have h9:=kl (1488+m i+748)
    omega
  · rw[if_neg h]
    have e:ab (bh A k q j) i i=ab A i i:=by
     rw[nz L.T.isA hk (by omega) (by omega) hi hi]
     unfold tk ou mF
     rw[if_neg h,if_neg h]
    rw[e]
    exact L.len i hi
theorem Lg.swap(L:Lg A0 A U C N w m){t:Nat}(ht:t+1<N)(hm:0<lam (bG (ab A) t) t t∧lam (bG (ab A) t) t t≤2^744):Lg A0 (bT A (t+1) t) (bT U (t+1) t) (bT C (t+1) t) N w fun i=>m (sw t (t+1) i) where
 T:=L.T.swap ht
 D:=fun p hp=>by
  rw[j9 (by have:=L.T.isA.len;omega)]
  by_cases h:p=t+1
  · subst h;rw[←dz];exact hm
  · rw[kq h];exact L.D p hp
 len:=fun i hi=>by
  rw[j9 (by have:=L.T.isA.len;omega)]
  exact L.len _ (nB ht hi)
end Mx
set_option exponentiation.threshold 100
namespace Mx
theorem uI{f:Nat→Int}:∀n,(∀i,i<n→0<f i)→0<Pr n f
 |0,_=>by show(0:Int)<1;decide
 |n+1,h=>Int.mul_pos (uI n fun i hi=>h i (by omega)) (h n (by omega))
theorem BL{f h:Nat→Int}{t:Nat}:∀n,t<n→(∀i,i<n→0<f i)→(∀i,i<n→0<h i)→(∀i,i<n→i≠t→h i=f i)→h t<f t→Pr n h<Pr n f
 |0,ht,_,_,_,_=>by omega
 |n+1,ht,hf,hh,he,hl=>by
  show Pr n h*h n<Pr n f*f n
  by_cases htn:t=n
  · subst htn
    have e:Pr t h=Pr t f:=by
     have key:∀m,m≤t→Pr m h=Pr m f:=fun m=>by
      induction m with
      |zero=>intro _;rfl
      |succ m ih=>intro hm;show Pr m h*h m=Pr m f*f m;rw[ih (by omega),he m (by omega) (by omega)]
     exact key t (Nat.le_refl _)
    rw[e]
    exact Int.mul_lt_mul_of_pos_left hl (uI t fun i hi=>hf i (by omega))
  · rw[he n (by omega) (by omega)]
    exact Int.mul_lt_mul_of_pos_right (BL n (by omega) (fun i hi=>hf i (by omega)) (fun i hi=>hh i (by omega)) (fun i hi=>he i (by omega)) hl) (hf n (by omega))
theorem BE{f h:Nat→Int}:∀n,(∀i,i<n→h i=f i)→Pr n h=Pr n f
 |0,_=>rfl
 |n+1,he=>by show Pr n h*h n=Pr n f*f n;rw[BE n fun i hi=>he i (by omega),he n (by omega)]
noncomputable def ik(A:Rows)(t:Nat):Prop:=4*(D (t+2) (ab A)*D t (ab A)+lam (ab A) (t+1) t*lam (ab A) (t+1) t)<3*D (t+1) (ab A)*D (t+1) (ab A)
variable {A0 A U C:Rows}{N w:Nat}{m:Nat→Nat}
theorem qv(L:Lg A0 A U C N w m){t:Nat}(ht:t+1<N)(h:ik A t):0<lam (bG (ab A) t) t t∧lam (bG (ab A) t) t t<D (t+1) (ab A):=by
 have p0:=(L.D t (by omega)).1
 have p1:=(L.D (t+1) (by omega)).1
 have p2:=(L.D (t+2) (by omega)).1
 have e:=mq (t:=t) (iU A) (by omega)
 have h1:=Int.mul_pos p0 p2
 have h2:=sq_nonneg (lam (ab A) (t+1) t)
 unfold ik at h
 rw[Int.mul_comm (D (t+2) (ab A))]at h
 constructor
 · have:0<D (t+1) (ab A)*lam (bG (ab A) t) t t:=by rw[e];omega
   exact Int.pos_of_mul_pos_left (by rw[Int.mul_comm];exact this) p1
 · refine Int.lt_of_mul_lt_mul_left (a:=D (t+1) (ab A)) ?_ (by omega)
   rw[e]
   have h3:=Int.mul_pos p1 p1
   have h4:3*D (t+1) (ab A)*D (t+1) (ab A)=3*(D (t+1) (ab A)*D (t+1) (ab A)):=by grind
   rw[h4]at h
   omega
noncomputable def mk(N k:Nat):Nat→Nat:=fun i=>if i=k then 748+2240*(N-k)else 748
structure Lk(A0 A U C:Rows)(N w k:Nat):Prop where
 L:Lg A0 A U C N w (mk N k)
 red:∀i,i<k→i<N→∀j,j<i→2*(((lam (ab A) i j).natAbs:Nat):Int)≤D (j+1) (ab A)
 flat:∀t,t+1<k→t+1<N→¬ik A t
noncomputable def nh(A:Rows)(N:Nat):Int:=Pr N fun p=>D (p+1) (ab A)
theorem uG{k j:Nat}{q:Int}(hA:cz N w A)(hj:j<k)(hk:k<N):nh (bh A k q j) N=nh A N:=BE N fun p hp=>qm hA hj hk (by omega)
theorem Ah(L:Lg A0 A U C N w m){t:Nat}(ht:t+1<N)(h:ik A t):nh (bT A (t+1) t) N<nh A N:=by
 have hl:=L.T.isA.len
 have sm:=qv L ht h
 have e:∀p,D p (ab (bT A (t+1) t))=if p=t+1 then lam (bG (ab A) t) t t else D p (ab A):=fun p=>by
  rw[j9 (by omega)]
  by_cases hp:p=t+1
  · rw[if_pos hp,hp,dz]
  · rw[if_neg hp,kq hp]
 refine BL (t:=t) N (by omega) (fun i hi=>(L.D (i+1) (by omega)).1) (fun i hi=>?_) (fun i hi hne=>?_) ?_
 · rw[e];split
   · exact sm.1
   · exact(L.D (i+1) (by omega)).1
 · rw[e,if_neg (by omega)]
 · rw[e,if_pos rfl];exact sm.2
theorem Ef(L:Lg A0 A U C N w m):0<nh A N:=uI N fun i hi=>(L.D (i+1) (by omega)).1
theorem t7(hA:cz N w A){k j:Nat}{q:Int}(hj:j<k)(hk:k<N):lam (ab (bh A k q j)) k j=lam (ab A) k j-q*D (j+1) (ab A):=by
 rw[jE hA hj hk hk (by omega),if_pos rfl,dz]
theorem vU(hA:cz N w A){k j p:Nat}{q:Int}(hj:j<k)(hk:k<N)(hp:j<p)(hpk:p≤k):lam (ab (bh A k q j)) k p=lam (ab A) k p:=by
 rw[jE hA hj hk hk hpk,if_pos rfl,qO hp,Int.mul_zero,Int.sub_zero]
theorem uy(hA:cz N w A){k j i p:Nat}{q:Int}(hj:j<k)(hk:k<N)(hi:i<N)(hik:i≠k)(hp:p≤i):lam (ab (bh A k q j)) i p=lam (ab A) i p:=by
 rw[jE hA hj hk hi hp,if_neg hik,Int.sub_zero]
theorem Eh(L:Lg A0 A U C N w m){k j:Nat}(hk:k<N)(hj:j<N):((2*lam (ab A) k j+D (j+1) (ab A)).fdiv (2*D (j+1) (ab A)))*((2*lam (ab A) k j+D (j+1) (ab A)).fdiv (2*D (j+1) (ab A)))≤2^(1488+m k):=by
 have h1:=(tY (t:=lam (ab A) k j) (L.D (j+1) (by omega)).1).2
 have h2:=L.Jc hk hj
 generalize(2*lam (ab A) k j+D (j+1) (ab A)).fdiv (2*D (j+1) (ab A))=q at*
 have e1:q*q=((q.natAbs:Nat):Int)*((q.natAbs:Nat):Int):=(Int.natAbs_mul_self' _).symm
 have e2:lam (ab A) k j*lam (ab A) k j=(((lam (ab A) k j).natAbs:Nat):Int)*(((lam (ab A) k j).natAbs:Nat):Int):=(Int.natAbs_mul_self' _).symm
 rw[e1]
 rw[e2]at h2
 exact Int.le_trans (Int.mul_le_mul h1 h1 (by omega) (by omega)) h2
end Mx
set_option exponentiation.threshold 100
namespace Mx
theorem mv{n i j:Nat}(hi:i<n)(hj:j<n):g (units n) i j=dl i j:=by
 unfold g units i4
 rw[bj (l:=(List.range n).map _) (by simpa using hi),List.getElem_map,List.getElem_range,bj (by simpa using hj),List.getElem_map,List.getElem_range]
 exact mh _ _
theorem Tn.refl{A:Rows}{N w:Nat}(hA:cz N w A):Tn A A (units N) (units N) N w where
 isA:=hA
 ke:=ur N
 kO:=ur N
 ua:=fun i c hi hc=>by
  have e:S N (fun k=>g (units N) i k*g A k c)=S N fun k=>dl i k*g A k c:=aA fun k hk=>by rw[mv hi hk]
  rw[e,mB hi]
 ub:=fun i j hi hj=>by
  have e:S N (fun k=>g (units N) i k*g (units N) j k)=S N fun k=>dl i k*dl j k:=aA fun k hk=>by rw[mv hi hk,mv hj hk]
  rw[e,mB hi];exact mh _ _
 bu:=fun i j hi hj=>by
  have e:S N (fun k=>g (units N) k i*g (units N) k j)=S N fun k=>dl i k*dl k j:=aA fun k hk=>by rw[mv hk hi,mv hk hj,mh k i]
  rw[e,mB hi]
theorem Lk.start{A:Rows}{N w:Nat}(hA:cz N w A)(hD:∀k,k≤N→D k (ab A)≠0)(hb:∀k,k≤N→D k (ab A)≤2^744)(hl:∀i,i<N→ab A i i≤2^748):Lk A A (units N) (units N) N w 1 where
 L:=⟨Tn.refl hA,fun p hp=>⟨je hA hD p hp,hb p hp⟩,fun i hi=>Int.le_trans (hl i hi) (p2 (by unfold Mx.mk;split<;>omega))⟩
 red:=fun i hi _ j hj=>by omega
 flat:=fun t ht=>by omega
end Mx
set_option exponentiation.threshold 100
namespace Mx
section
variable {A:Rows}{N w:Nat}
theorem CM(hA:cz N w A)(hD:∀k,k≤N→D k (ab A)≠0){i:Nat}(hi:i<N){cf v:Nat→Int}(hv:∀c,c<w→v c=S N fun k=>cf k*g A k c)(hc:cf i≠0)(h0:∀k,i<k→k<N→cf k=0):
 D (i+1) (ab A)≤S w (fun c=>v c*v c)*D i (ab A):=by
 have p0:=je hA hD i (by omega)
 have p1:=je hA hD (i+1) (by omega)
 have e1:S w (fun c=>ev A N i i c*v c)=cf i*D (i+1) (ab A):=by
  have a1:S w (fun c=>ev A N i i c*v c)=S w fun c=>S N fun k=>cf k*(ev A N i i c*g A k c):=aA fun c hcw=>by
   rw[hv c hcw,←dD]
   exact aA fun k _=>by grind
  rw[a1,jq]
  have a2:S N (fun k=>S w fun c=>cf k*(ev A N i i c*g A k c))=S N fun k=>cf k*gx (ab A) i (ab A i) k:=aA fun k hk=>by
   rw[dD]
   exact congrArg _ (mz hA hD hk i i (by omega) hi)
  rw[a2,lI hi,ky]
  intro k hk hki
  by_cases q:k<i
  · rw[t9 q];omega
  · rw[h0 k (by omega) hk,Int.zero_mul]
 have e2:=lq hA hD hi i (Nat.le_refl _)
 have cs:=um w (fun c=>ev A N i i c) v
 rw[e1,e2]at cs
 generalize D (i+1) (ab A)=d1 at*
 generalize D i (ab A)=d0 at*
 generalize S w (fun c=>v c*v c)=V at*
 generalize cf i=x at*
 have hx:1≤x*x:=by
  rcases Int.lt_trichotomy x 0 with h|h|h
  · have:=Int.mul_le_mul_of_nonpos_left (a:=x) (b:= -1) (c:=x) (by omega) (by omega);omega
  · exact absurd h hc
  · exact Int.mul_pos h h
 have h3:d1*d1≤(x*x)*(d1*d1):=by
  have:=Int.mul_le_mul_of_nonneg_right hx (show 0≤d1*d1 from Int.le_of_lt (Int.mul_pos p1 p1))
  omega
 have h4:(x*x)*(d1*d1)=x*d1*(x*d1):=by grind
 have h5:d1*d1≤(V*d0)*d1:=by
  have:d0*d1*V=(V*d0)*d1:=by grind
  omega
 exact Int.le_of_mul_le_mul_right h5 p1
theorem Sh.two(h:Sh (ab A) N){i:Nat}(h0:0<i)(hi:i<N):D i (ab A)*D i (ab A)≤2*D (i+1) (ab A)*D (i-1) (ab A):=by
 have a:=h.half i (i-1) (by omega) hi
 have b:=h.Gj i h0 hi
 rw[show i-1+1=i by omega]at a
 generalize lam (ab A) i (i-1)=l at*
 generalize D i (ab A)=d at*
 generalize D (i+1) (ab A)=p at*
 generalize D (i-1) (ab A)=q at*
 have c:4*l*l≤d*d:=by
  have h1:2*(l.natAbs:Int)*(2*(l.natAbs:Int))≤d*d:=Int.mul_le_mul a a (by omega) (by omega)
  have h2:(l.natAbs:Int)*(l.natAbs:Int)=l*l:=by rw[←Int.natCast_mul,Int.natAbs_mul_self]
  grind
 have e:3*d*d=3*(d*d):=by grind
 have e2:4*p*q=2*(2*p*q):=by grind
 omega
variable (hA:cz N w A)(hD:∀k,k≤N→D k (ab A)≠0)(h2:∀i,0<i→i<N→D i (ab A)*D i (ab A)≤2*D (i+1) (ab A)*D (i-1) (ab A))
include hA hD h2
theorem chain:∀i,i<N→D 1 (ab A)*D i (ab A)≤2^i*D (i+1) (ab A)
 |0,_=>by rw[gI];simp
 |i+1,hi=>by
  have ih:=chain i (by omega)
  have a:=h2 (i+1) (by omega) hi
  rw[show i+1-1=i by omega]at a
  have p0:=je hA hD i (by omega)
  have p1:=je hA hD (i+1) (by omega)
  have p2:(0:Int)<2^i:=Int.pow_pos (by decide)
  rw[Int.pow_succ]
  generalize D (i+1+1) (ab A)=d2 at*
  generalize D (i+1) (ab A)=d1 at*
  generalize D i (ab A)=d0 at*
  generalize D 1 (ab A)=d at*
  generalize(2:Int)^i=t at*
  have s1:d*d0*d1≤t*d1*d1:=Int.mul_le_mul_of_nonneg_right ih (by omega)
  have s2:t*(d1*d1)≤t*(2*d2*d0):=Int.mul_le_mul_of_nonneg_left a (by omega)
  have s3:(d*d1)*d0≤(t*2*d2)*d0:=by grind
  exact Int.le_of_mul_le_mul_right s3 p0
theorem least_le{i:Nat}(hi:i<N){V:Int}(hV:D (i+1) (ab A)≤V*D i (ab A)):D 1 (ab A)≤V*2^(N-1):=by
 have c:=chain hA hD h2 i hi
 have p0:=je hA hD i (by omega)
 have p1:=je hA hD (i+1) (by omega)
 have t0:(0:Int)<2^i:=Int.pow_pos (by decide)
 have V0:0≤V:=by
  rcases Int.lt_or_le V 0 with h|h
  · have:=Int.mul_neg_of_neg_of_pos h p0;omega
  · exact h
 have t1:(2:Int)^i≤2^(N-1):=p2 (by omega)
 have s1:2^i*D (i+1) (ab A)≤2^i*(V*D i (ab A)):=Int.mul_le_mul_of_nonneg_left hV (by omega)
 have s2:D 1 (ab A)≤V*2^i:=by
  refine Int.le_of_mul_le_mul_right (a:=D i (ab A)) ?_ p0
  have:V*2^i*D i (ab A)=2^i*(V*D i (ab A)):=by grind
  omega
 have s3:V*2^i≤V*2^(N-1):=Int.mul_le_mul_of_nonneg_left t1 V0
 omega
theorem power:∀k,k≤N→D 1 (ab A)^k≤D k (ab A)*2^(k*(k-1)/2)
 |0,_=>by rw[gI,Int.pow_zero];decide
 |k+1,hk=>by
  have ih:=power k (by omega)
  have c:=chain hA hD h2 k (by omega)
  have p1:0<D 1 (ab A):=je hA hD 1 (by omega)
  have e:(k+1)*(k+1-1)/2=k*(k-1)/2+k:=by
   cases k with
   |zero=>rfl
   |succ m=>
    have:(m+1+1)*(m+1+1-1)=(m+1)*(m+1-1)+2*(m+1):=by
     simp only[Nat.add_sub_cancel];grind
    rw[this];omega
  rw[e,Int.pow_succ,Int.pow_add]
  have t0:(0:Int)<2^(k*(k-1)/2):=Int.pow_pos (by decide)
  have s1:=Int.mul_le_mul_of_nonneg_right ih (Int.le_of_lt p1)
  have s2:=Int.mul_le_mul_of_nonneg_left c (Int.le_of_lt t0)
  generalize D 1 (ab A)=d at*
  generalize D k (ab A)=dk at*
  generalize D (k+1) (ab A)=dk1 at*
  generalize(2:Int)^(k*(k-1)/2)=t at*
  generalize(2:Int)^k=u at*
  have q1:dk*t*d=t*(d*dk):=by grind
  have q2:t*(u*dk1)=dk1*(t*u):=by grind
  omega
end
section
variable {A B U C:Rows}{N w:Nat}
theorem Tn.back(T:Tn A B U C N w){k c:Nat}(hk:k<N)(hc:c<w):g A k c=S N fun i=>g C i k*g B i c:=by
 have a:S N (fun i=>g C i k*g B i c)=S N fun i=>S N fun l=>g C i k*g U i l*g A l c:=aA fun i hi=>by
  rw[T.ua i c hi hc,←dD]
  exact aA fun l _=>by grind
 rw[a,jq]
 have b:S N (fun l=>S N fun i=>g C i k*g U i l*g A l c)=S N fun l=>dl k l*g A l c:=aA fun l hl=>by
  rw[mG,T.bu k l hk hl]
 rw[b,mB hk]
theorem Tn.unit(T:Tn A B U C N w):D N (g U)*D N (g U)=1:=by
 have a:D N (fun r c=>S N fun k=>g U r k*(tr (g C)) k c)=D N dl:=a_ fun r c hr hc=>T.ub r c hr hc
 rw[w6,rB,lW]at a
 generalize D N (g U)=x at*
 generalize D N (g C)=y at*
 have:x.natAbs*y.natAbs=1:=by rw[←Int.natAbs_mul,a];rfl
 have hx:x.natAbs=1:=Nat.eq_one_of_mul_eq_one_right this
 rcases Int.natAbs_eq x with h|h<;>rw[hx]at h<;>subst h<;>rfl
theorem Tn.same(T:Tn A B U C N w)(hA:cz N w A):D N (ab B)=D N (ab A):=by
 have e:D N (ab B)=D N fun r c=>S N fun k=>g U r k*(fun k c=>S N fun l=>ab A k l*tr (g U) l c) k c:=a_ fun r c hr hc=>by
  rw[gH T.isA hr hc]
  have a1:S w (fun x=>(B.getD r []).getD x 0*(B.getD c []).getD x 0)=S w fun x=>S N fun k=>S N fun l=>g U r k*(g A k x*g A l x)*g U c l:=aA fun x hx=>by
   show g B r x*g B c x=_
   rw[T.ua r x hr hx,T.ua c x hc hx,←mG]
   refine aA fun k _=>?_
   rw[←dD]
   exact aA fun l _=>by grind
  rw[a1,jq]
  refine aA fun k hk=>?_
  rw[jq,←dD]
  refine aA fun l hl=>?_
  rw[gH hA hk hl,mG,dD,Int.mul_assoc]
  rfl
 rw[e,w6,w6,lW]
 have u:=T.unit
 generalize D N (g U)=x at*
 generalize D N (ab A)=y at*
 have:x*(y*x)=(x*x)*y:=by grind
 rw[this,u,Int.one_mul]
theorem wa{cf:Nat→Int}:∀n,(∃i,i<n∧cf i≠0)→∃i,i<n∧cf i≠0∧∀k,i<k→k<n→cf k=0
 |0,⟨_,h,_⟩=>by omega
 |n+1,⟨i,hi,z⟩=>by
  by_cases q:cf n=0
  · obtain⟨j,h1,h2,h3⟩:=wa n ⟨i,by rcases Nat.lt_or_ge i n with h|h;exact h;exact absurd (show cf i=0 by rw[show i=n by omega];exact q) z,z⟩
    exact⟨j,by omega,h2,fun k a b=>by rcases Nat.lt_or_ge k n with h|h;exact h3 k a h;rw[show k=n by omega];exact q⟩
  · exact⟨n,by omega,q,fun k a b=>by omega⟩
theorem Tn.least(T:Tn A B U C N w)(hD:∀k,k≤N→D k (ab B)≠0)(hS:Sh (ab B) N){x v:Nat→Int}(hv:∀c,c<w→v c=S N fun k=>x k*g A k c)(h0:0<S w fun c=>v c*v c):
 D 1 (ab B)≤S w (fun c=>v c*v c)*2^(N-1):=by
 have e:∀c,c<w→v c=S N fun i=>(S N fun k=>x k*g C i k)*g B i c:=fun c hc=>by
  have a:S N (fun k=>x k*g A k c)=S N fun k=>S N fun i=>x k*g C i k*g B i c:=aA fun k hk=>by
   rw[T.back hk hc,←dD]
   exact aA fun i _=>by grind
  rw[hv c hc,a,jq]
  exact aA fun i _=>by rw[mG]
 have ex:∃i,i<N∧(S N fun k=>x k*g C i k)≠0:=by
  apply Classical.byContradiction
  intro q
  have z:S w (fun c=>v c*v c)=0:=kI fun c hc=>by
   have:v c=0:=by
    rw[e c hc]
    exact kI fun i hi=>by
     have:(S N fun k=>x k*g C i k)=0:=Classical.byContradiction fun z=>q ⟨i,hi,z⟩
     rw[this,Int.zero_mul]
   rw[this,Int.zero_mul]
  omega
 obtain⟨i,hi,z,hz⟩:=wa N ex
 exact least_le T.isA hD (fun i a b=>hS.two a b) hi (CM T.isA hD hi e z hz)
end
end Mx
namespace Prog
open PySem L2 L3
open PySem.Spec hiding items?
open PyProof.Rows hiding St
theorem fN{i j:Int}(h1: -(2^64)<i)(h2:i<2^64):IntMulOk i j:= .of_left (intBits_le_64 h1 h2)
theorem wW{i j:Int}(h1: -(2^64)<j)(h2:j<2^64):IntMulOk i j:= .of_right (intBits_le_64 h1 h2)
noncomputable def isInt:D→Bool
 | .int _=>true
 |_=>false
noncomputable abbrev au(r:List Int):List D:=r.map D.int
noncomputable abbrev dy(r:List Int):D:= .tup (au r)
noncomputable abbrev ba(r:List Int):D:= .lst (au r)
noncomputable abbrev dP(A:List (List Int)):D:= .tup (A.map dy)
noncomputable def bU(st:ae):List D→List (List Int)→Prop
 | [],[]=>True
 |d::ds,r::rs=>items? st d=some (au r)∧bU st ds rs
 |_,_=>False
structure gZ(st:ae)(d:D)(A:List (List Int)):Prop where
 ex:∃ds,items? st d=some ds∧bU st ds A
theorem bU.len{st:ae}:∀ {ds:List D} {A:List (List Int)},bU st ds A→ds.length=A.length
 | [],[],_=>rfl
 |_::_,_::_,h=>by simp[bU.len h.2]
theorem bU.tup{st:ae}:∀ {A:List (List Int)},bU st (A.map dy) A
 | []=>trivial
 |_::_=>⟨rfl,bU.tup⟩
theorem bU.lst{st:ae}:∀ {A:List (List Int)},bU st (A.map ba) A
 | []=>trivial
 |_::_=>⟨rfl,bU.lst⟩
theorem bU.get{st:ae}:∀ {ds:List D} {A:List (List Int)} {i:Nat} {d:D},bU st ds A→ds[i]?=some d→∃r,A[i]?=some r∧items? st d=some (au r)
 |_::_,r::_,0,_,h,e=>by simp at e;subst e;exact⟨r,rfl,h.1⟩
 |_::_,_::_,i+1,d,h,e=>by
  obtain⟨r,e1,e2⟩:=bU.get (i:=i) (d:=d) h.2 (by simpa using e)
  exact⟨r,by simpa using e1,e2⟩
theorem Eb{st:ae}{A:List (List Int)}:gZ st (dP A) A:=⟨_,rfl,bU.tup⟩
structure Ext(st st':ae):Prop where
 len:st.length≤st'.length
 same:∀m,m<st.length→st'[m]?=st[m]?
theorem Ext.trans{st st1 st2:ae}(a:Ext st st1)(b:Ext st1 st2):Ext st st2:=⟨Nat.le_trans a.len b.len,fun m h=>(b.same m (Nat.lt_of_lt_of_le h a.len)).trans (a.same m h)⟩
theorem Ext.push{st:ae}{c:List Cell}:Ext st (st++c):=⟨by simp,fun m h=>List.getElem?_append_left h⟩
theorem Ext.set{st:ae}{n:Nat}{c:Cell}{st0:ae}(a:Ext st0 st)(h:st0.length≤n):Ext st0 (st.set n c):=⟨by rw[List.length_set];exact a.len,fun m hm=>by rw[List.getElem?_set_ne (by omega)];exact a.same m hm⟩
theorem Ext.items{st st':ae}{d:D}{xs:List D}(x:Ext st st')(e:items? st d=some xs):items? st' d=some xs:=by
 cases d with
 |ref n=>
  unfold items? at e⊢
  simp only at e⊢
  cases q:st[n]? with
  |none=>rw[q]at e;cases e
  |some c=>
   have hn:=(List.getElem?_eq_some_iff.mp q).1
   rw[x.same n hn]
   exact e
 |_=>exact e
theorem Ext.qw{st st':ae}(x:Ext st st'):∀ {ds:List D} {A:List (List Int)},bU st ds A→bU st' ds A
 | [],[],_=>trivial
 |_::_,_::_,h=>⟨x.items h.1,x.qw h.2⟩
theorem Ext.tW{st st':ae}(x:Ext st st'){d:D}{A:List (List Int)}(h:gZ st d A):gZ st' d A:=by
 obtain⟨ds,e,r⟩:=h.ex
 exact⟨ds,x.items e,x.qw r⟩
theorem jG{r:List Int}{k:Nat}(h:k<r.length):dY (au r) (k:Int)=some (.int (r.getD k 0)):=by
 refine gR ?_
 rw[List.getElem?_map,List.getElem?_eq_getElem h,Mx.bj h];rfl
theorem ints_app{r:List Int}{x:Int}:au r++[D.int x]=au (r++[x]):=by simp[au]
theorem Bt{A:List (List Int)}{r:List Int}:A.map dy++[dy r]=(A++[r]).map dy:=by simp
theorem pJ{r s:List Int}{d:D}(h:d∈fL (au r) (au s)):∃a b,a∈r∧b∈s∧d= .tup [.int a,.int b]:=by
 obtain⟨n,hn,e⟩:=List.mem_iff_getElem.mp h
 have e':(fL (au r) (au s))[n]?=some d:=by rw[List.getElem?_eq_getElem hn,e]
 obtain⟨x,y,ex,ey,rfl⟩:=pN e'
 rw[List.getElem?_map]at ex ey
 cases q1:r[n]? with
 |none=>rw[q1]at ex;cases ex
 |some a=>
  cases q2:s[n]? with
  |none=>rw[q2]at ey;cases ey
  |some b=>
   rw[q1]at ex
   rw[q2]at ey
   cases ex
   cases ey
   exact⟨a,b,List.mem_of_getElem? q1,List.mem_of_getElem? q2,rfl⟩
theorem AW(n:Nat):(List.replicate n [D.int 0]).flatten=au (List.replicate n 0):=by
 induction n with
 |zero=>rfl
 |succ n ih=>rw[List.replicate_succ,List.flatten_cons,ih];rfl
theorem ue{d:D}{ds:List D}:dY (d::ds) 0=some d:=gR (j:=0) rfl
def az:Addr:=173
def av:Addr:=229
noncomputable def iZ:cY:=fun ds st K=>∃(d:D) (A:List (List Int)),ds=[d]∧gZ st d A∧A.length≤1000∧K (dP A) st
noncomputable def lz:List Str:=["rows"]
noncomputable def z9:DS:=(cC (dZ fV (ag (fc (iq (aa 0)) [none] (bB 0) cZ (dZ fV (ag (aa 0) aw))) aw)))
theorem kj{tg:gd}{te:DE}{ok:ae→Prop}{σc:bJ}{st:ae}{K:List D→ae→Prop}{ds:List D}{A:List (List Int)}(f:List Int→D)(aT:ok st)(hr:bU st ds A)(hx:∀d r,r∈A→items? st d=some (au r)→∀K',K' (f r) st→∃σ2,tg d σc=some σ2∧te σ2 st K')(k:K (A.map f) st):df tg cZ te ok σc ds [] st K:=by
 refine g_ (fun rest acc st'=>∃(A1 A2:List (List Int)),st=st'∧A1++A2=A∧bU st rest A2∧acc=A1.map f) ?_ ?_ _ _ _ ⟨[],A,rfl,rfl,hr,rfl⟩
 · rintro acc st' ⟨A1,A2,rfl,he,h,rfl⟩
   match A2,h with
   | [],_=>
     rw[List.append_nil]at he
     subst he
     exact⟨aT,k⟩
 · rintro d rest acc st' ⟨A1,A2,rfl,he,h,rfl⟩ next
   match A2,h with
   |r::A2,h=>
    obtain⟨σ2,e2,q⟩:=hx d r (by rw[←he];simp) h.1 (fun y st2=>df tg cZ te ok σc rest (A1.map f++[y]) st2 K) (next _ _ ⟨A1++[r],A2,rfl,by rw[←he];simp,h.2,by simp⟩)
    exact⟨aT,σ2,e2,q⟩
theorem yo:∀ds st K,iZ ds st K→ds.length=1∧z9 {nx:=fun _ st'=>K .aP st',rt:=K} (bx lz ds) st:=by
 rintro ds st K ⟨d,A,rfl,⟨da,hd,ra⟩,hl,k⟩
 refine⟨rfl,?_⟩
 refine u4 hd fun ok aT=>⟨dJ (by rw[ra.len];exact hl),?_⟩
 refine kj dy aT ra (fun e r hr he K' q=>⟨_,rfl,fZ he q⟩) ?_
 exact fZ rfl k
noncomputable def jD:cY:=fun ds st K=>∃x y t r s,ds=[x,.int t,y]∧items? st x=some (au r)∧items? st y=some (au s)∧r.length≤1000∧(∀b∈s,IntMulOk t b)∧K (ba (Mx.fe r t s)) st
noncomputable def oM:List Str:=["row","times","other"]
noncomputable def Dh:DS:=(cC (fc (nW (ag (aa 0) (ag (aa 2) aw))) [none,none,some 1] (jj 0 1) cZ (aj cu (aa 0) (aj bN (aa 2) (aa 1)))))
theorem sH{t:Int}:∀(r s:List Int),(fL (au r) (au s)).map (fun d=>match d with| .tup [.int a,.int b]=> .int (a+t*b)|_=> .aP)=au (Mx.fe r t s)
 | [],_=>rfl
 |_::_,[]=>rfl
 |a::r,b::s=>by
  have:=sH (t:=t) r s
  unfold fL Mx.fe at this⊢
  simp only[au,List.map_cons,List.zip_cons_cons,List.zipWith_cons_cons]at this⊢
  rw[this]
theorem Bs:∀ds st K,jD ds st K→ds.length=3∧Dh {nx:=fun _ st'=>K .aP st',rt:=K} (bx oM ds) st:=by
 rintro ds st K ⟨x,y,t,r,s,rfl,hx,hy,hl,hm,k⟩
 refine⟨rfl,?_⟩
 refine ot hx hy fun ok aT=>⟨dJ (by rw[m6];simp;omega),?_⟩
 refine comp_map (g:=fun d=>match d with| .tup [.int a,.int b]=> .int (a+t*b)|_=> .aP) (aT st hx hy) _ (fun d hd K' q=>?_) ?_
 · obtain⟨a,b,ha,hb,rfl⟩:=pJ hd
   exact⟨_,rfl,b_ (hm b hb) (cK q)⟩
 · rw[sH];exact k
noncomputable def kT:cY:=fun ds st K=>∃(d:D) (A:List (List Int)) (j:Nat),ds=[d,.int j]∧gZ st d A∧(∀r∈A,j<r.length)∧A.length≤1000∧K (dy (Mx.rP A j)) st
noncomputable def mX:List Str:=["rows","place"]
noncomputable def Ae:DS:=(cC (dZ fV (ag (fc (iq (aa 0)) [none,some 1] (bB 0) cZ (aj bO (aa 0) (aa 1))) aw)))
theorem zF{tg:gd}{te:DE}{ok:ae→Prop}{σc:bJ}{st:ae}{K:List D→ae→Prop}{ds:List D}{A:List (List Int)}(f:List Int→D)(aT:ok st)(hr:bU st ds A)(hx:∀d r,r∈A→items? st d=some (au r)→∀K',K' (f r) st→∃σ2,tg d σc=some σ2∧te σ2 st K')(k:K (A.map f) st):df tg cZ te ok σc ds [] st K:=by
 refine g_ (fun rest acc st'=>∃(A1 A2:List (List Int)),st=st'∧A1++A2=A∧bU st rest A2∧acc=A1.map f) ?_ ?_ _ _ _ ⟨[],A,rfl,rfl,hr,rfl⟩
 · rintro acc st' ⟨A1,A2,rfl,he,h,rfl⟩
   match A2,h with
   | [],_=>
     rw[List.append_nil]at he
     subst he
     exact⟨aT,k⟩
 · rintro d rest acc st' ⟨A1,A2,rfl,he,h,rfl⟩ next
   match A2,h with
   |r::A2,h=>
    obtain⟨σ2,e2,q⟩:=hx d r (by rw[←he];simp) h.1 (fun y st2=>df tg cZ te ok σc rest (A1.map f++[y]) st2 K) (next _ _ ⟨A1++[r],A2,rfl,by rw[←he];simp,h.2,by simp⟩)
    exact⟨aT,σ2,e2,q⟩
theorem y0(A:List (List Int))(j:Nat):A.map (fun r=>D.int (r.getD j 0))=au (Mx.rP A j):=by unfold Mx.rP au;rw[List.map_map];rfl
theorem yt:∀ds st K,kT ds st K→ds.length=2∧Ae {nx:=fun _ st'=>K .aP st',rt:=K} (bx mX ds) st:=by
 rintro ds st K ⟨d,A,j,rfl,⟨da,hd,ra⟩,hj,hl,k⟩
 refine⟨rfl,?_⟩
 refine u4 hd fun ok aT=>⟨dJ (by rw[ra.len];exact hl),?_⟩
 refine zF (fun r=> .int (r.getD j 0)) aT ra (fun e r hr he K' q=>⟨_,rfl,aZ he (jG (hj r hr)) q⟩) ?_
 rw[y0]
 exact fZ rfl k
noncomputable def gJ:cY:=fun ds st K=>∃(d:D) (A:List (List Int)) (n:Nat),ds=[d,.int n]∧gZ st d A∧(∀r∈A,r.length=n)∧A.length≤1000∧n≤1000∧K (dP (Mx.zw A n)) st
noncomputable def iJ:List Str:=["rows","wide"]
noncomputable def s_:DS:=(cC (dZ fV (ag (fc (de (ag (aa 1) aw)) [none,some 0] (bB 0) cZ (bg kT (ag (aa 1) (ag (aa 0) aw)))) aw)))
theorem A3(A:List (List Int))(n:Nat):(List.range n).map (fun j=>dy (Mx.rP A j))=(Mx.zw A n).map dy:=by unfold Mx.zw;rw[List.map_map];rfl
theorem sf:∀ds st K,gJ ds st K→ds.length=2∧s_ {nx:=fun _ st'=>K .aP st',rt:=K} (bx iJ ds) st:=by
 rintro ds st K ⟨d,A,n,rfl,hd,hw,hl,hn,k⟩
 refine⟨rfl,?_⟩
 refine fq ⟨by omega,by omega⟩ ⟨dJ (by rw[cX];omega),?_⟩
 rw[Int.toNat_natCast]
 refine mW (fun j=>dy (Mx.rP A j)) n (fun i hi K' q=>⟨_,rfl,d,A,i,rfl,hd,fun r hr=>by rw[hw r hr];exact hi,hl,q⟩) ?_
 rw[A3]
 exact fZ rfl k
noncomputable def i9:cY:=fun ds st K=>∃(n i:Nat),ds=[.int n,.int i]∧n≤1000∧K (dy (Mx.i4 n i)) st
noncomputable def ki:List Str:=["n","place"]
noncomputable def xZ:DS:=(cC (dZ fV (ag (fc (de (ag (aa 0) aw)) [none,some 1] (bB 0) cZ (BD (dg (aj jz (aa 0) (aa 1))) (dC (.int 1)) (dC (.int 0)))) aw)))
theorem vz:∀ds st K,i9 ds st K→ds.length=2∧xZ {nx:=fun _ st'=>K .aP st',rt:=K} (bx ki ds) st:=by
 rintro ds st K ⟨n,i,rfl,hn,k⟩
 refine⟨rfl,?_⟩
 refine fq ⟨by omega,by omega⟩ ⟨dJ (by rw[cX];omega),?_⟩
 rw[Int.toNat_natCast]
 refine mW (fun j=> .int (Mx.dl j i)) n (fun j hj K' q=>⟨_,rfl,?_⟩) ?_
 · refine eq2 (fun h=>jo ?_) fun h=>?_
   · have:j=i:=by omega
     subst this
     rw[Mx.dO]at q;exact q
   · rw[Mx.eB (by omega)]at q;exact q
 · have:(List.range n).map (fun j=>D.int (Mx.dl j i))=au (Mx.i4 n i):=by unfold Mx.i4 au;rw[List.map_map];rfl
   rw[this]
   exact fZ rfl k
noncomputable def gP:cY:=fun ds st K=>∃(n:Nat),ds=[.int n]∧n≤1000∧K (dP (Mx.units n)) st
noncomputable def jQ:List Str:=["n"]
noncomputable def vP:DS:=(cC (dZ fV (ag (fc (de (ag (aa 0) aw)) [none,some 0] (bB 0) cZ (bg i9 (ag (aa 1) (ag (aa 0) aw)))) aw)))
theorem uD:∀ds st K,gP ds st K→ds.length=1∧vP {nx:=fun _ st'=>K .aP st',rt:=K} (bx jQ ds) st:=by
 rintro ds st K ⟨n,rfl,hn,k⟩
 refine⟨rfl,?_⟩
 refine fq ⟨by omega,by omega⟩ ⟨dJ (by rw[cX];omega),?_⟩
 rw[Int.toNat_natCast]
 refine mW (fun i=>dy (Mx.i4 n i)) n (fun i hi K' q=>⟨_,rfl,n,i,rfl,hn,q⟩) ?_
 have:(List.range n).map (fun i=>dy (Mx.i4 n i))=(Mx.units n).map dy:=by unfold Mx.units;rw[List.map_map];rfl
 rw[this]
 exact fZ rfl k
noncomputable def mV:cY:=fun ds st K=>∃(x y:D) (r s:List Int),ds=[x,y]∧items? st x=some (au r)∧items? st y=some (au s)∧r.length≤1000∧(∀a∈r,∀b∈s,IntMulOk a b)∧K (.int (Mx.fz r s)) st
noncomputable def tK:List Str:=["one","other"]
noncomputable def Ib:DS:=(cC (dZ rO (ag (fc (nW (ag (aa 0) (ag (aa 1) aw))) [none,none] (jj 0 1) cZ (aj bN (aa 0) (aa 1))) aw)))
theorem wz:∀(r s:List Int),∃ns:List Int,(fL (au r) (au s)).map (fun d=>match d with| .tup [.int a,.int b]=> .int (a*b)|_=> .aP)=au ns∧ns.sum=Mx.fz r s
 | [],_=>⟨[],rfl,rfl⟩
 |_::_,[]=>⟨[],rfl,rfl⟩
 |a::r,b::s=>by
  obtain⟨ns,h1,h2⟩:=wz r s
  refine⟨a*b::ns,?_,?_⟩
  · have e:fL (au (a::r)) (au (b::s))= .tup [.int a,.int b]::fL (au r) (au s):=rfl
    rw[e,List.map_cons,h1];rfl
  · rw[List.sum_cons,h2];rfl
theorem zo:∀ds st K,mV ds st K→ds.length=2∧Ib {nx:=fun _ st'=>K .aP st',rt:=K} (bx tK ds) st:=by
 rintro ds st K ⟨x,y,r,s,rfl,hx,hy,hl,hm,k⟩
 refine⟨rfl,?_⟩
 refine ot hx hy fun ok aT=>⟨dJ (by rw[m6];simp;omega),?_⟩
 obtain⟨ns,h1,h2⟩:=wz r s
 refine comp_map (g:=fun d=>match d with| .tup [.int a,.int b]=> .int (a*b)|_=> .aP) (aT st hx hy) _ (fun d hd K' q=>?_) ?_
 · obtain⟨a,b,ha,hb,rfl⟩:=pJ hd
   exact⟨_,rfl,b_ (hm a ha b hb) q⟩
 · rw[h1]
   refine Fh (ints_map _) ?_
   rw[h2];exact k
noncomputable def vX:Nat:=1237940039285380274899124224
theorem IE{p:Nat}(h:p≤8):(8*vX)^p≤2^744:=by
 have e:8*vX=2^93:=by decide
 rw[e,←Nat.pow_mul]
 exact Nat.pow_le_pow_right (by decide) (by omega)
theorem bits_le{a:Int}{m:Nat}(h:a.natAbs<2^m):Builtin.Int.intBits a≤m:=by
 unfold Builtin.Int.intBits
 by_cases h0:a.natAbs=0
 · have:a=0:=by omega
   subst this
   simp
 · have:=(Nat.log2_lt h0).mpr h
   split<;>omega
theorem wj{a b:Int}(ha:a.natAbs≤2^744)(hb:b.natAbs≤2^744):IntMulOk a b:=by
 have l:(2:Nat)^744<2^745:=Nat.pow_lt_pow_right (by decide) (by decide)
 have l2:745≤2^20:=by decide
 exact .of_bits (Nat.le_trans (bits_le (Nat.lt_of_le_of_lt ha l)) l2) (Nat.le_trans (bits_le (Nat.lt_of_le_of_lt hb l)) l2)
theorem Iu{a:Int}(ha:a.natAbs≤2^744)(h0:a≠0):a.natAbs.log2<9000:=by
 have l:(2:Nat)^744<2^745:=Nat.pow_lt_pow_right (by decide) (by decide)
 have:=(Nat.log2_lt (show a.natAbs≠0 by omega)).mpr (Nat.lt_of_le_of_lt ha l)
 omega
structure Gm(G:Mx.Fn)(n:Nat):Prop where
 le:n≤8
 bd:∀r c,r<n→c<n→(G r c).natAbs≤vX
 sym:∀i j,G i j=G j i
theorem Gm.gx{G:Mx.Fn}{n p i j:Nat}(h:Gm G n)(hp:p<n)(hi:i<n)(hj:j<n):(Mx.gx G p (G i) j).natAbs≤2^744:=Nat.le_trans (Mx.zf h.le h.bd hp hi hj) (IE (by have:=h.le;omega))
theorem Gm.D{G:Mx.Fn}{n p:Nat}(h:Gm G n)(hp:p≤n):(Mx.D p G).natAbs≤2^744:=Nat.le_trans (Mx.qs (by have:=h.le;omega) fun r c hr hc=>h.bd r c (by omega) (by omega)) (IE (by have:=h.le;omega))
noncomputable def i5:cY:=fun ds st K=>∃(G:Mx.Fn) (n i j:Nat) (m:Nat) (o1 o2:List Int) (dt d1 d2:D) (ts:List D),ds=[.int (G i j),dt,d1,d2]∧items? st dt=some ts∧bU st ts (Mx.nP G m)∧items? st d1=some (au o1)∧items? st d2=some (au o2)∧o1.length=j∧j≤o2.length∧j≤m∧(∀k,k<j→o1.getD k 0=Mx.lam G i k∧o2.getD k 0=Mx.lam G j k)∧(∀k,k<j→Mx.D k G≠0)∧Gm G n∧i<n∧j<n∧K (.int (Mx.gx G j (G i) j)) st
noncomputable def lp:List Str:=["together","table","one","other","divisor","line","left","right"]
noncomputable def yJ:DS:=(aD (aX 4 (dC (.int 1)))
 (aD (fE (ym (ag (aa 1) (ag (aa 2) (ag (aa 3) aw)))) (oN 5 6 7) (aD (aX 0 (aj gY (aj c_ (aj bN (aj bO (aa 5) (lM iy (dC (.int 1)))) (aa 0)) (aj bN (aa 6) (aa 7))) (aa 4)))
 (aX 4 (aj bO (aa 5) (lM iy (dC (.int 1)))))))
 (cC (aa 0))))
theorem kz{r:List Int}{n:Nat}(h:r.length=n+1):dY (au r) (-1)=some (.int (r.getD n 0)):=by
 have e:r=r.take n++[r.getD n 0]:=by
  rw[Mx.bj (by omega),←List.take_succ_eq_append_getElem (by omega),List.take_of_length_le (by omega)]
 have e2:au r=au (r.take n)++[.int (r.getD n 0)]:=by
  conv=>lhs;rw[e]
  simp[au]
 rw[e2]
 exact An _ _
theorem qU{ts:List D}{o1 o2:List Int}{k:Nat}(h1:k<ts.length)(h2:k<o1.length)(h3:k<o2.length):ff (ts.drop k) (au (o1.drop k)) (au (o2.drop k))= .tup [ts[k],.int (o1.getD k 0),.int (o2.getD k 0)]::ff (ts.drop (k+1)) (au (o1.drop (k+1))) (au (o2.drop (k+1))):=by
 rw[List.drop_eq_getElem_cons h1,List.drop_eq_getElem_cons h2,List.drop_eq_getElem_cons h3,Mx.bj h2,Mx.bj h3]
 rfl
theorem k_{st:ae}{ts:List D}{A:List (List Int)}{q:Nat}(h:bU st ts A)(hq:q<ts.length):items? st ts[q]=some (au (A.getD q [])):=by
 obtain⟨r,e1,e2⟩:=h.get (List.getElem?_eq_getElem hq)
 have hl:=h.len
 rw[List.getElem?_eq_getElem (by omega)]at e1
 cases e1
 rw[Mx.bj (by omega)]
 exact e2
theorem yd:∀ds st K,i5 ds st K→ds.length=4∧yJ {nx:=fun _ st'=>K .aP st',rt:=K} (bx lp ds) st:=by
 rintro ds st K ⟨G,n,i,j,m,o1,o2,dt,d1,d2,ts,rfl,ht,rt,h1,h2,l1,l2,l3,ho,hD,g,hi,hj,k⟩
 refine⟨rfl,?_⟩
 have hg:=g.le
 have lt:=rt.len
 rw[Mx.uP]at lt
 refine CP ht h1 h2 fun ok aT=>?_
 refine fk (fun rest σ st'=>st'=st∧∃(q:Nat) (v5 v6 v7:Option D),q≤j∧σ=[some (.int (Mx.gx G q (G i) j)),some dt,some d1,some d2,some (.int (Mx.D q G)),v5,v6,v7]∧rest=ff (ts.drop q) (au (o1.drop q)) (au (o2.drop q))) ?_ ?_ _ _ _ ⟨rfl,0,none,none,none,Nat.zero_le _,by rw[Mx.kC];rfl,rfl⟩
 · rintro σ st' ⟨rfl,q,v5,v6,v7,hq,rfl,hr⟩
   refine⟨aT _ ht h1 h2,?_⟩
   have:q=j:=by
    by_cases h:q<j
    · rw[qU (by omega) (by omega) (by omega)]at hr
      cases hr
    · omega
   subst this
   exact k
 · rintro x rest σ st' ⟨rfl,q,v5,v6,v7,hq,rfl,hr⟩ next
   have hqj:q<j:=by
    by_cases h:q<j
    · exact h
    · have:o1.drop q=[]:=List.drop_eq_nil_of_le (by omega)
      rw[this]at hr
      have e:ff (ts.drop q) (au []) (au (o2.drop q))=[]:=by
       cases (ts.drop q)<;>rfl
      rw[e]at hr
      cases hr
   rw[qU (by omega) (by omega) (by omega),List.cons.injEq]at hr
   obtain⟨rfl,rfl⟩:=hr
   refine⟨aT _ ht h1 h2,_,rfl,?_⟩
   have il:=k_ rt (q:=q) (by omega)
   rw[Mx.wg G (show q<m by omega)]at il
   rw[(ho q hqj).1,(ho q hqj).2]
   have eL:(Mx.aO G q).getD q 0=Mx.D (q+1) G:=by rw[Mx.iR G (Nat.le_refl _),Mx.dz]
   have b1:=g.D (p:=q+1) (by omega)
   have b2:=g.gx (p:=q) (i:=i) (j:=j) (by omega) hi hj
   have b3:(Mx.lam G i q).natAbs≤2^744:=g.gx (by omega) hi (by omega)
   have b4:(Mx.lam G j q).natAbs≤2^744:=g.gx (by omega) hj (by omega)
   have b5:=g.D (p:=q) (by omega)
   refine ia (aZ il (kz (Mx.d_ G q)) ?_)
   rw[eL]
   refine b_ (wj b1 b2) (b_ (wj b3 b4) (cN (iY (hD q hqj) (Iu b5 (hD q hqj)) ?_)))
   rw[Mx.vv g.sym (hD q hqj)]
   refine ia (aZ il (kz (Mx.d_ G q)) ?_)
   rw[eL]
   exact next _ _ ⟨rfl,q+1,_,_,_,hqj,rfl,rfl⟩
structure St(A:List (List Int))(N w:Nat):Prop where
 is:Mx.cz N w A
 wd:w≤1000
 sm:∀r∈A,∀x∈r,x.natAbs<2^64
 gm:Gm (Mx.ab A) N
theorem St.mem{A:List (List Int)}{N w i:Nat}(h:St A N w)(hi:i<N):A.getD i []∈A:=by
 have:=h.is.len
 rw[Mx.bj (by omega)];exact List.getElem_mem _
noncomputable def ka:cY:=fun ds st K=>∃(A:List (List Int)) (N w i:Nat) (dt dA dr:D) (ts:List D),ds=[dt,dA,dr]∧items? st dt=some ts∧bU st ts (Mx.nP (Mx.ab A) i)∧gZ st dA A∧St A N w∧i<N∧items? st dr=some (au (A.getD i []))∧(∀k,k≤i→Mx.D k (Mx.ab A)≠0)∧∀st',Ext st st'→st'.length=st.length+1→st'[st.length]?=some (.lst (au (Mx.aO (Mx.ab A) i)))→K (.ref st.length) st'
noncomputable def lJ:List Str:=["table","steps","row","made","line","step"]
noncomputable def zN:DS:=(aD (aX 3 (kL aw))
 (aD (fE (nW (ag (aa 0) (ag (aa 1) aw))) (jj 4 5) (fU (fO (aa 3) (bg i5 (ag (bg mV (ag (aa 2) (ag (aa 5) aw))) (ag (aa 0) (ag (aa 3) (ag (aa 4) aw))))))))
 (aD (fU (fO (aa 3) (bg i5 (ag (bg mV (ag (aa 2) (ag (aa 2) aw))) (ag (aa 0) (ag (aa 3) (ag (aa 3) aw)))))))
 (cC (aa 3)))))
theorem sF{ts da:List D}{q:Nat}(h1:q<ts.length)(h2:q<da.length):fL (ts.drop q) (da.drop q)= .tup [ts[q],da[q]]::fL (ts.drop (q+1)) (da.drop (q+1)):=by
 rw[List.drop_eq_getElem_cons h1,List.drop_eq_getElem_cons h2]
 rfl
theorem yO{A:List (List Int)}{N w i j:Nat}(h:St A N w)(hi:i<N)(hj:j<N):∀a∈A.getD i [],∀b∈A.getD j [],IntMulOk a b:=fun a ha b _=>by
 have:=h.sm _ (h.mem hi) a ha
 exact fN (by omega) (by omega)
theorem pY(G:Mx.Fn)(i q:Nat):au ((List.range q).map fun j=>Mx.lam G i j)++[.int (Mx.lam G i q)]=au ((List.range (q+1)).map fun j=>Mx.lam G i j):=by rw[List.range_succ,List.map_append];simp[au]
theorem mm(G:Mx.Fn){i q k:Nat}(h:k<q):((List.range q).map fun j=>Mx.lam G i j).getD k 0=Mx.lam G i k:=by rw[Mx.bj (by simpa using h),List.getElem_map,List.getElem_range]
theorem yh:∀ds st K,ka ds st K→ds.length=3∧zN {nx:=fun _ st'=>K .aP st',rt:=K} (bx lJ ds) st:=by
 rintro ds st K ⟨A,N,w,i,dt,dA,dr,ts,rfl,ht,rt,⟨da,hda,ra⟩,hS,hi,hr,hD,k⟩
 refine⟨rfl,?_⟩
 have hl:=hS.is.len
 have hla:=ra.len
 have lt:=rt.len
 rw[Mx.uP]at lt
 have h8:=hS.gm.le
 have wi:=hS.is.jf _ (hS.mem hi)
 have hw:=hS.wd
 refine⟨Nat.le_of_ble_eq_true rfl,?_⟩
 have X0:Ext st (st++[.lst []]):=Ext.push
 have e0:(st++[Cell.lst []])[st.length]?=some (.lst (au ((List.range 0).map fun j=>Mx.lam (Mx.ab A) i j))):=by simp
 refine ot (X0.items ht) (X0.items hda) fun ok aT=>?_
 refine fk (fun rest σ st'=>∃(q:Nat) (v4 v5:Option D),q≤i∧σ=[some dt,some dA,some dr,some (.ref st.length),v4,v5]∧rest=fL (ts.drop q) (da.drop q)∧Ext st st'∧st'.length=st.length+1∧st'[st.length]?=some (.lst (au ((List.range q).map fun j=>Mx.lam (Mx.ab A) i j)))) ?_ ?_ _ _ _ ⟨0,none,none,Nat.zero_le _,rfl,rfl,X0,by simp,e0⟩
 · rintro σ st1 ⟨q,v4,v5,hq,rfl,hrest,X,ln1,e⟩
   refine⟨aT _ (X.items ht) (X.items hda),?_⟩
   have hqi:q=i:=by
    by_cases h:q<i
    · rw[sF (by omega) (by omega)]at hrest
      cases hrest
    · omega
   subst hqi
   refine kJ (by rfl) e ?_
   refine⟨_,_,A.getD q [],A.getD q [],rfl,X.items hr,X.items hr,by omega,yO hS hi hi,?_⟩
   refine⟨Mx.ab A,N,q,q,q,(List.range q).map fun j=>Mx.lam (Mx.ab A) q j,(List.range q).map fun j=>Mx.lam (Mx.ab A) q j,dt,.ref st.length,.ref st.length,ts,rfl,X.items ht,X.qw rt,aB e,aB e,by simp,by simp,Nat.le_refl _,fun k hk=>⟨mm _ hk,mm _ hk⟩,fun k hk=>hD k (by omega),hS.gm,hi,hi,?_⟩
   refine jH e (by rw[sizeLine_eq];simp;omega) ?_
   have hlt:=(List.getElem?_eq_some_iff.mp e).1
   have e2:(st1.set st.length (.lst (au ((List.range q).map fun j=>Mx.lam (Mx.ab A) q j)++[.int (Mx.gx (Mx.ab A) q (Mx.ab A q) q)])))[st.length]?=some (.lst (au (Mx.aO (Mx.ab A) q))):=by
    rw[List.getElem?_set_self hlt]
    have:=pY (Mx.ab A) q q
    unfold Mx.lam at this⊢
    unfold Mx.aO Mx.lam
    rw[this]
   exact k _ (X.set (Nat.le_refl _)) (by rw[List.length_set];exact ln1) e2
 · rintro x rest σ st1 ⟨q,v4,v5,hq,rfl,hrest,X,ln1,e⟩ next
   have hqi:q<i:=by
    by_cases h:q<i
    · exact h
    · have:ts.drop q=[]:=List.drop_eq_nil_of_le (by omega)
      rw[this]at hrest
      cases hrest
   rw[sF (by omega) (by omega),List.cons.injEq]at hrest
   obtain⟨rfl,rfl⟩:=hrest
   refine⟨aT _ (X.items ht) (X.items hda),_,rfl,?_⟩
   have hrq:=k_ ra (q:=q) (by omega)
   have htq:=k_ rt (q:=q) (by omega)
   rw[Mx.wg _ hqi]at htq
   refine kJ (by rfl) e ?_
   refine⟨_,_,A.getD i [],A.getD q [],rfl,X.items hr,X.items hrq,by omega,yO hS hi (by omega),?_⟩
   refine⟨Mx.ab A,N,i,q,i,(List.range q).map fun j=>Mx.lam (Mx.ab A) i j,Mx.aO (Mx.ab A) q,dt,.ref st.length,ts[q],ts,rfl,X.items ht,X.qw rt,aB e,X.items htq,by simp,by rw[Mx.d_];omega,by omega,fun k hk=>⟨mm _ hk,Mx.iR _ (by omega)⟩,fun k hk=>hD k (by omega),hS.gm,hi,by omega,?_⟩
   refine jH e (by rw[sizeLine_eq];simp;omega) ?_
   have hlt:=(List.getElem?_eq_some_iff.mp e).1
   refine next _ _ ⟨q+1,_,_,hqi,rfl,rfl,X.set (Nat.le_refl _),by rw[List.length_set];exact ln1,?_⟩
   rw[List.getElem?_set_self hlt]
   have:=pY (Mx.ab A) i q
   unfold Mx.lam at this⊢
   rw[this]
structure Tb(st:ae)(tb:Nat)(rs:List Nat)(G:Mx.Fn)(N:Nat):Prop where
 et:st[tb]?=some (Cell.lst (rs.map D.ref))
 lr:rs.length=N
 nd:∀(i j c:Nat),rs[i]?=some c→rs[j]?=some c→i=j
 nt:∀(i c:Nat),rs[i]?=some c→c≠tb
 row:∀(i c:Nat),rs[i]?=some c→st[c]?=some (Cell.lst (au (Mx.aO G i)))
theorem Tb.rows{st:ae}{tb:Nat}{rs:List Nat}{G:Mx.Fn}{N:Nat}(T:Tb st tb rs G N):bU st (rs.map D.ref) (Mx.nP G N):=by
 have key:∀(l:List Nat) (n:Nat),(∀(i c:Nat),l[i]?=some c→st[c]?=some (Cell.lst (au (Mx.aO G (n+i)))))→bU st (l.map D.ref) ((List.range l.length).map fun i=>Mx.aO G (n+i)):=by
  intro l
  induction l with
  |nil=>intro n h;trivial
  |cons c l ih=>
   intro n h
   rw[List.length_cons,List.range_succ_eq_map,List.map_cons,List.map_cons,List.map_map]
   refine⟨aB (by have:=h 0 c rfl;exact this),?_⟩
   have:=ih (n+1) fun i d hd=>by
    have:=h (i+1) d (by simpa using hd)
    rw[show n+1+i=n+(i+1) by omega]
    exact this
   have e:((fun i=>Mx.aO G (n+i))∘Nat.succ)=fun i=>Mx.aO G (n+1+i):=by
    funext i
    show Mx.aO G (n+(i+1))=_
    rw[show n+1+i=n+(i+1) by omega]
   rw[e]
   exact this
 have h:=key rs 0 fun i c hc=>by rw[Nat.zero_add];exact T.row i c hc
 rw[T.lr]at h
 unfold Mx.nP
 have e:(fun i=>Mx.aO G (0+i))=Mx.aO G:=by funext i;rw[Nat.zero_add]
 rw[e]at h
 exact h
theorem Tb.ext{st st':ae}{tb:Nat}{rs:List Nat}{G:Mx.Fn}{N:Nat}(T:Tb st tb rs G N)(h1:st'[tb]?=st[tb]?)(h2:∀(i c:Nat),rs[i]?=some c→st'[c]?=st[c]?):Tb st' tb rs G N:=⟨h1.trans T.et,T.lr,T.nd,T.nt,fun i c h=>(h2 i c h).trans (T.row i c h)⟩
noncomputable def ji:cY:=fun ds st K=>∃(A:List (List Int)) (N w:Nat) (dA:D),ds=[dA]∧gZ st dA A∧St A N w∧(∀k,k≤N→Mx.D k (Mx.ab A)≠0)∧∀st' rs,Ext st st'→Tb st' st.length rs (Mx.ab A) N→(∀(i c:Nat),rs[i]?=some c→st.length<c)→K (.ref st.length) st'
noncomputable def km:List Str:=["steps","table","step","line"]
noncomputable def w8:DS:=(aD (aX 1 (kL aw))
 (aD (fE (iq (aa 0)) (bB 2) (aD (aX 3 (bg ka (ag (aa 1) (ag (aa 0) (ag (aa 2) aw)))))
 (aD (gX (dg (aj jz (aj bO (aa 3) (lM iy (dC (.int 1)))) (dC (.int 0)))) zW fT)
 (fU (fO (aa 1) (aa 3))))))
 (cC (aa 1))))
theorem ql{i:Nat}{σ:bJ}{st:ae}{K:DK}{d:D}(h:σ[i]?=some (some d))(k:K d st):aa i σ st K:=by
 unfold aa
 simp only[h]
 exact k
theorem vF:∀ds st K,ji ds st K→ds.length=1∧w8 {nx:=fun _ st'=>K .aP st',rt:=K} (bx km ds) st:=by
 rintro ds st K ⟨A,N,w,dA,rfl,hA,hS,hD,k⟩
 refine⟨rfl,?_⟩
 obtain⟨da,hda,ra⟩:=hA.ex
 have hl:=hS.is.len
 have hla:=ra.len
 have h8:=hS.gm.le
 refine⟨Nat.le_of_ble_eq_true rfl,?_⟩
 have X0:Ext st (st++[.lst []]):=Ext.push
 have T0:Tb (st++[Cell.lst []]) st.length [] (Mx.ab A) 0:=⟨by simp,rfl,fun i j c h=>by simp at h,fun i c h=>by simp at h,fun i c h=>by simp at h⟩
 refine Dw (X0.items hda) fun ok aT=>?_
 refine fk (fun rest σ st'=>∃(q:Nat) (rs:List Nat) (v2 v3:Option D),q≤N∧σ=[some dA,some (.ref st.length),v2,v3]∧rest=da.drop q∧Ext st st'∧Tb st' st.length rs (Mx.ab A) q∧∀(i c:Nat),rs[i]?=some c→st.length<c∧c<st'.length) ?_ ?_ _ _ _ ⟨0,[],none,none,Nat.zero_le _,rfl,rfl,X0,T0,fun i c h=>by simp at h⟩
 · rintro σ st1 ⟨q,rs,v2,v3,hq,rfl,hrest,X,T,hc⟩
   refine⟨aT _ (X.items hda),?_⟩
   have hqN:q=N:=by
    have:=congrArg List.length hrest
    simp at this
    omega
   subst hqN
   exact k _ rs X T fun i c h=>(hc i c h).1
 · rintro x rest σ st1 ⟨q,rs,v2,v3,hq,rfl,hrest,X,T,hc⟩ next
   have hqN:q<N:=by
    have:=congrArg List.length hrest
    simp at this
    omega
   rw[List.drop_eq_getElem_cons (show q<da.length by omega),List.cons.injEq]at hrest
   obtain⟨rfl,rfl⟩:=hrest
   refine⟨aT _ (X.items hda),_,rfl,?_⟩
   have hrq:=k_ ra (q:=q) (by omega)
   refine⟨A,N,w,q,.ref st.length,dA,_,_,rfl,aB T.et,T.rows,X.tW hA,hS,hqN,X.items hrq,fun k hk=>hD k (by omega),fun st2 X2 ln2 e2=>?_⟩
   have X3:=X.trans X2
   have hlt:st.length<st1.length:=(List.getElem?_eq_some_iff.mp T.et).1
   have lr:=T.lr
   refine ia (aZ (aB e2) (kz (Mx.d_ _ q)) ?_)
   rw[Mx.iR _ (Nat.le_refl q),Mx.dz]
   refine Ca (hD (q+1) (by omega)) ?_
   have et2:st2[st.length]?=some (.lst (rs.map D.ref)):=(X2.same _ hlt).trans T.et
   refine kJ (by rfl) et2 (ql rfl (jH et2 (by rw[sizeLine_eq,List.length_map];omega) ?_))
   have key:∀(i c:Nat),(rs++[st1.length])[i]?=some c→(i<q∧rs[i]?=some c)∨(i=q∧c=st1.length):=fun i c h=>by
    by_cases hi:i<rs.length
    · rw[List.getElem?_append_left hi]at h;exact .inl ⟨by omega,h⟩
    · have hlt2:=(List.getElem?_eq_some_iff.mp h).1
      have:i=rs.length:=by simp at hlt2;omega
      rw[List.getElem?_append_right (by omega),this,Nat.sub_self]at h
      simp at h
      exact .inr ⟨by omega,h.symm⟩
   refine next _ _ ⟨q+1,rs++[st1.length],_,_,hqN,rfl,rfl,X3.set (Nat.le_refl _),⟨?_,by simp[lr],fun i j c hi hj=>?_,fun i c hi=>?_,fun i c hi=>?_⟩,fun i c hi=>?_⟩
   · rw[List.getElem?_set_self (by omega),List.map_append];rfl
   · rcases key i c hi with⟨a1,a2⟩|⟨a1,a2⟩<;>rcases key j c hj with⟨b1,b2⟩|⟨b1,b2⟩
     · exact T.nd i j c a2 b2
     · have:=(hc i c a2).2;omega
     · have:=(hc j c b2).2;omega
     · omega
   · rcases key i c hi with⟨a1,a2⟩|⟨a1,a2⟩
     · exact T.nt i c a2
     · omega
   · rcases key i c hi with⟨a1,a2⟩|⟨a1,a2⟩
     · have h1:=hc i c a2
       rw[List.getElem?_set_ne (by omega),X2.same c h1.2]
       exact T.row i c a2
     · rw[a2,a1,List.getElem?_set_ne (by omega)]
       exact e2
   · rcases key i c hi with⟨a1,a2⟩|⟨a1,a2⟩
     · have h1:=hc i c a2
       exact⟨h1.1,by rw[List.length_set];omega⟩
     · exact⟨by omega,by rw[List.length_set];omega⟩
noncomputable def eW:cY:=fun ds st K=>∃(t d:Int),ds=[.int t,.int d]∧0<d∧d.natAbs≤2^8000∧K (.int ((2*t+d).fdiv (2*d))) st
noncomputable def fS:List Str:=["top","bottom"]
noncomputable def nX:DS:=(cC (aj gY (aj cu (aj bN (dC (.int 2)) (aa 0)) (aa 1)) (aj bN (dC (.int 2)) (aa 1))))
theorem AQ{a:Int}{m:Nat}(h:a.natAbs<2^m):Builtin.Int.intBits a≤m:=by
 unfold Builtin.Int.intBits
 by_cases h0:a.natAbs=0
 · have:a=0:=by omega
   subst this
   simp
 · have:=(Nat.log2_lt h0).mpr h
   split<;>omega
theorem mf{a b:Int}{m n:Nat}(ha:a.natAbs≤2^m)(hb:b.natAbs≤2^n):(a*b).natAbs≤2^(m+n):=by
 rw[Int.natAbs_mul,Nat.pow_add]
 exact Nat.mul_le_mul ha hb
theorem dc{a b:Int}{m n:Nat}(ha:a.natAbs≤2^m)(hb:b.natAbs≤2^n)(hm:m<1000000)(hn:n<1000000):IntMulOk a b:=by
 have l2:(1000000:Nat)≤2^20:=by decide
 have q:∀ {x:Int} {k:Nat},x.natAbs≤2^k→k<1000000→Builtin.Int.intBits x≤2^20:=fun{x k} h hk=>Nat.le_trans (AQ (Nat.lt_of_le_of_lt h (Nat.pow_lt_pow_right (by decide) (Nat.lt_succ_self k)))) (by omega)
 exact .of_bits (q ha hm) (q hb hn)
theorem qk{a:Int}{m:Nat}(ha:a.natAbs≤2^m)(h0:a≠0)(hm:m+1<9000):a.natAbs.log2<9000:=by
 have l:(2:Nat)^m<2^(m+1):=Nat.pow_lt_pow_right (by decide) (Nat.lt_succ_self m)
 have:=(Nat.log2_lt (show a.natAbs≠0 by omega)).mpr (Nat.lt_of_le_of_lt ha l)
 omega
theorem nk:∀ds st K,eW ds st K→ds.length=2∧nX {nx:=fun _ st'=>K .aP st',rt:=K} (bx fS ds) st:=by
 rintro ds st K ⟨t,d,rfl,hd,hb,k⟩
 refine⟨rfl,?_⟩
 have h2:(2*d).natAbs≤2^(1+8000):=mf (m:=1) (by decide) hb
 exact b_ (fN (by decide) (by decide)) (cK (b_ (fN (by decide) (by decide)) (iY (by omega) (qk h2 (by omega) (by decide)) k)))
noncomputable def gc:cY:=fun ds st K=>∃(n k o:Nat) (A:List (List Int)),ds=[.ref n,.int k,.int o]∧st[n]?=some (.lst (A.map ba))∧k<A.length∧o<A.length∧K (.ref st.length) (st++[.lst ((Mx.bT A k o).map ba)])
noncomputable def jP:List Str:=["rows","k","other","order"]
noncomputable def vG:DS:=(aD (aX 3 (dZ nV (ag (aa 0) aw)))
 (aD (gO (aa 3) (aa 1) (aj bO (aa 0) (aa 2)))
 (aD (gO (aa 3) (aa 2) (aj bO (aa 0) (aa 1)))
 (cC (aa 3)))))
theorem i0{A:List (List Int)}{j:Nat}(h:j<A.length):dY (A.map ba) (j:Int)=some (ba (A.getD j [])):=by
 refine gR ?_
 rw[List.getElem?_map,List.getElem?_eq_getElem h,Mx.bj h];rfl
theorem i8{m k:Nat}(h:k<m):jA m (k:Int)=some k:=by
 have:=Fc (i:=(k:Int)) (m:=m) (by omega) (by omega)
 rw[Int.toNat_natCast]at this
 exact this
theorem jK{A:List (List Int)}{k:Nat}{r:List Int}:(A.map ba).set k (ba r)=(A.set k r).map ba:=by rw[List.map_set]
theorem uS:∀ds st K,gc ds st K→ds.length=3∧vG {nx:=fun _ st'=>K .aP st',rt:=K} (bx jP ds) st:=by
 rintro ds st K ⟨n,k,o,A,rfl,e,hk,ho,kk⟩
 refine⟨rfl,?_⟩
 have hn:n<st.length:=(List.getElem?_eq_some_iff.mp e).1
 refine A_ (aB e) ?_
 have e1:(st++[Cell.lst (A.map ba)])[n]?=some (.lst (A.map ba)):=by rw[List.getElem?_append_left hn];exact e
 have e2:(st++[Cell.lst (A.map ba)])[st.length]?=some (.lst (A.map ba)):=by simp
 refine aZ (aB e1) (i0 ho) (jl e2 (by rw[List.length_map];exact i8 hk) ?_)
 rw[jK]
 have es:(st++[Cell.lst (A.map ba)]).set st.length (.lst ((A.set k (A.getD o [])).map ba))=st++[Cell.lst ((A.set k (A.getD o [])).map ba)]:=by
  rw[List.set_append_right _ _ (Nat.le_refl _),Nat.sub_self];rfl
 rw[es]
 have e3:(st++[Cell.lst ((A.set k (A.getD o [])).map ba)])[n]?=some (.lst (A.map ba)):=by rw[List.getElem?_append_left hn];exact e
 have e4:(st++[Cell.lst ((A.set k (A.getD o [])).map ba)])[st.length]?=some (.lst ((A.set k (A.getD o [])).map ba)):=by simp
 refine aZ (aB e3) (i0 hk) (jl e4 (by rw[List.length_map,List.length_set];exact i8 ho) ?_)
 rw[jK]
 have es2:(st++[Cell.lst ((A.set k (A.getD o [])).map ba)]).set st.length (.lst (((A.set k (A.getD o [])).set o (A.getD k [])).map ba))=st++[Cell.lst ((Mx.bT A k o).map ba)]:=by
  rw[List.set_append_right _ _ (Nat.le_refl _),Nat.sub_self];rfl
 rw[es2]
 exact kk
structure Bn(st:ae)(b xb xu xc:Nat)(A U C:List (List Int)):Prop where
 eb:st[b]?=some (Cell.ins az [("body",.ref xb),("turn",.ref xu),("back_columns",.ref xc)])
 e1:st[xb]?=some (Cell.lst (A.map ba))
 e2:st[xu]?=some (Cell.lst (U.map ba))
 e3:st[xc]?=some (Cell.lst (C.map ba))
 n1:xb≠xu
 n2:xb≠xc
 n3:xu≠xc
theorem h_{st:ae}{b x:Nat}{C:Addr}{fs:List (Str×D)}{xs:List D}(h1:st[b]?=some (Cell.ins C fs))(h2:st[x]?=some (Cell.lst xs)):b≠x:=fun z=>by rw[z,h2]at h1;cases h1
noncomputable def fJ:cY:=fun ds st K=>∃(b N:Nat) (d:D) (A:List (List Int)),ds=[.ref b,d]∧st[b]?=some (.ins az [])∧gZ st d A∧A.length=N∧N≤8∧∀st',Bn st' b st.length (st.length+1) (st.length+2) A (Mx.units N) (Mx.units N)→st'.length=st.length+3→(∀m,m<st.length→m≠b→st'[m]?=st[m]?)→K .aP st'
noncomputable def gF:List Str:=["self","rows"]
noncomputable def pP:DS:=(aD (jU az "body" (aa 0) (oi (iq (aa 1)) [none] (bB 0) cZ (dZ mR (ag (aa 0) aw))))
 (aD (jU az "turn" (aa 0) (oi (iq (bg gP (ag (dZ iQ (ag (aa 1) aw)) aw))) [none] (bB 0) cZ (dZ mR (ag (aa 0) aw))))
 (jU az "back_columns" (aa 0) (oi (iq (bg gP (ag (dZ iQ (ag (aa 1) aw)) aw))) [none] (bB 0) cZ (dZ mR (ag (aa 0) aw))))))
theorem ng(f:Str)(v:D):∀fs:List (Str×D),(putD f v fs).length≤fs.length+1
 | []=>by simp[putD]
 |(g,x)::r=>by
  unfold putD
  split
  · simp
  · have:=ng f v r
    simp only[List.length_cons]
    omega
theorem uF{st:ae}{A:List (List Int)}:bU st (A.map dy) A:=bU.tup
theorem sP(n:Nat):(Mx.units n).length=n:=by unfold Mx.units;simp
theorem ph:∀ds st K,fJ ds st K→ds.length=2∧pP {nx:=fun _ st'=>K .aP st',rt:=K} (bx gF ds) st:=by
 rintro ds st K ⟨b,N,d,A,rfl,eb,hA,hl,hN,k⟩
 refine⟨rfl,?_⟩
 have hb:b<st.length:=(List.getElem?_eq_some_iff.mp eb).1
 obtain⟨da,hd,ra⟩:=hA.ex
 have hdl:=ra.len
 have lst:∀(e:D) (r:List Int),True:=fun _ _=>trivial
 refine u4 hd fun ok aT=>⟨dJ (by omega),?_⟩
 refine kj ba aT ra (fun e r hr he K' q=>⟨_,rfl,rp he q⟩) ?_
 have eb1:(st++[Cell.lst (A.map ba)])[b]?=some (.ins az []):=by rw[List.getElem?_append_left hb];exact eb
 refine i6 eb1 (by decide) ?_
 generalize hs1:(st++[Cell.lst (A.map ba)]).set b (.ins az (putD "body" (.ref st.length) []))=st1
 have l1:st1.length=st.length+1:=by rw[←hs1];simp
 have f1:∀m,m<st.length→m≠b→st1[m]?=st[m]?:=fun m hm hmb=>by rw[←hs1,List.getElem?_set_ne (Ne.symm hmb),List.getElem?_append_left hm]
 have b1:st1[b]?=some (.ins az (putD "body" (.ref st.length) [])):=by rw[←hs1,List.getElem?_set_self (by simp;omega)]
 have x1:st1[st.length]?=some (.lst (A.map ba)):=by rw[←hs1,List.getElem?_set_ne (by omega)];simp
 clear hs1
 have itd:∃da',items? st1 d=some da'∧da'.length=N:=by
  cases d with
  |ref n=>
   by_cases hnb:n=b
   · subst hnb
     unfold items? at hd
     simp only[eb]at hd
     cases hd
   · have hn:n<st.length:=by
      unfold items? at hd
      simp only at hd
      cases q:st[n]? with
      |none=>rw[q]at hd;cases hd
      |some c=>exact(List.getElem?_eq_some_iff.mp q).1
     refine⟨da,?_,by omega⟩
     unfold items? at hd⊢
     simp only at hd⊢
     rw[f1 n hn hnb]
     exact hd
  |_=>exact⟨da,hd,by omega⟩
 obtain⟨da1,hd1,hdl1⟩:=itd
 refine iE hd1 ?_
 rw[hdl1]
 refine⟨N,rfl,by omega,?_⟩
 refine mI ⟨dJ (by rw[List.length_map,sP];omega),?_⟩
 refine kj ba trivial uF (fun e r hr he K' q=>⟨_,rfl,rp he q⟩) ?_
 have b2:(st1++[Cell.lst ((Mx.units N).map ba)])[b]?=some (.ins az (putD "body" (.ref st.length) [])):=by rw[List.getElem?_append_left (by omega)];exact b1
 refine i6 b2 (by have:=ng "body" (.ref st.length) [];simp only[List.length_nil]at this;omega) ?_
 generalize hs2:(st1++[Cell.lst ((Mx.units N).map ba)]).set b (.ins az (putD "turn" (.ref st1.length) (putD "body" (.ref st.length) [])))=st2
 have l2:st2.length=st.length+2:=by rw[←hs2];simp;omega
 have f2:∀m,m<st1.length→m≠b→st2[m]?=st1[m]?:=fun m hm hmb=>by rw[←hs2,List.getElem?_set_ne (Ne.symm hmb),List.getElem?_append_left hm]
 have b2':st2[b]?=some (.ins az (putD "turn" (.ref st1.length) (putD "body" (.ref st.length) []))):=by rw[←hs2,List.getElem?_set_self (by simp;omega)]
 have x2:st2[st1.length]?=some (.lst ((Mx.units N).map ba)):=by rw[←hs2,List.getElem?_set_ne (by omega)];simp
 clear hs2
 have itd2:items? st2 d=some da1:=by
  cases d with
  |ref n=>
   by_cases hnb:n=b
   · subst hnb
     unfold items? at hd1
     simp only[b1]at hd1
     cases hd1
   · have hn:n<st1.length:=by
      unfold items? at hd1
      simp only at hd1
      cases q:st1[n]? with
      |none=>rw[q]at hd1;cases hd1
      |some c=>exact(List.getElem?_eq_some_iff.mp q).1
     unfold items? at hd1⊢
     simp only at hd1⊢
     rw[f2 n hn hnb]
     exact hd1
  |_=>exact hd1
 refine iE itd2 ?_
 rw[hdl1]
 refine⟨N,rfl,by omega,?_⟩
 refine mI ⟨dJ (by rw[List.length_map,sP];omega),?_⟩
 refine kj ba trivial uF (fun e r hr he K' q=>⟨_,rfl,rp he q⟩) ?_
 have b3:(st2++[Cell.lst ((Mx.units N).map ba)])[b]?=some (.ins az (putD "turn" (.ref st1.length) (putD "body" (.ref st.length) []))):=by rw[List.getElem?_append_left (by omega)];exact b2'
 refine i6 b3 (by have h1:=ng "body" (.ref st.length) [];have h2:=ng "turn" (.ref st1.length) (putD "body" (.ref st.length) []);simp only[List.length_nil]at h1;omega) ?_
 refine k _ ⟨?_,?_,?_,?_,by omega,by omega,by omega⟩ (by simp;omega) fun m hm hmb=>?_
 · rw[List.getElem?_set_self (by simp;omega),l1,l2];rfl
 · rw[List.getElem?_set_ne (by omega),List.getElem?_append_left (by omega),f2 _ (by omega) (by omega)];exact x1
 · rw[List.getElem?_set_ne (by omega),List.getElem?_append_left (by omega)]
   rw[l1]at x2
   exact x2
 · rw[List.getElem?_set_ne (by omega)]
   rw[show st.length+2=st2.length by omega]
   simp
 · rw[List.getElem?_set_ne (Ne.symm hmb),List.getElem?_append_left (by omega),f2 m (by omega) hmb,f1 m hm hmb]
noncomputable def hX:cY:=fun ds st K=>∃(b xb xu xc N w k j:Nat) (A U C:List (List Int)) (q:Int),ds=[.ref b,.int k,.int q,.int j]∧Bn st b xb xu xc A U C∧Mx.cz N w A∧Mx.cz N N U∧Mx.cz N N C∧k<N∧j<N∧N≤8∧w≤9∧(∀x∈A.getD j [],IntMulOk (-q) x)∧(∀x∈U.getD j [],IntMulOk (-q) x)∧(∀x∈C.getD k [],IntMulOk q x)∧
 ∀st',Bn st' b xb xu xc (Mx.bh A k q j) (Mx.bh U k q j) (Mx.bh C j (-q) k)→st'.length=st.length→(∀m,m≠xb→m≠xu→m≠xc→st'[m]?=st[m]?)→K .aP st'
noncomputable def js:List Str:=["self","k","times","other"]
noncomputable def t_:DS:=(aD (gO (dj az "body" (aa 0)) (aa 1) (bg jD (ag (aj bO (dj az "body" (aa 0)) (aa 1)) (ag (lM iy (aa 2)) (ag (aj bO (dj az "body" (aa 0)) (aa 3)) aw)))))
 (aD (gO (dj az "turn" (aa 0)) (aa 1) (bg jD (ag (aj bO (dj az "turn" (aa 0)) (aa 1)) (ag (lM iy (aa 2)) (ag (aj bO (dj az "turn" (aa 0)) (aa 3)) aw)))))
 (gO (dj az "back_columns" (aa 0)) (aa 3) (bg jD (ag (aj bO (dj az "back_columns" (aa 0)) (aa 3)) (ag (aa 2) (ag (aj bO (dj az "back_columns" (aa 0)) (aa 1)) aw)))))))
theorem tD:∀ds st K,hX ds st K→ds.length=4∧t_ {nx:=fun _ st'=>K .aP st',rt:=K} (bx js ds) st:=by
 rintro ds st K ⟨b,xb,xu,xc,N,w,k,j,A,U,C,q,rfl,B,hA,hU,hC,hk,hj,hN,hw,mA,mU,mC,kk⟩
 refine⟨rfl,?_⟩
 have lA:=hA.len
 have lU:=hU.len
 have lC:=hC.len
 have rA:=Mx.bM hA hk
 have rU:=Mx.bM hU hk
 have rC:=Mx.bM hC hj
 have bx1:=h_ B.eb B.e1
 have bx2:=h_ B.eb B.e2
 have bx3:=h_ B.eb B.e3
 have n1:=B.n1
 have n2:=B.n2
 have n3:=B.n3
 refine bW B.eb rfl (aZ (aB B.e1) (i0 (by omega)) (ia (bW B.eb rfl (aZ (aB B.e1) (i0 (by omega)) ?_))))
 refine⟨_,_,-q,A.getD k [],A.getD j [],rfl,rfl,rfl,by omega,mA,?_⟩
 refine bW B.eb rfl (jl B.e1 (by rw[List.length_map,lA];exact i8 hk) ?_)
 rw[jK]
 have g1:∀m,m≠xb→(st.set xb (.lst ((A.set k (Mx.fe (A.getD k []) (-q) (A.getD j []))).map ba)))[m]?=st[m]?:=fun m hm=>List.getElem?_set_ne (Ne.symm hm)
 have h1:(st.set xb (.lst ((A.set k (Mx.fe (A.getD k []) (-q) (A.getD j []))).map ba)))[xb]?=some (.lst ((Mx.bh A k q j).map ba)):=List.getElem?_set_self (List.getElem?_eq_some_iff.mp B.e1).1
 have z1:(st.set xb (.lst ((A.set k (Mx.fe (A.getD k []) (-q) (A.getD j []))).map ba))).length=st.length:=List.length_set
 generalize st.set xb (.lst ((A.set k (Mx.fe (A.getD k []) (-q) (A.getD j []))).map ba))=st1 at g1 h1 z1⊢
 have eb1:=(g1 b bx1).trans B.eb
 have e21:=(g1 xu (Ne.symm n1)).trans B.e2
 have e31:=(g1 xc (Ne.symm n2)).trans B.e3
 refine bW eb1 rfl (aZ (aB e21) (i0 (by omega)) (ia (bW eb1 rfl (aZ (aB e21) (i0 (by omega)) ?_))))
 refine⟨_,_,-q,U.getD k [],U.getD j [],rfl,rfl,rfl,by omega,mU,?_⟩
 refine bW eb1 rfl (jl e21 (by rw[List.length_map,lU];exact i8 hk) ?_)
 rw[jK]
 have g2:∀m,m≠xu→(st1.set xu (.lst ((U.set k (Mx.fe (U.getD k []) (-q) (U.getD j []))).map ba)))[m]?=st1[m]?:=fun m hm=>List.getElem?_set_ne (Ne.symm hm)
 have h2:(st1.set xu (.lst ((U.set k (Mx.fe (U.getD k []) (-q) (U.getD j []))).map ba)))[xu]?=some (.lst ((Mx.bh U k q j).map ba)):=List.getElem?_set_self (List.getElem?_eq_some_iff.mp e21).1
 have z2:(st1.set xu (.lst ((U.set k (Mx.fe (U.getD k []) (-q) (U.getD j []))).map ba))).length=st1.length:=List.length_set
 generalize st1.set xu (.lst ((U.set k (Mx.fe (U.getD k []) (-q) (U.getD j []))).map ba))=st2 at g2 h2 z2⊢
 have eb2:=(g2 b bx2).trans eb1
 have e32:=(g2 xc (Ne.symm n3)).trans e31
 refine bW eb2 rfl (aZ (aB e32) (i0 (by omega)) (bW eb2 rfl (aZ (aB e32) (i0 (by omega)) ?_)))
 refine⟨_,_,q,C.getD j [],C.getD k [],rfl,rfl,rfl,by omega,mC,?_⟩
 refine bW eb2 rfl (jl e32 (by rw[List.length_map,lC];exact i8 hj) ?_)
 rw[jK]
 have hc:C.set j (Mx.fe (C.getD j []) q (C.getD k []))=Mx.bh C j (-q) k:=by unfold Mx.bh;rw[Int.neg_neg]
 rw[hc]
 refine kk _ ⟨?_,?_,?_,?_,n1,n2,n3⟩ (by rw[List.length_set];omega) fun m m1 m2 m3=>?_
 · rw[List.getElem?_set_ne (Ne.symm bx3)];exact eb2
 · rw[List.getElem?_set_ne (Ne.symm n2),g2 _ n1];exact h1
 · rw[List.getElem?_set_ne (Ne.symm n3)];exact h2
 · exact List.getElem?_set_self (List.getElem?_eq_some_iff.mp e32).1
 · rw[List.getElem?_set_ne (Ne.symm m3),g2 m m2,g1 m m1]
noncomputable def fB:cY:=fun ds st K=>∃(b xb xu xc N w k o:Nat) (A U C:List (List Int)),ds=[.ref b,.int k,.int o]∧Bn st b xb xu xc A U C∧Mx.cz N w A∧Mx.cz N N U∧Mx.cz N N C∧k<N∧o<N∧
 ∀st',Bn st' b st.length (st.length+1) (st.length+2) (Mx.bT A k o) (Mx.bT U k o) (Mx.bT C k o)→st'.length=st.length+3→(∀m,m<st.length→m≠b→st'[m]?=st[m]?)→K .aP st'
noncomputable def gD:List Str:=["self","k","other"]
noncomputable def pV:DS:=(aD (jU az "body" (aa 0) (bg gc (ag (dj az "body" (aa 0)) (ag (aa 1) (ag (aa 2) aw)))))
 (aD (jU az "turn" (aa 0) (bg gc (ag (dj az "turn" (aa 0)) (ag (aa 1) (ag (aa 2) aw)))))
 (jU az "back_columns" (aa 0) (bg gc (ag (dj az "back_columns" (aa 0)) (ag (aa 1) (ag (aa 2) aw)))))))
theorem pj:∀ds st K,fB ds st K→ds.length=3∧pV {nx:=fun _ st'=>K .aP st',rt:=K} (bx gD ds) st:=by
 rintro ds st K ⟨b,xb,xu,xc,N,w,k,o,A,U,C,rfl,B,hA,hU,hC,hk,ho,kk⟩
 refine⟨rfl,?_⟩
 have lA:=hA.len
 have lU:=hU.len
 have lC:=hC.len
 have bx1:=h_ B.eb B.e1
 have bx2:=h_ B.eb B.e2
 have bx3:=h_ B.eb B.e3
 have hb:b<st.length:=(List.getElem?_eq_some_iff.mp B.eb).1
 have hu:xu<st.length:=(List.getElem?_eq_some_iff.mp B.e2).1
 have hc:xc<st.length:=(List.getElem?_eq_some_iff.mp B.e3).1
 refine bW B.eb rfl ?_
 refine⟨xb,k,o,A,rfl,B.e1,by omega,by omega,?_⟩
 have eb1:(st++[Cell.lst ((Mx.bT A k o).map ba)])[b]?=some (.ins az [("body",.ref xb),("turn",.ref xu),("back_columns",.ref xc)]):=by rw[List.getElem?_append_left hb];exact B.eb
 refine i6 eb1 (by simp) ?_
 have pb:putD "body" (.ref st.length) [("body",.ref xb),("turn",.ref xu),("back_columns",.ref xc)]=([("body",.ref st.length),("turn",.ref xu),("back_columns",.ref xc)]:List (Str×D)):=rfl
 rw[pb]
 generalize hs1:(st++[Cell.lst ((Mx.bT A k o).map ba)]).set b (.ins az [("body",.ref st.length),("turn",.ref xu),("back_columns",.ref xc)])=st1
 have l1:st1.length=st.length+1:=by rw[←hs1];simp
 have f1:∀m,m<st.length→m≠b→st1[m]?=st[m]?:=fun m hm hmb=>by rw[←hs1,List.getElem?_set_ne (Ne.symm hmb),List.getElem?_append_left hm]
 have b1:st1[b]?=some (.ins az [("body",.ref st.length),("turn",.ref xu),("back_columns",.ref xc)]):=by rw[←hs1,List.getElem?_set_self (by simp;omega)]
 have x1:st1[st.length]?=some (.lst ((Mx.bT A k o).map ba)):=by rw[←hs1,List.getElem?_set_ne (by omega)];simp
 clear hs1 eb1
 refine bW b1 rfl ?_
 refine⟨xu,k,o,U,rfl,(f1 xu hu (Ne.symm bx2)).trans B.e2,by omega,by omega,?_⟩
 have eb1:(st1++[Cell.lst ((Mx.bT U k o).map ba)])[b]?=some (.ins az [("body",.ref st.length),("turn",.ref xu),("back_columns",.ref xc)]):=by rw[List.getElem?_append_left (by omega)];exact b1
 refine i6 eb1 (by simp) ?_
 have pb:putD "turn" (.ref st1.length) [("body",.ref st.length),("turn",.ref xu),("back_columns",.ref xc)]=([("body",.ref st.length),("turn",.ref st1.length),("back_columns",.ref xc)]:List (Str×D)):=rfl
 rw[pb]
 generalize hs2:(st1++[Cell.lst ((Mx.bT U k o).map ba)]).set b (.ins az [("body",.ref st.length),("turn",.ref st1.length),("back_columns",.ref xc)])=st2
 have l2:st2.length=st.length+2:=by rw[←hs2];simp;omega
 have f2:∀m,m<st1.length→m≠b→st2[m]?=st1[m]?:=fun m hm hmb=>by rw[←hs2,List.getElem?_set_ne (Ne.symm hmb),List.getElem?_append_left hm]
 have b2:st2[b]?=some (.ins az [("body",.ref st.length),("turn",.ref st1.length),("back_columns",.ref xc)]):=by rw[←hs2,List.getElem?_set_self (by simp;omega)]
 have x2:st2[st1.length]?=some (.lst ((Mx.bT U k o).map ba)):=by rw[←hs2,List.getElem?_set_ne (by omega)];simp
 clear hs2 eb1
 refine bW b2 rfl ?_
 refine⟨xc,k,o,C,rfl,((f2 xc (by omega) (Ne.symm bx3)).trans (f1 xc hc (Ne.symm bx3))).trans B.e3,by omega,by omega,?_⟩
 have eb1:(st2++[Cell.lst ((Mx.bT C k o).map ba)])[b]?=some (.ins az [("body",.ref st.length),("turn",.ref st1.length),("back_columns",.ref xc)]):=by rw[List.getElem?_append_left (by omega)];exact b2
 refine i6 eb1 (by simp) ?_
 have pb:putD "back_columns" (.ref st2.length) [("body",.ref st.length),("turn",.ref st1.length),("back_columns",.ref xc)]=([("body",.ref st.length),("turn",.ref st1.length),("back_columns",.ref st2.length)]:List (Str×D)):=rfl
 rw[pb]
 refine kk _ ⟨?_,?_,?_,?_,by omega,by omega,by omega⟩ (by simp;omega) fun m hm hmb=>?_
 · rw[List.getElem?_set_self (by simp;omega),l1,l2]
 · rw[List.getElem?_set_ne (by omega),List.getElem?_append_left (by omega),f2 _ (by omega) (by omega)];exact x1
 · rw[List.getElem?_set_ne (by omega),List.getElem?_append_left (by omega)]
   rw[l1]at x2
   exact x2
 · rw[List.getElem?_set_ne (by omega)]
   rw[show st.length+2=st2.length by omega]
   simp
 · rw[List.getElem?_set_ne (Ne.symm hmb),List.getElem?_append_left (by omega),f2 m (by omega) hmb,f1 m hm hmb]
structure Ss(n0:Nat)(st:ae)(s b xb xu xc tb:Nat)(rs:List Nat)(A U C:List (List Int))(N:Nat):Prop where
 es:st[s]?=some (Cell.ins av [("bench",.ref b),("table",.ref tb)])
 B:Bn st b xb xu xc A U C
 T:Tb st tb rs (Mx.ab A) N
 d1:tb≠xb∧tb≠xu∧tb≠xc
 d2:∀(i c:Nat),rs[i]?=some c→c≠xb∧c≠xu∧c≠xc
 lo:n0≤s∧n0≤b∧n0≤xb∧n0≤xu∧n0≤xc∧n0≤tb
 lr:∀(i c:Nat),rs[i]?=some c→n0≤c
theorem nY{st st':ae}(f:∀(m:Nat) (xs:List D),st[m]?=some (Cell.lst xs)→st'[m]?=some (Cell.lst xs)):∀ {ds:List D} {A:List (List Int)},bU st ds A→bU st' ds A
 | [],[],_=>trivial
 |d::_,_::_,h=>⟨by
  have h1:=h.1
  cases d with
  |ref n=>
   unfold items? at h1⊢
   simp only at h1⊢
   split at h1
   · rename_i xs e;rw[f n xs e];exact h1
   · cases h1
  |_=>exact h1,nY f h.2⟩
theorem vR{st st':ae}(f:∀(m:Nat) (xs:List D),st[m]?=some (Cell.lst xs)→st'[m]?=some (Cell.lst xs)){d:D}{A:List (List Int)}(h:gZ st d A):gZ st' d A:=by
 obtain⟨ds,e,r⟩:=h.ex
 refine⟨ds,?_,nY f r⟩
 cases d with
 |ref n=>
  unfold items? at e⊢
  simp only at e⊢
  split at e
  · rename_i xs e';rw[f n xs e'];exact e
  · cases e
 |_=>exact e
noncomputable def e7:cY:=fun ds st K=>∃(s N w:Nat) (d:D) (A:List (List Int)),ds=[.ref s,d]∧st[s]?=some (.ins av [])∧gZ st d A∧St A N w∧(∀k,k≤N→Mx.D k (Mx.ab A)≠0)∧∀st' b xb xu xc tb rs,Ss s st' s b xb xu xc tb rs A (Mx.units N) (Mx.units N) N→(∀m,m<s→st'[m]?=st[m]?)→K .aP st'
noncomputable def gj:List Str:=["self","steps"]
noncomputable def o7:DS:=(aD (jU av "bench" (aa 0) (tS az fJ (ag (aa 1) aw)))
 (jU av "table" (aa 0) (bg ji (ag (aa 1) aw))))
theorem nL:∀ds st K,e7 ds st K→ds.length=2∧o7 {nx:=fun _ st'=>K .aP st',rt:=K} (bx gj ds) st:=by
 rintro ds st K ⟨s,N,w,d,A,rfl,es,hA,hS,hD,k⟩
 refine⟨rfl,?_⟩
 have hs:s<st.length:=(List.getElem?_eq_some_iff.mp es).1
 have X0:Ext st (st++[.ins az []]):=Ext.push
 have e0:(st++[Cell.ins az []]).length=st.length+1:=by simp
 refine⟨st.length,N,d,A,rfl,by simp,X0.tW hA,hS.is.len,hS.gm.le,fun st1 B l1 f1=>⟨rfl,?_⟩⟩
 rw[e0]at B l1 f1
 have g1:∀m,m<st.length→st1[m]?=st[m]?:=fun m hm=>by rw[f1 m (by omega) (by omega),X0.same m hm]
 have es1:st1[s]?=some (.ins av []):=(g1 s hs).trans es
 refine i6 es1 (by decide) ?_
 have pb:putD "bench" (.ref st.length) []=([("bench",.ref st.length)]:List (Str×D)):=rfl
 rw[pb]
 generalize hs2:st1.set s (.ins av [("bench",.ref st.length)])=st2
 have l2:st2.length=st.length+4:=by rw[←hs2,List.length_set];omega
 have f2:∀m,m≠s→st2[m]?=st1[m]?:=fun m hm=>by rw[←hs2,List.getElem?_set_ne (Ne.symm hm)]
 have es2:st2[s]?=some (.ins av [("bench",.ref st.length)]):=by rw[←hs2,List.getElem?_set_self (by omega)]
 clear hs2
 have hA2:gZ st2 d A:=vR (fun m xs e=>by
  have hm:m<st.length:=(List.getElem?_eq_some_iff.mp e).1
  have hms:m≠s:=fun z=>by rw[z,es]at e;cases e
  rw[f2 m hms,g1 m hm];exact e) hA
 refine⟨A,N,w,d,rfl,hA2,hS,hD,fun st3 rs X3 T hrs=>?_⟩
 have es3:st3[s]?=some (.ins av [("bench",.ref st.length)]):=(X3.same s (by omega)).trans es2
 refine i6 es3 (by simp) ?_
 have pb:putD "table" (.ref st2.length) [("bench",.ref st.length)]=([("bench",.ref st.length),("table",.ref st2.length)]:List (Str×D)):=rfl
 rw[pb]
 have ht:st2.length<st3.length:=(List.getElem?_eq_some_iff.mp T.et).1
 have g3:∀m,m<st2.length→m≠s→(st3.set s (.ins av [("bench",.ref st.length),("table",.ref st2.length)]))[m]?=st1[m]?:=fun m hm hms=>by rw[List.getElem?_set_ne (Ne.symm hms),X3.same m hm,f2 m hms]
 have b0:=(List.getElem?_eq_some_iff.mp B.eb).1
 refine k _ st.length (st.length+1) (st.length+1+1) (st.length+1+2) st2.length rs ⟨?_,⟨?_,?_,?_,?_,by omega,by omega,by omega⟩,?_,⟨by omega,by omega,by omega⟩,fun i c h=>?_,⟨by omega,by omega,by omega,by omega,by omega,by omega⟩,fun i c h=>?_⟩ fun m hm=>?_
 · rw[List.getElem?_set_self (by omega)]
 · rw[g3 _ (by omega) (by omega)];exact B.eb
 · rw[g3 _ (by omega) (by omega)];exact B.e1
 · rw[g3 _ (by omega) (by omega)];exact B.e2
 · rw[g3 _ (by omega) (by omega)];exact B.e3
 · refine T.ext (List.getElem?_set_ne (by omega)) fun i c h=>List.getElem?_set_ne ?_
   have:=hrs i c h
   omega
 · have:=hrs i c h
   exact⟨by omega,by omega,by omega⟩
 · have:=hrs i c h
   omega
 · rw[g3 m (by omega) (by omega),g1 m (by omega)]
noncomputable def cq:cY:=fun ds st K=>∃(s b tb N kk:Nat) (rs:List Nat) (G:Mx.Fn) (k:Int),ds=[.ref s,.int k]∧st[s]?=some (Cell.ins av [("bench",.ref b),("table",.ref tb)])∧Tb st tb rs G N∧k=(kk:Int)-1∧kk≤N∧K (.int (Mx.D kk G)) st
noncomputable def gA:List Str:=["self","k"]
noncomputable def pQ:DS:=(cC (BD (dg (aj qR (aa 1) (dC (.int 0)))) (aj bO (aj bO (dj av "table" (aa 0)) (aa 1)) (aa 1)) (dC (.int 1))))
theorem Tb.line{st:ae}{tb N:Nat}{rs:List Nat}{G:Mx.Fn}(h:Tb st tb rs G N){i:Nat}(hi:i<N):∃c,rs[i]?=some c∧dY (rs.map D.ref) ((i:Nat):Int)=some (.ref c)∧st[c]?=some (Cell.lst (au (Mx.aO G i))):=by
 have lr:=h.lr
 have e:rs[i]?=some rs[i]:=List.getElem?_eq_getElem (by omega)
 exact⟨rs[i],e,gR (by rw[List.getElem?_map,e];rfl),h.row i _ e⟩
theorem Ss.line{n0 s b xb xu xc tb N:Nat}{rs:List Nat}{A U C:List (List Int)}{st:ae}(h:Ss n0 st s b xb xu xc tb rs A U C N){i:Nat}(hi:i<N):∃c,rs[i]?=some c∧dY (rs.map D.ref) ((i:Nat):Int)=some (.ref c)∧st[c]?=some (Cell.lst (au (Mx.aO (Mx.ab A) i))):=h.T.line hi
theorem ip{G:Mx.Fn}{i p:Nat}(h:p≤i):dY (au (Mx.aO G i)) ((p:Nat):Int)=some (.int (Mx.lam G i p)):=by
 have:=jG (r:=Mx.aO G i) (k:=p) (by rw[Mx.d_];omega)
 rw[Mx.iR _ h]at this
 exact this
theorem o5:∀ds st K,cq ds st K→ds.length=2∧pQ {nx:=fun _ st'=>K .aP st',rt:=K} (bx gA ds) st:=by
 rintro ds st K ⟨s,b,tb,N,kk,rs,G,k,rfl,es,T,rfl,hk,q⟩
 refine⟨rfl,?_⟩
 cases kk with
 |zero=>
  refine IW (by omega) ?_
  rw[Mx.gI]at q
  exact q
 |succ m=>
  have em:((m+1:Nat):Int)-1=(m:Int):=by omega
  rw[em]
  obtain⟨c,e1,e2,e3⟩:=T.line (i:=m) (by omega)
  refine IZ (by omega) (jo (bW es rfl (aZ (aB T.et) e2 (aZ (aB e3) (ip (Nat.le_refl m)) ?_))))
  rw[Mx.dz]
  exact q
structure uO(A U C:List (List Int))(N:Nat):Prop where
 lam:∀i p,p≤i→i<N→(Mx.lam (Mx.ab A) i p).natAbs≤2^40000
 D:∀p,p≤N→0<Mx.D p (Mx.ab A)∧(Mx.D p (Mx.ab A)).natAbs≤2^744
 eA:∀r∈A,∀x∈r,x.natAbs≤2^400000
 eU:∀r∈U,∀x∈r,x.natAbs≤2^400000
 eC:∀r∈C,∀x∈r,x.natAbs≤2^400000
noncomputable abbrev nq(A:List (List Int))(k j:Nat):Int:=(2*Mx.lam (Mx.ab A) k j+Mx.D (j+1) (Mx.ab A)).fdiv (2*Mx.D (j+1) (Mx.ab A))
noncomputable def eY:cY:=fun ds st K=>∃(n0 s b xb xu xc tb N w k j:Nat) (rs:List Nat) (A U C:List (List Int)),ds=[.ref s,.int k,.int j]∧Ss n0 st s b xb xu xc tb rs A U C N∧Mx.cz N w A∧Mx.cz N N U∧Mx.cz N N C∧j<k∧k<N∧N≤8∧w≤9∧uO A U C N∧
 ∀st',Ss n0 st' s b xb xu xc tb rs (Mx.bh A k (nq A k j) j) (Mx.bh U k (nq A k j) j) (Mx.bh C j (-nq A k j) k) N→(∀m,m<n0→st'[m]?=st[m]?)→K .aP st'
noncomputable def g4:List Str:=["self","k","j","quotient","i"]
noncomputable def qp:DS:=(aD (aX 3 (bg eW (ag (aj bO (aj bO (dj av "table" (aa 0)) (aa 1)) (aa 2)) (ag (aj bO (aj bO (dj av "table" (aa 0)) (aa 2)) (aa 2)) aw))))
 (aD (gX (dg (aj jz (aa 3) (dC (.int 0)))) yp fT)
 (aD (fU (e8 az "take" hX (dj av "bench" (aa 0)) (ag (aa 1) (ag (aa 3) (ag (aa 2) aw)))))
 (fE (de (ag (aj cu (aa 2) (dC (.int 1))) aw)) (bB 4) (uV (fun i j=>i-j) (aj bO (dj av "table" (aa 0)) (aa 1)) (aa 4) (aj bN (aa 3) (aj bO (aj bO (dj av "table" (aa 0)) (aa 2)) (aa 4))))))))
theorem yI{r s:List Int}(h:r.length=s.length):Mx.fe r 0 s=r:=by
 refine Mx.wx (n:=r.length) (Mx.iP h) rfl fun c _=>?_
 rw[Mx.mi h];omega
theorem mS{A:List (List Int)}{N w k j:Nat}(hA:Mx.cz N w A)(hk:k<N)(hj:j<N):Mx.bh A k 0 j=A:=by
 unfold Mx.bh
 have hl:=hA.len
 rw[Int.neg_zero,yI (by rw[Mx.bM hA hk,Mx.bM hA hj]),Mx.bj (by omega)]
 exact List.set_getElem_self _
theorem wU{G G':Mx.Fn}{i:Nat}(h:∀p,p≤i→Mx.lam G i p=Mx.lam G' i p):Mx.aO G i=Mx.aO G' i:=by
 unfold Mx.aO
 exact List.map_congr_left fun p hp=>h p (by rw[List.mem_range]at hp;omega)
noncomputable def ja(G:Mx.Fn)(k j:Nat)(q:Int)(m:Nat):List Int:=(List.range (k+1)).map fun p=>if p<m then Mx.lam G k p-q*Mx.lam G j p else Mx.lam G k p
theorem rh{G:Mx.Fn}{k j m p:Nat}{q:Int}(h:p≤k):(ja G k j q m).getD p 0=if p<m then Mx.lam G k p-q*Mx.lam G j p else Mx.lam G k p:=by
 unfold ja
 rw[Mx.bj (by simp;omega),List.getElem_map,List.getElem_range]
theorem kF{G:Mx.Fn}{k j m:Nat}{q:Int}:(ja G k j q m).length=k+1:=by unfold ja;simp
theorem AH{G:Mx.Fn}{k j m:Nat}{q:Int}(h:m≤k):(ja G k j q m).set m (Mx.lam G k m-q*Mx.lam G j m)=ja G k j q (m+1):=by
 refine Mx.wx (n:=k+1) (by rw[List.length_set,kF]) kF fun c hc=>?_
 rw[rh (by omega),List.getD_eq_getElem?_getD,List.getElem?_set]
 by_cases hcm:m=c
 · subst hcm
   rw[if_pos rfl,if_pos (by rw[kF];omega),if_pos (by omega)];rfl
 · rw[if_neg hcm,←List.getD_eq_getElem?_getD,rh (by omega)]
   by_cases h1:c<m
   · rw[if_pos h1,if_pos (by omega)]
   · rw[if_neg h1,if_neg (by omega)]
theorem Tb.take{st:ae}{tb N w k j:Nat}{rs:List Nat}{A:List (List Int)}{q:Int}(T:Tb st tb rs (Mx.ab A) N)(hA:Mx.cz N w A)(hj:j<k)(hk:k<N){st':ae}(h1:st'[tb]?=st[tb]?)(h2:∀(i c:Nat),i≠k→rs[i]?=some c→st'[c]?=st[c]?)(h3:∀c,rs[k]?=some c→st'[c]?=some (.lst (au (ja (Mx.ab A) k j q (j+1))))):Tb st' tb rs (Mx.ab (Mx.bh A k q j)) N:=by
 have lr:=T.lr
 refine⟨h1.trans T.et,lr,T.nd,T.nt,fun i c h=>?_⟩
 have hi:i<N:=by have:=(List.getElem?_eq_some_iff.mp h).1;omega
 by_cases hik:i=k
 · subst hik
   rw[h3 c h]
   congr 3
   unfold ja Mx.aO
   refine List.map_congr_left fun p hp=>?_
   rw[List.mem_range]at hp
   rw[Mx.jE hA hj hk hi (by omega),if_pos rfl]
   by_cases hpj:p<j+1
   · rw[if_pos hpj]
   · have z:Mx.lam (Mx.ab A) j p=0:=Mx.qO (by omega)
     rw[if_neg hpj,z,Int.mul_zero,Int.sub_zero]
 · rw[h2 i c hik h,T.row i c h]
   congr 3
   exact wU fun p hp=>by rw[Mx.jE hA hj hk hi hp,if_neg hik,Int.sub_zero]
theorem rF{A:List (List Int)}{N w i:Nat}(h:Mx.cz N w A)(hi:i<N):A.getD i []∈A:=by
 have:=h.len
 rw[Mx.bj (by omega)];exact List.getElem_mem _
theorem qh:∀ds st K,eY ds st K→ds.length=3∧qp {nx:=fun _ st'=>K .aP st',rt:=K} (bx g4 ds) st:=by
 rintro ds st K ⟨n0,s,b,xb,xu,xc,tb,N,w,k,j,rs,A,U,C,rfl,h,hA,hU,hC,hj,hk,hN,hw,sm,kk⟩
 refine⟨rfl,?_⟩
 obtain⟨ck,ek1,ek2,ek3⟩:=h.line (i:=k) hk
 obtain⟨cj,ej1,ej2,ej3⟩:=h.line (i:=j) (by omega)
 obtain⟨hD0,hDb⟩:=sm.D (j+1) (by omega)
 refine bW h.es rfl (aZ (aB h.T.et) ek2 (aZ (aB ek3) (ip (by omega)) (bW h.es rfl (aZ (aB h.T.et) ej2 (aZ (aB ej3) (ip (Nat.le_refl j)) ?_)))))
 rw[Mx.dz]
 refine⟨_,_,rfl,hD0,Nat.le_trans hDb (Nat.pow_le_pow_right (by decide) (by decide)),?_⟩
 have hq:(nq A k j).natAbs≤2^40000:=by
  have:=(Mx.tY (t:=Mx.lam (Mx.ab A) k j) hD0).2
  have h2:=sm.lam k j (by omega) hk
  exact Nat.le_trans (Int.ofNat_le.mp this) h2
 refine eq2 (fun h0=>jo ?_) fun h0=>?_
 · have e0:nq A k j=0:=h0
   rw[e0,Int.neg_zero,mS hA hk (by omega),mS hU hk (by omega),mS hC (by omega) hk]at kk
   exact kk st h fun m _=>rfl
 unfold nq at hq kk
 generalize hqe:(2*Mx.lam (Mx.ab A) k j+Mx.D (j+1) (Mx.ab A)).fdiv (2*Mx.D (j+1) (Mx.ab A))=q at*
 have hnq:(-q).natAbs≤2^40000:=by rw[Int.natAbs_neg];exact hq
 refine bW h.es rfl (fw h.B.eb rfl ?_)
 refine⟨b,xb,xu,xc,N,w,k,j,A,U,C,q,rfl,h.B,hA,hU,hC,hk,by omega,hN,hw,fun x hx=>dc hnq (sm.eA _ (rF hA (by omega)) x hx) (by decide) (by decide),fun x hx=>dc hnq (sm.eU _ (rF hU (by omega)) x hx) (by decide) (by decide),fun x hx=>dc hq (sm.eC _ (rF hC hk) x hx) (by decide) (by decide),fun st1 B1 l1 f1=>?_⟩
 have lo:=h.lo
 have sx:s≠xb∧s≠xu∧s≠xc:=⟨h_ h.es h.B.e1,h_ h.es h.B.e2,h_ h.es h.B.e3⟩
 have es1:st1[s]?=_:=(f1 s sx.1 sx.2.1 sx.2.2).trans h.es
 have et1:st1[tb]?=_:=(f1 tb h.d1.1 h.d1.2.1 h.d1.2.2).trans h.T.et
 have fr:∀(i c:Nat),rs[i]?=some c→st1[c]?=st[c]?:=fun i c hc=>f1 c (h.d2 i c hc).1 (h.d2 i c hc).2.1 (h.d2 i c hc).2.2
 have ckj:ck≠cj:=fun z=>by
  have:=h.T.nd k j ck ek1 (by rw[z];exact ej1)
  omega
 have ckt:ck≠tb:=h.T.nt k ck ek1
 have cks:∀(m:Nat) (C':Addr) (fs:List (Str×D)),st1[m]?=some (.ins C' fs)→m≠ck:=fun m C' fs hm z=>by
  rw[z,fr k ck ek1,ek3]at hm;cases hm
 refine cK ?_
 have e1:((j:Nat):Int)+1=((j+1:Nat):Int):=rfl
 rw[e1]
 refine fq ⟨by omega,by omega⟩ ?_
 rw[Int.toNat_natCast]
 refine hJ (j+1) (fun m σ st'=>∃v4:Option D,σ=[some (.ref s),some (.int (k:Int)),some (.int (j:Int)),some (.int q),v4]∧(∀n,n≠ck→st'[n]?=st1[n]?)∧st'[ck]?=some (.lst (au (ja (Mx.ab A) k j q m)))) ?_ ?_ ⟨none,rfl,fun _ _=>rfl,?_⟩
 · rintro σ st2 ⟨v4,rfl,g,e⟩
   refine kk st2 ⟨?_,⟨?_,?_,?_,?_,h.B.n1,h.B.n2,h.B.n3⟩,?_,h.d1,h.d2,lo,h.lr⟩ fun m hm=>?_
   · rw[g s (cks s _ _ es1)];exact es1
   · rw[g b (cks b _ _ B1.eb)];exact B1.eb
   · rw[g xb (h.d2 k ck ek1).1.symm];exact B1.e1
   · rw[g xu (h.d2 k ck ek1).2.1.symm];exact B1.e2
   · rw[g xc (h.d2 k ck ek1).2.2.symm];exact B1.e3
   · refine h.T.take hA hj hk ?_ (fun i c hi hc=>?_) fun c hc=>?_
     · rw[g tb (Ne.symm ckt),et1,h.T.et]
     · have:c≠ck:=fun z=>hi (h.T.nd i k c hc (by rw[z];exact ek1))
       rw[g c this,fr i c hc]
     · rw[ek1]at hc
       cases hc
       exact e
   · have a1:=h.lr k ck ek1
     rw[g m (by omega),f1 m (by omega) (by omega) (by omega)]
 · rintro m σ st2 rest hm ⟨v4,rfl,g,e⟩ next
   refine⟨_,rfl,?_⟩
   have es2:st2[s]?=_:=(g s (cks s _ _ es1)).trans es1
   have et2:st2[tb]?=_:=(g tb (Ne.symm ckt)).trans et1
   have ej4:st2[cj]?=_:=((g cj (Ne.symm ckj)).trans (fr j cj ej1)).trans ej3
   refine bW es2 rfl (aZ (aB et2) ek2 ?_)
   refine Dt (u:=Mx.lam (Mx.ab A) k m) e (by omega) (by
    have:=jG (r:=ja (Mx.ab A) k j q m) (k:=m) (by rw[kF];omega)
    rw[rh (by omega),if_neg (Nat.lt_irrefl m)]at this
    exact this) ?_
   refine bW es2 rfl (aZ (aB et2) ej2 (aZ (aB ej4) (ip (by omega)) (b_ (dc hq (sm.lam j m (by omega) (by omega)) (by decide) (by decide)) ?_)))
   refine DB (j:=m) e (by rw[List.length_map,kF];exact i8 (by omega)) ?_
   have es3:(au (ja (Mx.ab A) k j q m)).set m (.int (Mx.lam (Mx.ab A) k m-q*Mx.lam (Mx.ab A) j m))=au (ja (Mx.ab A) k j q (m+1)):=by
    rw[←AH (by omega)];unfold au;rw[List.map_set]
   rw[es3]
   have hlt:=(List.getElem?_eq_some_iff.mp e).1
   exact next _ _ ⟨_,rfl,fun n hn=>by rw[List.getElem?_set_ne (Ne.symm hn)];exact g n hn,List.getElem?_set_self hlt⟩
 · rw[fr k ck ek1,ek3]
   have e9:ja (Mx.ab A) k j q 0=Mx.aO (Mx.ab A) k:=by
    unfold ja Mx.aO
    exact List.map_congr_left fun p _=>by rw[if_neg (by omega)]
   rw[e9]
noncomputable def fb:cY:=fun ds st K=>∃(n0 s b xb xu xc tb N t:Nat) (rs:List Nat) (A U C:List (List Int)),ds=[.ref s,.int ((t+1:Nat):Int)]∧Ss n0 st s b xb xu xc tb rs A U C N∧t+1<N∧uO A U C N∧K (.bl (decide (4*(Mx.D (t+2) (Mx.ab A)*Mx.D t (Mx.ab A)+Mx.lam (Mx.ab A) (t+1) t*Mx.lam (Mx.ab A) (t+1) t)<3*Mx.D (t+1) (Mx.ab A)*Mx.D (t+1) (Mx.ab A)))) st
noncomputable def gk:List Str:=["self","k","share","ahead"]
noncomputable def pd:DS:=(aD (aX 2 (aj bO (aj bO (dj av "table" (aa 0)) (aa 1)) (aj c_ (aa 1) (dC (.int 1)))))
 (aD (aX 3 (e8 av "last_of" cq (aa 0) (ag (aj c_ (aa 1) (dC (.int 1))) aw)))
 (cC (aj nU (aj bN (dC (.int 4)) (aj cu (aj bN (e8 av "last_of" cq (aa 0) (ag (aa 1) aw)) (e8 av "last_of" cq (aa 0) (ag (aj c_ (aa 1) (dC (.int 2))) aw))) (aj bN (aa 2) (aa 2)))) (aj bN (aj bN (dC (.int 3)) (aa 3)) (aa 3))))))
theorem nJ:∀ds st K,fb ds st K→ds.length=2∧pd {nx:=fun _ st'=>K .aP st',rt:=K} (bx gk ds) st:=by
 rintro ds st K ⟨n0,s,b,xb,xu,xc,tb,N,t,rs,A,U,C,rfl,h,ht,sm,kk⟩
 refine⟨rfl,?_⟩
 obtain⟨ck,ek1,ek2,ek3⟩:=h.line (i:=t+1) ht
 have em:((t+1:Nat):Int)-1=(t:Int):=by omega
 refine bW h.es rfl (aZ (aB h.T.et) ek2 (cN ?_))
 rw[em]
 refine aZ (aB ek3) (ip (by omega)) ?_
 have b0:=(sm.D t (by omega)).2
 have b1:=(sm.D (t+1) (by omega)).2
 have b2:=(sm.D (t+2) (by omega)).2
 have b3:=sm.lam (t+1) t (by omega) ht
 have t3:(3:Int).natAbs≤2^2:=by decide
 refine fw h.es rfl (cN ?_)
 refine⟨s,b,tb,N,t+1,rs,_,_,rfl,h.es,h.T,by omega,by omega,?_⟩
 refine fw h.es rfl ?_
 refine⟨s,b,tb,N,t+2,rs,_,_,rfl,h.es,h.T,by omega,by omega,?_⟩
 refine fw h.es rfl (cN ?_)
 refine⟨s,b,tb,N,t,rs,_,_,rfl,h.es,h.T,by omega,by omega,?_⟩
 exact b_ (dc b2 b0 (by decide) (by decide)) (b_ (dc b3 b3 (by decide) (by decide)) (cK (b_ (fN (by decide) (by decide)) (b_ (fN (by decide) (by decide)) (b_ (dc (mf t3 b1) b1 (by decide) (by decide)) (xC kk))))))
structure nI(st:ae)(tb:Nat)(rs:List Nat)(L:Nat→List Int)(N:Nat):Prop where
 et:st[tb]?=some (Cell.lst (rs.map D.ref))
 lr:rs.length=N
 nd:∀(i j c:Nat),rs[i]?=some c→rs[j]?=some c→i=j
 nt:∀(i c:Nat),rs[i]?=some c→c≠tb
 row:∀(i c:Nat),rs[i]?=some c→st[c]?=some (Cell.lst (au (L i)))
theorem Tb.toF{st:ae}{tb N:Nat}{rs:List Nat}{G:Mx.Fn}(T:Tb st tb rs G N):nI st tb rs (Mx.aO G) N:=⟨T.et,T.lr,T.nd,T.nt,T.row⟩
theorem nI.toT{st:ae}{tb N:Nat}{rs:List Nat}{G:Mx.Fn}{L:Nat→List Int}(T:nI st tb rs L N)(h:∀i,i<N→L i=Mx.aO G i):Tb st tb rs G N:=⟨T.et,T.lr,T.nd,T.nt,fun i c hc=>by
 have:=(List.getElem?_eq_some_iff.mp hc).1
 rw[←h i (by have:=T.lr;omega)];exact T.row i c hc⟩
theorem nI.line{st:ae}{tb N:Nat}{rs:List Nat}{L:Nat→List Int}(h:nI st tb rs L N){i:Nat}(hi:i<N):∃c,rs[i]?=some c∧dY (rs.map D.ref) ((i:Nat):Int)=some (.ref c)∧st[c]?=some (Cell.lst (au (L i))):=by
 have lr:=h.lr
 have e:rs[i]?=some rs[i]:=List.getElem?_eq_getElem (by omega)
 exact⟨rs[i],e,gR (by rw[List.getElem?_map,e];rfl),h.row i _ e⟩
theorem nI.lt{st:ae}{tb N:Nat}{rs:List Nat}{L:Nat→List Int}(h:nI st tb rs L N):tb<st.length∧∀(i c:Nat),rs[i]?=some c→c<st.length:=⟨(List.getElem?_eq_some_iff.mp h.et).1,fun i c hc=>(List.getElem?_eq_some_iff.mp (h.row i c hc)).1⟩
theorem j6{rs:List Nat}{i m c d:Nat}(hi:i<rs.length)(h:(rs.set i d)[m]?=some c):(m=i∧c=d)∨(m≠i∧rs[m]?=some c):=by
 rw[List.getElem?_set]at h
 by_cases z:i=m
 · rw[if_pos z,if_pos (by omega)]at h
   cases h
   exact .inl ⟨z.symm,rfl⟩
 · rw[if_neg z]at h
   exact .inr ⟨Ne.symm z,h⟩
theorem nI.put{st:ae}{tb N i:Nat}{rs:List Nat}{L:Nat→List Int}(T:nI st tb rs L N)(hi:i<N)(r:List Int):nI ((st++[Cell.lst (au r)]).set tb (.lst ((rs.set i st.length).map D.ref))) tb (rs.set i st.length) (fun m=>if m=i then r else L m) N:=by
 have lr:=T.lr
 obtain⟨h1,h2⟩:=T.lt
 refine⟨List.getElem?_set_self (by simp;omega),by rw[List.length_set];exact lr,fun a b c ha hb=>?_,fun a c ha=>?_,fun a c ha=>?_⟩
 · rcases j6 (by omega) ha with⟨a1,a2⟩|⟨a1,a2⟩<;>rcases j6 (by omega) hb with⟨b1,b2⟩|⟨b1,b2⟩
   · omega
   · have:=h2 b c b2;omega
   · have:=h2 a c a2;omega
   · exact T.nd a b c a2 b2
 · rcases j6 (by omega) ha with⟨a1,a2⟩|⟨a1,a2⟩
   · omega
   · exact T.nt a c a2
 · rcases j6 (by omega) ha with⟨a1,a2⟩|⟨a1,a2⟩
   · rw[if_pos a1,a2,List.getElem?_set_ne (by omega)];simp
   · have h3:=h2 a c a2
     have h4:=T.nt a c a2
     rw[if_neg a1,List.getElem?_set_ne (Ne.symm h4),List.getElem?_append_left h3]
     exact T.row a c a2
noncomputable def gM:cY:=fun ds st K=>∃(n0 s b xb xu xc tb N w t:Nat) (rs:List Nat) (A U C:List (List Int)),ds=[.ref s,.int ((t+1:Nat):Int)]∧Ss n0 st s b xb xu xc tb rs A U C N∧Mx.cz N w A∧Mx.cz N N U∧Mx.cz N N C∧t+1<N∧N≤8∧uO A U C N∧
 ∀st' xb' xu' xc' rs',Ss n0 st' s b xb' xu' xc' tb rs' (Mx.bT A (t+1) t) (Mx.bT U (t+1) t) (Mx.bT C (t+1) t) N→(∀m,m<n0→st'[m]?=st[m]?)→K .aP st'
noncomputable def iI:List Str:=["self","k","share","own","ahead","made","kept","i","line","upper","lower"]
noncomputable def sZ:DS:=(aD (fU (e8 az "exchange" fB (dj av "bench" (aa 0)) (ag (aa 1) (ag (aj c_ (aa 1) (dC (.int 1))) aw))))
 (aD (aX 2 (aj bO (aj bO (dj av "table" (aa 0)) (aa 1)) (aj c_ (aa 1) (dC (.int 1)))))
 (aD (aX 3 (e8 av "last_of" cq (aa 0) (ag (aa 1) aw)))
 (aD (aX 4 (e8 av "last_of" cq (aa 0) (ag (aj c_ (aa 1) (dC (.int 1))) aw)))
 (aD (aX 5 (aj gY (aj cu (aj bN (e8 av "last_of" cq (aa 0) (ag (aj c_ (aa 1) (dC (.int 2))) aw)) (aa 3)) (aj bN (aa 2) (aa 2))) (aa 4)))
 (aD (aX 6 (kN (aj bO (dj av "table" (aa 0)) (aa 1)) kB (ll (aj c_ (aa 1) (dC (.int 1))))))
 (aD (gO (dj av "table" (aa 0)) (aa 1) (aj mQ (kN (aj bO (dj av "table" (aa 0)) (aj c_ (aa 1) (dC (.int 1)))) kB (ll (aj c_ (aa 1) (dC (.int 1))))) (iz (ag (aa 2) (ag (aa 3) aw)))))
 (aD (gO (dj av "table" (aa 0)) (aj c_ (aa 1) (dC (.int 1))) (aj mQ (aa 6) (iz (ag (aa 5) aw))))
 (fE (jC (ag (aj cu (aa 1) (dC (.int 1))) (ag (dZ iQ (ag (dj av "table" (aa 0)) aw)) aw))) (bB 7) (aD (aX 8 (aj bO (dj av "table" (aa 0)) (aa 7)))
 (aD (aX 9 (aj gY (aj c_ (aj bN (aa 3) (aj bO (aa 8) (aj c_ (aa 1) (dC (.int 1))))) (aj bN (aa 2) (aj bO (aa 8) (aa 1)))) (aa 4)))
 (aD (aX 10 (aj gY (aj cu (aj bN (aa 5) (aj bO (aa 8) (aa 1))) (aj bN (aa 2) (aa 9))) (aa 3)))
 (gO (dj av "table" (aa 0)) (aa 7) (aj mQ (aj cu (kN (aa 8) kB (ll (aj c_ (aa 1) (dC (.int 1))))) (iz (ag (aa 10) (ag (aa 9) aw)))) (kN (aa 8) (ll (aj cu (aa 1) (dC (.int 1)))) kB)))))))))))))))
theorem p8{G:Mx.Fn}{i t:Nat}(h:t≤i):L3.cutD (au (Mx.aO G i)) none (some ((t:Nat):Int))=au ((List.range t).map fun p=>Mx.lam G i p):=by
 have hl:t≤(Mx.aO G i).length:=by rw[Mx.d_];omega
 have e:L3.cutD (au (Mx.aO G i)) none (some ((t:Nat):Int))=au ((Mx.aO G i).take t):=by
  unfold L3.cutD
  rw[HT.vd,HT.wO,List.length_map,Nat.min_eq_left hl,List.drop_zero,Nat.sub_zero]
  unfold au
  rw[List.map_take]
 rw[e]
 unfold Mx.aO
 rw[←List.map_take,List.take_range,Nat.min_eq_left (by omega)]
theorem AF{G:Mx.Fn}{i t:Nat}(h:t≤i+1):L3.cutD (au (Mx.aO G i)) (some ((t:Nat):Int)) none=au ((List.range (i+1-t)).map fun p=>Mx.lam G i (t+p)):=by
 have hl:t≤(Mx.aO G i).length:=by rw[Mx.d_];omega
 unfold L3.cutD
 rw[HT.vd,HT.wO,List.length_map,Nat.min_eq_left hl]
 refine List.ext_getElem? fun m=>?_
 rw[List.getElem?_take]
 by_cases hm:m<i+1-t
 · rw[if_pos (by rw[Mx.d_];omega),List.getElem?_drop]
   unfold Mx.aO
   rw[List.getElem?_map,List.getElem?_map,List.getElem?_map,List.getElem?_map,List.getElem?_range (by omega),List.getElem?_range hm]
   rfl
 · rw[if_neg (by rw[Mx.d_];omega),List.getElem?_eq_none (by simpa using hm)]
theorem oo{a b c:Int}(hb:b≠0)(h:b*c=a):a.fdiv b=c:=by rw[←h,Int.mul_fdiv_cancel_left _ hb]
theorem uw(f:Nat→Int)(t:Nat)(x y:Int):au ((List.range t).map f)++[.int x,.int y]=au ((List.range t).map f++[x,y]):=by simp[au]
theorem C1{G:Mx.Fn}(sym:∀i j,G i j=G j i)(t:Nat):(List.range t).map (fun p=>Mx.lam G t p)++[Mx.lam G (t+1) t,Mx.D (t+2) G]=Mx.aO (Mx.bG G t) (t+1):=by
 unfold Mx.aO
 rw[List.range_succ,List.range_succ,List.map_append,List.map_append,List.append_assoc]
 congr 1
 · refine List.map_congr_left fun p hp=>?_
   rw[List.mem_range]at hp
   rw[Mx.jM hp,Mx.yf]
 · show [_,_]=[Mx.lam (Mx.bG G t) (t+1) t,Mx.lam (Mx.bG G t) (t+1) (t+1)]
   rw[Mx.t8 sym,Mx.FE sym,Mx.dz]
theorem yQ{G:Mx.Fn}(t:Nat):(List.range t).map (fun p=>Mx.lam G (t+1) p)++[Mx.lam (Mx.bG G t) t t]=Mx.aO (Mx.bG G t) t:=by
 unfold Mx.aO
 rw[List.range_succ,List.map_append]
 congr 1
 refine List.map_congr_left fun p hp=>?_
 rw[List.mem_range]at hp
 rw[Mx.jM hp,Mx.uW]
theorem Ap{G:Mx.Fn}{t i:Nat}(hi:t+1<i):(List.range t).map (fun p=>Mx.lam G i p)++[Mx.lam (Mx.bG G t) i t,Mx.lam (Mx.bG G t) i (t+1)]++(List.range (i+1-(t+2))).map (fun p=>Mx.lam G i (t+2+p))=Mx.aO (Mx.bG G t) i:=by
 unfold Mx.aO
 have e:List.range (i+1)=List.range t++[t,t+1]++(List.range (i+1-(t+2))).map (fun p=>t+2+p):=by
  have h1:i+1=t+2+(i+1-(t+2)):=by omega
  conv=>lhs;rw[h1]
  rw[List.range_add,List.range_succ,List.range_succ,List.append_assoc (List.range t)]
  rfl
 rw[e,List.map_append,List.map_append,List.map_map]
 congr 1
 · congr 1
   refine List.map_congr_left fun p hp=>?_
   rw[List.mem_range]at hp
   rw[Mx.jM hp,Mx.hO (by omega) (by omega)]
 · refine List.map_congr_left fun p hp=>?_
   rw[List.mem_range]at hp
   show _=Mx.lam (Mx.bG G t) i (t+2+p)
   rw[Mx.Bh (by omega) (by omega)]
theorem abs_dvd{d x y:Int}(hd:0<d)(h:d*x=y):x.natAbs≤y.natAbs:=by
 rw[←h,Int.natAbs_mul]
 have:1*x.natAbs≤d.natAbs*x.natAbs:=Nat.mul_le_mul_right _ (by omega)
 omega
theorem oP{a:Int}{m n:Nat}(h:a.natAbs≤2^m)(hm:m≤n):a.natAbs≤2^n:=Nat.le_trans h (Nat.pow_le_pow_right (by decide) hm)
theorem yZ{a b:Int}{m:Nat}(ha:a.natAbs≤2^m)(hb:b.natAbs≤2^m):(a+b).natAbs≤2^(m+1):=by
 have:=Int.natAbs_add_le a b
 rw[Nat.pow_succ];omega
theorem E2{a b:Int}{m:Nat}(ha:a.natAbs≤2^m)(hb:b.natAbs≤2^m):(a-b).natAbs≤2^(m+1):=by
 have:=yZ ha (b:= -b) (by rw[Int.natAbs_neg];exact hb)
 rw[←Int.sub_eq_add_neg]at this
 exact this
theorem rj:∀ds st K,gM ds st K→ds.length=2∧sZ {nx:=fun _ st'=>K .aP st',rt:=K} (bx iI ds) st:=by
 rintro ds st K ⟨n0,s,b,xb,xu,xc,tb,N,w,t,rs,A,U,C,rfl,h,hA,hU,hC,ht,hN,sm,kk⟩
 refine⟨rfl,?_⟩
 have em:((t+1:Nat):Int)-1=(t:Int):=by omega
 have lo:=h.lo
 have hs0:s<st.length:=(List.getElem?_eq_some_iff.mp h.es).1
 have htb:=h.T.toF.lt
 have lA:=hA.len
 have sym:=Mx.iU A
 have hgs:Mx.ab (Mx.bT A (t+1) t)=Mx.bG (Mx.ab A) t:=Mx.j9 (by omega)
 obtain⟨p0,b0⟩:=sm.D t (by omega)
 obtain⟨p1,b1⟩:=sm.D (t+1) (by omega)
 obtain⟨p2,b2⟩:=sm.D (t+2) (by omega)
 have b3:=sm.lam (t+1) t (by omega) ht
 refine bW h.es rfl (fw h.B.eb rfl (cN ?_))
 rw[em]
 refine⟨b,xb,xu,xc,N,w,t+1,t,A,U,C,rfl,h.B,hA,hU,hC,ht,by omega,fun st1 B1 l1 f1=>?_⟩
 have sb:s≠b:=fun z=>by
  have h1:=h.es
  rw[z,h.B.eb]at h1
  have h2:=Cell.ins.inj (Option.some.inj h1)
  exact absurd h2.1 (by decide)
 have lb:∀m xs,st[m]?=some (Cell.lst xs)→m≠b:=fun m xs hm z=>by rw[z,h.B.eb]at hm;cases hm
 have es1:st1[s]?=_:=(f1 s hs0 sb).trans h.es
 have T1:Tb st1 tb rs (Mx.ab A) N:=h.T.ext (f1 tb htb.1 (lb _ _ h.T.et)) fun i c hc=>f1 c (htb.2 i c hc) (lb _ _ (h.T.row i c hc))
 obtain⟨ck,ek1,ek2,ek3⟩:=T1.line (i:=t+1) ht
 refine bW es1 rfl (aZ (aB T1.et) ek2 (cN ?_))
 rw[em]
 refine aZ (aB ek3) (ip (by omega)) ?_
 refine fw es1 rfl ?_
 refine⟨s,b,tb,N,t+2,rs,_,_,rfl,es1,T1,by omega,by omega,?_⟩
 refine fw es1 rfl (cN ?_)
 refine⟨s,b,tb,N,t+1,rs,_,_,rfl,es1,T1,by omega,by omega,?_⟩
 refine fw es1 rfl (cN ?_)
 refine⟨s,b,tb,N,t,rs,_,_,rfl,es1,T1,by omega,by omega,?_⟩
 refine b_ (dc b0 b2 (by decide) (by decide)) (b_ (dc b3 b3 (by decide) (by decide)) (cK (iY (by omega) (qk b1 (by omega) (by decide)) ?_)))
 rw[oo (by omega) (Mx.mq sym (by omega))]
 refine bW es1 rfl (aZ (aB T1.et) ek2 (cN ?_))
 rw[em]
 refine lh ek3 ?_
 rw[p8 (by omega)]
 obtain⟨cj,ej1,ej2,ej3⟩:=T1.line (i:=t) (by omega)
 refine bW es1 rfl (cN ?_)
 rw[em]
 refine aZ (aB T1.et) ej2 (cN ?_)
 rw[em]
 refine lh ej3 ?_
 rw[p8 (by omega)]
 refine⟨Nat.le_of_ble_eq_true rfl,rG (by rw[sizeLine_eq];simp;omega) ?_⟩
 rw[uw,C1 sym]
 have F1:=T1.toF
 have l1t:=F1.lt
 have es1':(st1++[Cell.lst (au (Mx.aO (Mx.bG (Mx.ab A) t) (t+1)))])[s]?=_:=(List.getElem?_append_left (by omega)).trans es1
 have et1':(st1++[Cell.lst (au (Mx.aO (Mx.bG (Mx.ab A) t) (t+1)))])[tb]?=_:=(List.getElem?_append_left l1t.1).trans F1.et
 refine bW es1' rfl (jl et1' (by rw[List.length_map,F1.lr];exact i8 ht) ?_)
 have em1:(rs.map D.ref).set (t+1) (.ref st1.length)=(rs.set (t+1) st1.length).map D.ref:=by rw[List.map_set]
 rw[em1]
 have F2:=F1.put ht (Mx.aO (Mx.bG (Mx.ab A) t) (t+1))
 have g2:∀m,m<st1.length→m≠tb→((st1++[Cell.lst (au (Mx.aO (Mx.bG (Mx.ab A) t) (t+1)))]).set tb (.lst ((rs.set (t+1) st1.length).map D.ref)))[m]?=st1[m]?:=fun m hm hmt=>by rw[List.getElem?_set_ne (Ne.symm hmt),List.getElem?_append_left hm]
 have l2:((st1++[Cell.lst (au (Mx.aO (Mx.bG (Mx.ab A) t) (t+1)))]).set tb (.lst ((rs.set (t+1) st1.length).map D.ref))).length=st1.length+1:=by simp
 have stb:s≠tb:=h_ h.es h.T.et
 generalize((st1++[Cell.lst (au (Mx.aO (Mx.bG (Mx.ab A) t) (t+1)))]).set tb (.lst ((rs.set (t+1) st1.length).map D.ref)))=st2 at F2 g2 l2⊢
 have es2:st2[s]?=_:=(g2 s (by omega) stb).trans es1
 refine⟨Nat.le_of_ble_eq_true rfl,rG (by rw[sizeLine_eq];simp;omega) ?_⟩
 rw[ints_app,yQ]
 have l2t:=F2.lt
 have es2':(st2++[Cell.lst (au (Mx.aO (Mx.bG (Mx.ab A) t) t))])[s]?=_:=(List.getElem?_append_left (by omega)).trans es2
 have et2':(st2++[Cell.lst (au (Mx.aO (Mx.bG (Mx.ab A) t) t))])[tb]?=_:=(List.getElem?_append_left l2t.1).trans F2.et
 refine bW es2' rfl (cN ?_)
 rw[em]
 refine jl et2' (by rw[List.length_map,F2.lr];exact i8 (by omega)) ?_
 have em2:((rs.set (t+1) st1.length).map D.ref).set t (.ref st2.length)=((rs.set (t+1) st1.length).set t st2.length).map D.ref:=by simp only[List.map_set]
 rw[em2]
 have F3:=F2.put (i:=t) (by omega) (Mx.aO (Mx.bG (Mx.ab A) t) t)
 have g3:∀m,m<st2.length→m≠tb→((st2++[Cell.lst (au (Mx.aO (Mx.bG (Mx.ab A) t) t))]).set tb (.lst (((rs.set (t+1) st1.length).set t st2.length).map D.ref)))[m]?=st2[m]?:=fun m hm hmt=>by rw[List.getElem?_set_ne (Ne.symm hmt),List.getElem?_append_left hm]
 have l3:((st2++[Cell.lst (au (Mx.aO (Mx.bG (Mx.ab A) t) t))]).set tb (.lst (((rs.set (t+1) st1.length).set t st2.length).map D.ref))).length=st2.length+1:=by simp
 have r3:∀(i c:Nat),((rs.set (t+1) st1.length).set t st2.length)[i]?=some c→(n0≤c∧(c<st.length→∃i',rs[i']?=some c))∧(st.length≤c→st1.length≤c):=fun i c hc=>by
  have lr:=T1.lr
  rcases j6 (by rw[List.length_set];omega) hc with⟨_,rfl⟩|⟨_,hc2⟩
  · exact⟨⟨by omega,fun z=>by omega⟩,fun _=>by omega⟩
  · rcases j6 (by omega) hc2 with⟨_,rfl⟩|⟨_,hc3⟩
    · exact⟨⟨by omega,fun z=>by omega⟩,fun _=>by omega⟩
    · have:=htb.2 i c hc3
      exact⟨⟨h.lr i c hc3,fun _=>⟨i,hc3⟩⟩,fun z=>by omega⟩
 generalize((st2++[Cell.lst (au (Mx.aO (Mx.bG (Mx.ab A) t) t))]).set tb (.lst (((rs.set (t+1) st1.length).set t st2.length).map D.ref)))=st3 at F3 g3 l3⊢
 generalize((rs.set (t+1) st1.length).set t st2.length)=rs3 at F3 r3⊢
 have es3:st3[s]?=_:=(g3 s (by omega) stb).trans es2
 have hb1:b<st.length:=(List.getElem?_eq_some_iff.mp h.B.eb).1
 have btb:b≠tb:=h_ h.B.eb h.T.et
 have fr3:∀m,m<st1.length→m≠tb→st3[m]?=st1[m]?:=fun m hm hmt=>(g3 m (by omega) hmt).trans (g2 m hm hmt)
 refine cK ?_
 refine bW es3 rfl (iE (aB F3.et) ?_)
 rw[List.length_map,F3.lr]
 have e5:((t+1:Nat):Int)+1=((t+2:Nat):Int):=rfl
 rw[e5]
 refine oS ⟨by omega,by omega,by omega,by omega⟩ ?_
 have er:cQ ((t+2:Nat):Int) (((N:Nat):Int)-((t+2:Nat):Int)).toNat=(List.range (N-(t+2))).map fun m=>D.int ((t+2+m:Nat):Int):=by
  unfold cQ
  have:(((N:Nat):Int)-((t+2:Nat):Int)).toNat=N-(t+2):=by omega
  rw[this]
  refine List.map_congr_left fun m _=>?_
  congr 1
 rw[er]
 have hb3:∀m,m<n0→st3[m]?=st[m]?:=fun m hm=>by rw[fr3 m (by omega) (by omega),f1 m (by omega) (by omega)]
 refine fk (fun rest σ st'=>∃(q:Nat) (rs':List Nat) (v7 v8 v9 v10:Option D),q≤N-(t+2)∧rest=((List.range (N-(t+2))).map fun m=>D.int ((t+2+m:Nat):Int)).drop q∧σ=[some (.ref s),some (.int ((t+1:Nat):Int)),some (.int (Mx.lam (Mx.ab A) (t+1) t)),some (.int (Mx.D (t+2) (Mx.ab A))),some (.int (Mx.D (t+1) (Mx.ab A))),some (.int (Mx.lam (Mx.bG (Mx.ab A) t) t t)),some (.lst (au ((List.range t).map fun p=>Mx.lam (Mx.ab A) (t+1) p))),v7,v8,v9,v10]∧st1.length≤st'.length∧(∀m,m<st1.length→m≠tb→st'[m]?=st1[m]?)∧nI st' tb rs' (fun i=>if i<t+2+q then Mx.aO (Mx.bG (Mx.ab A) t) i else Mx.aO (Mx.ab A) i) N∧∀(i c:Nat),rs'[i]?=some c→(n0≤c∧(c<st.length→∃i',rs[i']?=some c))∧(st.length≤c→st1.length≤c)) ?_ ?_ _ _ _ ⟨0,rs3,none,none,none,none,Nat.zero_le _,rfl,rfl,by omega,fr3,?_,r3⟩
 · rintro σ st4 ⟨q,rs',v7,v8,v9,v10,hq,hrest,rfl,l4,f4,F4,r4⟩
   refine⟨trivial,?_⟩
   have hqN:q=N-(t+2):=by
    have:=congrArg List.length hrest
    simp at this
    omega
   have T4:Tb st4 tb rs' (Mx.ab (Mx.bT A (t+1) t)) N:=F4.toT fun i hi=>by rw[if_pos (by omega),hgs]
   have nb:=B1.n1
   refine kk st4 st.length (st.length+1) (st.length+2) rs' ⟨?_,⟨?_,?_,?_,?_,B1.n1,B1.n2,B1.n3⟩,T4,⟨by omega,by omega,by omega⟩,fun i c hc=>?_,⟨by omega,by omega,by omega,by omega,by omega,by omega⟩,fun i c hc=>(r4 i c hc).1.1⟩ fun m hm=>?_
   · rw[f4 s (by omega) stb];exact es1
   · rw[f4 b (by omega) btb];exact B1.eb
   · rw[f4 _ (by omega) (by omega)];exact B1.e1
   · rw[f4 _ (by omega) (by omega)];exact B1.e2
   · rw[f4 _ (by omega) (by omega)];exact B1.e3
   · obtain⟨⟨_,h2⟩,h3⟩:=r4 i c hc
     by_cases hcs:c<st.length
     · exact⟨by omega,by omega,by omega⟩
     · have:=h3 (by omega)
       exact⟨by omega,by omega,by omega⟩
   · rw[f4 m (by omega) (by omega),f1 m (by omega) (by omega)]
 · rintro x rest σ st4 ⟨q,rs',v7,v8,v9,v10,hq,hrest,rfl,l4,f4,F4,r4⟩ next
   have hqN:q<N-(t+2):=by
    have:=congrArg List.length hrest
    simp at this
    omega
   rw[List.drop_eq_getElem_cons (by simpa using hqN),List.cons.injEq,List.getElem_map,List.getElem_range]at hrest
   obtain⟨rfl,rfl⟩:=hrest
   refine⟨trivial,_,rfl,?_⟩
   have hi:t+2+q<N:=by omega
   obtain⟨ci,ei1,ei2,ei3⟩:=F4.line hi
   rw[if_neg (Nat.lt_irrefl _)]at ei3
   have es4:st4[s]?=_:=(f4 s (by omega) stb).trans es1
   have c1:=sm.lam (t+2+q) t (by omega) hi
   have c2:=sm.lam (t+2+q) (t+1) (by omega) hi
   have up:=Mx.Bx sym (t:=t) (by omega) (by omega) (i:=t+2+q) (by omega)
   have lw:=Mx.DC sym (t:=t) (by omega) (by omega) (i:=t+2+q) (by omega)
   have md:=Mx.mq sym (t:=t) (by omega)
   have bm:(Mx.lam (Mx.bG (Mx.ab A) t) t t).natAbs≤2^90000:=oP (m:=80000+1) (Nat.le_trans (abs_dvd p1 md) (yZ (m:=80000) (oP (n:=80000) (mf b0 b2) (by decide)) (oP (n:=80000) (mf b3 b3) (by decide)))) (by decide)
   have bu:(Mx.lam (Mx.bG (Mx.ab A) t) (t+2+q) (t+1)).natAbs≤2^90000:=oP (m:=80000+1) (Nat.le_trans (abs_dvd p1 up) (E2 (m:=80000) (oP (n:=80000) (mf b2 c1) (by decide)) (oP (n:=80000) (mf b3 c2) (by decide)))) (by decide)
   refine bW es4 rfl (aZ (aB F4.et) ei2 ?_)
   refine cN ?_
   rw[em]
   refine aZ (aB ei3) (ip (by omega)) (b_ (dc b2 c1 (by decide) (by decide)) (aZ (aB ei3) (ip (by omega)) (b_ (dc b3 c2 (by decide) (by decide)) (cN (iY (by omega) (qk b1 (by omega) (by decide)) ?_)))))
   rw[oo (by omega) up]
   refine aZ (aB ei3) (ip (by omega)) (b_ (dc bm c2 (by decide) (by decide)) (b_ (dc b3 bu (by decide) (by decide)) (cK (iY (by omega) (qk b2 (by omega) (by decide)) ?_))))
   rw[oo (by omega) lw]
   refine cN ?_
   rw[em]
   refine lh ei3 ?_
   rw[p8 (by omega)]
   refine⟨Nat.le_of_ble_eq_true rfl,r8 (by rw[sizeLine_eq];simp;omega) ?_⟩
   rw[uw]
   refine cK ?_
   rw[e5]
   refine lh ei3 ?_
   rw[AF (by omega)]
   refine rG (by rw[sizeLine_eq];simp;omega) ?_
   have ea:au ((List.range t).map (fun p=>Mx.lam (Mx.ab A) (t+2+q) p)++[Mx.lam (Mx.bG (Mx.ab A) t) (t+2+q) t,Mx.lam (Mx.bG (Mx.ab A) t) (t+2+q) (t+1)])++au ((List.range (t+2+q+1-(t+2))).map fun p=>Mx.lam (Mx.ab A) (t+2+q) (t+2+p))=au (Mx.aO (Mx.bG (Mx.ab A) t) (t+2+q)):=by
    rw[←Ap (by omega)]
    simp[au]
   rw[ea]
   have l4t:=F4.lt
   have es4':(st4++[Cell.lst (au (Mx.aO (Mx.bG (Mx.ab A) t) (t+2+q)))])[s]?=_:=(List.getElem?_append_left (by omega)).trans es4
   have et4':(st4++[Cell.lst (au (Mx.aO (Mx.bG (Mx.ab A) t) (t+2+q)))])[tb]?=_:=(List.getElem?_append_left l4t.1).trans F4.et
   refine bW es4' rfl (jl et4' (by rw[List.length_map,F4.lr];exact i8 hi) ?_)
   have em4:(rs'.map D.ref).set (t+2+q) (.ref st4.length)=(rs'.set (t+2+q) st4.length).map D.ref:=by rw[List.map_set]
   rw[em4]
   have F5:=F4.put hi (Mx.aO (Mx.bG (Mx.ab A) t) (t+2+q))
   refine next _ _ ⟨q+1,rs'.set (t+2+q) st4.length,_,_,_,_,hqN,rfl,rfl,by simp;omega,fun m hm hmt=>?_,⟨F5.et,F5.lr,F5.nd,F5.nt,fun i c hc=>?_⟩,fun i c hc=>?_⟩
   · rw[List.getElem?_set_ne (Ne.symm hmt),List.getElem?_append_left (by omega)];exact f4 m hm hmt
   · rw[F5.row i c hc]
     congr 3
     by_cases h1:i=t+2+q
     · rw[if_pos h1,if_pos (by omega),h1]
     · rw[if_neg h1]
       by_cases h2:i<t+2+q
       · rw[if_pos h2,if_pos (by omega)]
       · rw[if_neg h2,if_neg (by omega)]
   · have lr:=F4.lr
     rcases j6 (by omega) hc with⟨_,rfl⟩|⟨_,hc2⟩
     · exact⟨⟨by omega,fun z=>by omega⟩,fun _=>by omega⟩
     · exact r4 i c hc2
 · refine⟨F3.et,F3.lr,F3.nd,F3.nt,fun i c hc=>?_⟩
   have hi:i<N:=by have:=(List.getElem?_eq_some_iff.mp hc).1;have:=F3.lr;omega
   rw[F3.row i c hc]
   congr 3
   by_cases h1:i=t
   · rw[if_pos h1,if_pos (by omega),h1]
   · rw[if_neg h1]
     by_cases h2:i=t+1
     · rw[if_pos h2,if_pos (by omega),h2]
     · rw[if_neg h2]
       by_cases h3:i<t
       · rw[if_pos (by omega)]
         exact wU fun p hp=>by rw[Mx.jM (by omega),Mx.hO (by omega) (by omega)]
       · rw[if_neg (by omega)]
theorem tP{A0 A U C:List (List Int)}{N w:Nat}{m:Nat→Nat}(L:Mx.Lg A0 A U C N w m)(h0:Mx.cz N w A0)(hN:N≤8)(hD0:Mx.D N (Mx.ab A0)≠0)(g0:∀i,i<N→Mx.ab A0 i i≤2^37000)(hm:∀i,i<N→m i≤37000):uO A U C N where
 lam:=fun i p hp hi=>L.En hi (by omega) (hm i hi)
 D:=fun p hp=>⟨(L.D p hp).1,by
  have h:=L.D p hp
  have h2:(((2:Nat)^744:Nat):Int)=(2:Int)^744:=Int.natCast_pow 2 744
  have h3:(((Mx.D p (Mx.ab A)).natAbs:Nat):Int)=Mx.D p (Mx.ab A):=Int.natAbs_of_nonneg (by omega)
  exact Int.ofNat_le.mp (by rw[h3,h2];exact h.2)⟩
 eA:=L.ent hm
 eU:=(L.turn h0 hN hD0 g0 hm).1
 eC:=(L.turn h0 hN hD0 g0 hm).2
noncomputable def fI:cY:=fun ds st K=>∃(n0 s b xb xu xc tb N w:Nat) (rs:List Nat) (A0 A U C:List (List Int)),ds=[.ref s]∧Ss n0 st s b xb xu xc tb rs A U C N∧Mx.cz N w A0∧N≤8∧w≤9∧Mx.D N (Mx.ab A0)≠0∧(∀i,i<N→Mx.ab A0 i i≤2^37000)∧Mx.Lk A0 A U C N w 1∧
 ∀st' xb' xu' xc' rs' A' U' C',Ss n0 st' s b xb' xu' xc' tb rs' A' U' C' N→Mx.Tn A0 A' U' C' N w→uO A' U' C' N→Mx.Sh (Mx.ab A') N→(∀m,m<n0→st'[m]?=st[m]?)→K .aP st'
noncomputable def gC:List Str:=["self","k","j"]
noncomputable def qb:DS:=(aD (aX 1 (dC (.int 1)))
 (uB (dg (aj nU (aa 1) (dZ iQ (ag (dj av "table" (aa 0)) aw)))) (aD (fU (e8 av "lessen" eY (aa 0) (ag (aa 1) (ag (aj c_ (aa 1) (dC (.int 1))) aw))))
 (gX (dg (e8 av "is_steep" fb (aa 0) (ag (aa 1) aw))) (aD (fU (e8 av "swap" gM (aa 0) (ag (aa 1) aw)))
 (aX 1 (dZ rY (ag (dC (.int 1)) (ag (aj c_ (aa 1) (dC (.int 1))) aw))))) (aD (fE (sd (ag (aj c_ (aa 1) (dC (.int 2))) (ag (lM iy (dC (.int 1))) (ag (lM iy (dC (.int 1))) aw)))) (bB 2) (fU (e8 av "lessen" eY (aa 0) (ag (aa 1) (ag (aa 2) aw)))))
 (xt 1 (u9 (fun i j=>i+j)) (dC (.int 1))))))))
theorem mk_le{N k i:Nat}(hN:N≤8):Mx.mk N k i≤37000:=by unfold Mx.mk;split<;>omega
theorem qC(A:List (List Int)){k j:Nat}(h:0<Mx.D (j+1) (Mx.ab A)):2*(((Mx.lam (Mx.ab A) k j-nq A k j*Mx.D (j+1) (Mx.ab A)).natAbs:Nat):Int)≤Mx.D (j+1) (Mx.ab A):=(Mx.tY h).1
theorem Ik{A0 A U C:List (List Int)}{N w k:Nat}(h:Mx.Lk A0 A U C N w k)(hk:N≤k):Mx.Sh (Mx.ab A) N where
 half:=fun i j hj hi=>h.red i (by omega) hi j hj
 Gj:=fun i h0 hi z=>by
  obtain⟨t,rfl⟩:∃t,i=t+1:=⟨i-1,by omega⟩
  refine h.flat t (by omega) hi ?_
  unfold Mx.ik
  rw[Nat.add_sub_cancel]at z
  have e:4*Mx.D (t+1+1) (Mx.ab A)*Mx.D t (Mx.ab A)=4*(Mx.D (t+2) (Mx.ab A)*Mx.D t (Mx.ab A)):=by grind
  have e2:4*Mx.lam (Mx.ab A) (t+1) t*Mx.lam (Mx.ab A) (t+1) t=4*(Mx.lam (Mx.ab A) (t+1) t*Mx.lam (Mx.ab A) (t+1) t):=by grind
  rw[e,e2]at z
  omega
theorem Fj{a b:Prop}(h:b):if false=true then a else b:=h
theorem Dz{A0 A U C:List (List Int)}{N w t:Nat}{m:Nat→Nat}(L:Mx.Lg A0 A U C N w m)(hm:∀i,i<N→m i≤if i=t+1 then 748+2240*(N-t)else 748)(ht:t+1<N)(hst:Mx.ik A t)(red:∀i,i<t+1→∀j,j<i→2*(((Mx.lam (Mx.ab A) i j).natAbs:Nat):Int)≤Mx.D (j+1) (Mx.ab A))(flat:∀u,u+1<t+1→¬Mx.ik A u):Mx.Lk A0 (Mx.bT A (t+1) t) (Mx.bT U (t+1) t) (Mx.bT C (t+1) t) N w (max 1 t):=by
 have sm:=Mx.qv L ht hst
 have L3:=L.swap ht ⟨sm.1,Int.le_trans (Int.le_of_lt sm.2) (L.D (t+1) (by omega)).2⟩
 have hgs:Mx.ab (Mx.bT A (t+1) t)=Mx.bG (Mx.ab A) t:=Mx.j9 (by have:=L.T.isA.len;omega)
 refine⟨⟨L3.T,L3.D,fun i hi=>?_⟩,fun i hik hi j hj=>?_,fun u hu hu2=>?_⟩
 · by_cases h0:t=0∧i=0
   · have h1:=(L3.D 1 (by omega)).2
     have e:Mx.D 1 (Mx.ab (Mx.bT A (t+1) t))=Mx.ab (Mx.bT A (t+1) t) 0 0:=by
      have h2:=Mx.dz (Mx.ab (Mx.bT A (t+1) t)) 0
      unfold Mx.lam at h2
      rw[Mx.kC]at h2
      exact h2.symm
     rw[h0.2,←e]
     exact Int.le_trans h1 (Mx.p2 (by unfold Mx.mk;split<;>omega))
   · refine Int.le_trans (L3.len i hi) (Mx.p2 ?_)
     have h1:=hm (Mx.sw t (t+1) i) (Mx.nB ht hi)
     by_cases e1:i=t
     · rw[e1,Mx.uW,if_pos rfl]at h1
       rw[e1,Mx.uW]
       unfold Mx.mk
       rw[if_pos (by omega),show max 1 t=t by omega]
       exact h1
     · have h2:Mx.sw t (t+1) i≠t+1:=by
        intro z
        by_cases e2:i=t+1
        · rw[e2,Mx.yf]at z;omega
        · rw[Mx.hO e1 e2]at z;exact e2 z
       rw[if_neg h2]at h1
       unfold Mx.mk
       split<;>omega
 · rw[hgs,Mx.kq (by omega),Mx.jM (by omega),Mx.hO (by omega) (by omega)]
   exact red i (by omega) j hj
 · intro z
   refine flat u (by omega) ?_
   unfold Mx.ik at z⊢
   rw[hgs,Mx.kq (by omega),Mx.kq (by omega),Mx.kq (by omega),Mx.jM (by omega),Mx.hO (by omega) (by omega)]at z
   exact z
theorem pe:∀ds st K,fI ds st K→ds.length=1∧qb {nx:=fun _ st'=>K .aP st',rt:=K} (bx gC ds) st:=by
 rintro ds st K ⟨n0,s,b,xb,xu,xc,tb,N,w,rs,A0,A,U,C,rfl,h,h0,hN,hw,hD0,g0,hL,kk⟩
 refine⟨rfl,?_⟩
 refine⟨fun m σ st'=>∃(k xb xu xc:Nat) (rs:List Nat) (A U C:List (List Int)) (v2:Option D),σ=[some (.ref s),some (.int ((k:Nat):Int)),v2]∧1≤k∧Ss n0 st' s b xb xu xc tb rs A U C N∧Mx.Lk A0 A U C N w k∧(∀m,m<n0→st'[m]?=st[m]?)∧m=(Mx.nh A N).toNat*(N+2)+(N+1-k),⟨_,1,xb,xu,xc,rs,A,U,C,none,rfl,Nat.le_refl _,h,hL,fun _ _=>rfl,rfl⟩,?_⟩
 rintro m σ st1 ⟨k,xb,xu,xc,rs,A,U,C,v2,rfl,hk1,h,hL,fr,rfl⟩
 refine bW h.es rfl (iE (aB h.T.et) ?_)
 rw[List.length_map,h.T.lr]
 refine IQ (fun hlt=>jo ?_) fun hge=>?_
 rotate_left
 · exact kk st1 xb xu xc rs A U C h hL.L.T (tP hL.L h0 hN hD0 g0 fun i _=>mk_le hN) (Ik hL (by omega)) fr
 obtain⟨t,rfl⟩:∃t,k=t+1:=⟨k-1,by omega⟩
 have ht:t+1<N:=by omega
 have em:((t+1:Nat):Int)-1=(t:Int):=by omega
 have sm:=tP hL.L h0 hN hD0 g0 fun i _=>mk_le hN
 have T:=hL.L.T
 refine fw h.es rfl (cN ?_)
 rw[em]
 refine⟨n0,s,b,xb,xu,xc,tb,N,w,t+1,t,rs,A,U,C,rfl,h,T.isA,T.ke,T.kO,by omega,ht,hN,hw,sm,fun st2 h2 f2=>?_⟩
 have L2:=hL.L.take (k:=t+1) (j:=t) (q:=nq A (t+1) t) (by omega) ht (Mx.Eh hL.L ht (by omega)) (by unfold Mx.mk;rw[if_neg (by omega)];omega)
 have r2:2*(((Mx.lam (Mx.ab (Mx.bh A (t+1) (nq A (t+1) t) t)) (t+1) t).natAbs:Nat):Int)≤Mx.D (t+1) (Mx.ab A):=by
  rw[Mx.t7 T.isA (by omega) ht];exact qC A (hL.L.D (t+1) (by omega)).1
 have low2:∀i p,i<t+1→p≤i→Mx.lam (Mx.ab (Mx.bh A (t+1) (nq A (t+1) t) t)) i p=Mx.lam (Mx.ab A) i p:=fun i p hi hp=>Mx.uy T.isA (by omega) ht (by omega) (by omega) hp
 have D2:∀p,p≤N→Mx.D p (Mx.ab (Mx.bh A (t+1) (nq A (t+1) t) t))=Mx.D p (Mx.ab A):=fun p hp=>Mx.qm T.isA (by omega) ht hp
 have ph2:Mx.nh (Mx.bh A (t+1) (nq A (t+1) t) t) N=Mx.nh A N:=Mx.uG T.isA (by omega) ht
 generalize hA2:Mx.bh A (t+1) (nq A (t+1) t) t=A2 at*
 generalize Mx.bh U (t+1) (nq A (t+1) t) t=U2 at*
 generalize Mx.bh C t (-nq A (t+1) t) (t+1)=C2 at*
 have hm2:∀i,i<N→(if i=t+1 then Mx.mk N (t+1) (t+1)+2240 else Mx.mk N (t+1) i)≤37000:=fun i hi=>by
  by_cases hi2:i=t+1
  · rw[if_pos hi2];unfold Mx.mk;rw[if_pos rfl];omega
  · rw[if_neg hi2];exact mk_le hN
 have sm2:=tP L2 h0 hN hD0 g0 hm2
 refine fw h2.es rfl ?_
 refine⟨n0,s,b,xb,xu,xc,tb,N,t,rs,A2,U2,C2,rfl,h2,ht,sm2,?_⟩
 have fr2:∀m,m<n0→st2[m]?=st[m]?:=fun m hm=>(f2 m hm).trans (fr m hm)
 by_cases hst:Mx.ik A2 t
 · have hst':=hst
   unfold Mx.ik at hst'
   rw[decide_eq_true hst']
   refine jo ?_
   refine fw h2.es rfl ?_
   refine⟨n0,s,b,xb,xu,xc,tb,N,w,t,rs,A2,U2,C2,rfl,h2,L2.T.isA,L2.T.ke,L2.T.kO,ht,hN,sm2,fun st3 xb3 xu3 xc3 rs3 h3 f3=>?_⟩
   refine cN ?_
   rw[em]
   refine Aa ?_
   have ek:(if((t:Nat):Int)>1 then((t:Nat):Int)else 1)=((max 1 t:Nat):Int):=by split<;>omega
   rw[ek]
   have L3:=Dz L2 (fun i hi=>by
    by_cases hi2:i=t+1
    · rw[if_pos hi2,if_pos hi2];unfold Mx.mk;rw[if_pos rfl];omega
    · rw[if_neg hi2,if_neg hi2];unfold Mx.mk;rw[if_neg hi2];omega) ht hst (fun i hi j hj=>by rw[low2 i j hi (by omega),D2 (j+1) (by omega)];exact hL.red i hi (by omega) j hj) (fun u hu z=>hL.flat u hu (by omega) (by
    unfold Mx.ik at z⊢
    rw[low2 (u+1) u hu (by omega),D2 _ (by omega),D2 _ (by omega),D2 _ (by omega)]at z
    exact z))
   have hph:=Mx.Ah L2 ht hst
   have hp3:=Mx.Ef L3.L
   rw[ph2]at hph
   refine⟨_,?_,max 1 t,xb3,xu3,xc3,rs3,_,_,_,_,rfl,by omega,h3,L3,fun m hm=>(f3 m hm).trans (fr2 m hm),rfl⟩
   have h9:((Mx.nh (Mx.bT A2 (t+1) t) N).toNat+1)*(N+2)≤(Mx.nh A N).toNat*(N+2):=Nat.mul_le_mul_right _ (by omega)
   rw[Nat.add_mul,Nat.one_mul]at h9
   omega
 · have hst':=hst
   unfold Mx.ik at hst'
   rw[decide_eq_false hst']
   refine Fj ?_
   refine cN (ia (ia ?_))
   have e2:((t+1:Nat):Int)-2=(t:Int)-1:=by omega
   rw[e2]
   refine C9 ⟨by omega,by omega,by omega,by omega⟩ ?_
   have e3:((t:Int)-1- -1).toNat=t:=by omega
   rw[e3]
   refine fk (fun rest σ st'=>∃(q:Nat) (A' U' C':List (List Int)) (v2:Option D),q≤t∧rest=(iN ((t:Int)-1) t).drop q∧σ=[some (.ref s),some (.int ((t+1:Nat):Int)),v2]∧Ss n0 st' s b xb xu xc tb rs A' U' C' N∧Mx.Lg A0 A' U' C' N w (fun i=>if i=t+1 then 748+2240*(N-(t+1))+2240*(q+1)else 748)∧(∀i p,i<t+1→p≤i→Mx.lam (Mx.ab A') i p=Mx.lam (Mx.ab A2) i p)∧(∀p,p≤N→Mx.D p (Mx.ab A')=Mx.D p (Mx.ab A2))∧(∀p,t≤p+q→p≤t→2*(((Mx.lam (Mx.ab A') (t+1) p).natAbs:Nat):Int)≤Mx.D (p+1) (Mx.ab A2))∧Mx.lam (Mx.ab A') (t+1) t=Mx.lam (Mx.ab A2) (t+1) t∧Mx.nh A' N=Mx.nh A2 N∧∀m,m<n0→st'[m]?=st[m]?) ?_ ?_ _ _ _ ⟨0,A2,U2,C2,v2,Nat.zero_le _,rfl,rfl,h2,L2.mono fun i hi=>?_,fun _ _ _ _=>rfl,fun _ _=>rfl,fun p hp hp2=>?_,rfl,rfl,fr2⟩
   · rintro σ st3 ⟨q,A',U',C',v3,hq,hrest,rfl,h3,L3,low3,D3,red3,same3,ph3,fr3⟩
     refine⟨trivial,?_⟩
     have hqt:q=t:=by
      have:=congrArg List.length hrest
      simp[lu]at this
      omega
     subst hqt
     have redk:∀j,j<q+1→2*(((Mx.lam (Mx.ab A') (q+1) j).natAbs:Nat):Int)≤Mx.D (j+1) (Mx.ab A'):=fun j hj=>by rw[D3 (j+1) (by omega)];exact red3 j (by omega) (by omega)
     have L4:Mx.Lk A0 A' U' C' N w (q+2):=by
      refine⟨⟨L3.T,L3.D,fun i hi=>?_⟩,fun i hi hiN j hj=>?_,fun u hu huN=>?_⟩
      · by_cases hi2:i=q+1
        · subst hi2
          have h5:=Mx.wK L3.T.isA L3.ne (fun k hk=>(L3.D k hk).2) hi redk
          have h16:(2:Int)^4=16:=by decide
          have h6:((q+1+1:Nat):Int)*2^744≤2^4*2^744:=Int.mul_le_mul_of_nonneg_right (by omega) (Int.le_of_lt (Mx.kl _))
          rw[←Int.pow_add]at h6
          exact Int.le_trans h5 (Int.le_trans h6 (Mx.p2 (by unfold Mx.mk;split<;>omega)))
        · have h5:=L3.len i hi
          rw[if_neg hi2]at h5
          exact Int.le_trans h5 (Mx.p2 (by unfold Mx.mk;split<;>omega))
      · by_cases hi2:i=q+1
        · subst hi2;exact redk j hj
        · rw[low3 i j (by omega) (by omega),D3 (j+1) (by omega),low2 i j (by omega) (by omega),D2 (j+1) (by omega)]
          exact hL.red i (by omega) hiN j hj
      · intro z
        unfold Mx.ik at z
        by_cases hu2:u=q
        · subst hu2
          rw[same3,D3 _ (by omega),D3 _ (by omega),D3 _ (by omega)]at z
          exact hst z
        · rw[low3 (u+1) u (by omega) (by omega),D3 _ (by omega),D3 _ (by omega),D3 _ (by omega),low2 (u+1) u (by omega) (by omega),D2 _ (by omega),D2 _ (by omega),D2 _ (by omega)]at z
          exact hL.flat u (by omega) (by omega) z
     refine⟨_,?_,q+2,xb,xu,xc,rs,A',U',C',_,rfl,by omega,h3,L4,fr3,rfl⟩
     rw[ph3,ph2]
     omega
   · rintro x rest σ st3 ⟨q,A',U',C',v3,hq,hrest,rfl,h3,L3,low3,D3,red3,same3,ph3,fr3⟩ next
     have hqt:q<t:=by
      have:=congrArg List.length hrest
      simp[lu]at this
      omega
     have ex:(t:Int)-1+((q:Nat):Int)* -1=((t-1-q:Nat):Int):=by omega
     have hx:(iN ((t:Int)-1) t).drop q=D.int ((t-1-q:Nat):Int)::(iN ((t:Int)-1) t).drop (q+1):=by
      have hl:q<(iN ((t:Int)-1) t).length:=by rw[lu];exact hqt
      have eg:(iN ((t:Int)-1) t)[q]=D.int ((t-1-q:Nat):Int):=by
       have e:=List.getElem?_eq_getElem hl
       rw[nK,if_pos hqt,ex]at e
       exact(Option.some.inj e).symm
      rw[List.drop_eq_getElem_cons hl,eg]
     rw[hx,List.cons.injEq]at hrest
     obtain⟨rfl,rfl⟩:=hrest
     refine⟨trivial,_,rfl,?_⟩
     have hm3:∀i,i<N→(if i=t+1 then 748+2240*(N-(t+1))+2240*(q+1)else 748)≤37000:=fun i hi=>by split<;>omega
     have sm3:=tP L3 h0 hN hD0 g0 hm3
     have T3:=L3.T
     obtain⟨j,hj⟩:∃j,j=t-1-q:=⟨_,rfl⟩
     rw[←hj]
     refine fw h3.es rfl ?_
     refine⟨n0,s,b,xb,xu,xc,tb,N,w,t+1,j,rs,A',U',C',rfl,h3,T3.isA,T3.ke,T3.kO,by omega,ht,hN,hw,sm3,fun st4 h4 f4=>?_⟩
     have L4:=L3.take (k:=t+1) (j:=j) (q:=nq A' (t+1) j) (by omega) ht (Mx.Eh L3 ht (by omega)) (by rw[if_neg (by omega)];omega)
     refine next _ _ ⟨q+1,_,_,_,_,hqt,rfl,rfl,h4,L4.mono fun i hi=>?_,fun i p hi hp=>?_,fun p hp=>?_,fun p hp hp2=>?_,?_,?_,fun m hm=>(f4 m hm).trans (fr3 m hm)⟩
     · by_cases hi2:i=t+1
       · rw[if_pos hi2,if_pos hi2,if_pos rfl];omega
       · rw[if_neg hi2,if_neg hi2,if_neg hi2];omega
     · rw[Mx.uy T3.isA (by omega) ht (by omega) (by omega) hp];exact low3 i p hi hp
     · rw[Mx.qm T3.isA (by omega) ht hp];exact D3 p hp
     · by_cases hpj:p=j
       · subst hpj
         rw[Mx.t7 T3.isA (by omega) ht,←D3 (p+1) (by omega)]
         exact qC A' (L3.D (p+1) (by omega)).1
       · rw[Mx.vU T3.isA (by omega) ht (by omega) (by omega)]
         exact red3 p (by omega) hp2
     · rw[Mx.vU T3.isA (by omega) ht (by omega) (by omega)];exact same3
     · rw[Mx.uG T3.isA (by omega) ht];exact ph3
   · by_cases hi2:i=t+1
     · rw[if_pos hi2,if_pos hi2];unfold Mx.mk;rw[if_pos rfl];omega
     · rw[if_neg hi2,if_neg hi2];unfold Mx.mk;rw[if_neg hi2];omega
   · have:p=t:=by omega
     subst this
     rw[D2 (p+1) (by omega)];exact r2
noncomputable def ma:cY:=fun ds st K=>∃(dA:D) (A:List (List Int)) (N w:Nat),ds=[dA]∧gZ st dA A∧St A N w∧w≤9∧(∀k,k≤N→Mx.D k (Mx.ab A)≠0)∧∀st' A' U' C',Ext st st'→Mx.Tn A A' U' C' N w→uO A' U' C' N→Mx.Sh (Mx.ab A') N→K (.tup [dP A',dP U',dP (Mx.zw C' N)]) st'
noncomputable def oK:List Str:=["steps","stairs","bench"]
noncomputable def DN:DS:=(aD (aX 1 (tS av e7 (ag (aa 0) aw)))
 (aD (fU (e8 av "shorten" fI (aa 1) aw))
 (aD (aX 2 (dj av "bench" (aa 1)))
 (cC (w9 (ag (bg iZ (ag (dj az "body" (aa 2)) aw)) (ag (bg iZ (ag (dj az "turn" (aa 2)) aw)) (ag (bg gJ (ag (dj az "back_columns" (aa 2)) (ag (dZ iQ (ag (aa 0) aw)) aw))) aw))))))))
theorem A7:∀ds st K,ma ds st K→ds.length=1∧DN {nx:=fun _ st'=>K .aP st',rt:=K} (bx oK ds) st:=by
 rintro ds st K ⟨dA,A,N,w,rfl,hA,hS,hw,hD,kk⟩
 refine⟨rfl,?_⟩
 have gm:=hS.gm
 have hN:=gm.le
 have hl:=hS.is.len
 have X0:Ext st (st++[.ins av []]):=Ext.push
 refine⟨st.length,N,w,dA,A,rfl,by simp,X0.tW hA,hS,hD,fun st1 b xb xu xc tb rs h1 f1=>⟨rfl,?_⟩⟩
 have hgb:∀i,i<N→Mx.ab A i i≤2^748:=fun i hi=>by
  have h2:=gm.bd i i hi hi
  have h3:((vX:Nat):Int)≤2^748:=Int.le_trans (show((vX:Nat):Int)≤2^90 by decide) (Mx.p2 (by decide))
  omega
 have hDb:∀k,k≤N→Mx.D k (Mx.ab A)≤2^744:=fun k hk=>by
  have h2:=gm.D (p:=k) hk
  have h3:(((2:Nat)^744:Nat):Int)=(2:Int)^744:=Int.natCast_pow 2 744
  have h4:Mx.D k (Mx.ab A)≤(((Mx.D k (Mx.ab A)).natAbs:Nat):Int):=by omega
  exact Int.le_trans h4 (by rw[←h3];exact Int.ofNat_le.mpr h2)
 have hL:=Mx.Lk.start hS.is hD hDb hgb
 refine fw h1.es rfl ?_
 refine⟨st.length,st.length,b,xb,xu,xc,tb,N,w,rs,A,A,_,_,rfl,h1,hS.is,hN,hw,hD N (Nat.le_refl _),fun i hi=>Int.le_trans (hgb i hi) (Mx.p2 (by decide)),hL,fun st2 xb2 xu2 xc2 rs2 A2 U2 C2 h2 T2 hD2 hsh f2=>?_⟩
 have hs2:=(List.getElem?_eq_some_iff.mp h2.es).1
 have X2:Ext st st2:=⟨by omega,fun m hm=>by rw[f2 m hm,f1 m hm,X0.same m hm]⟩
 refine bW h2.es rfl ?_
 have lA:=T2.isA.len
 have lU:=T2.ke.len
 have lC:=T2.kO.len
 refine bW h2.B.eb rfl ?_
 refine⟨.ref xb2,A2,rfl,⟨_,aB h2.B.e1,bU.lst⟩,by omega,?_⟩
 refine bW h2.B.eb rfl ?_
 refine⟨.ref xu2,U2,rfl,⟨_,aB h2.B.e2,bU.lst⟩,by omega,?_⟩
 refine bW h2.B.eb rfl ?_
 obtain⟨da,hda,ra⟩:=(X2.tW hA).ex
 refine iE hda ?_
 rw[ra.len,hl]
 refine⟨.ref xc2,C2,N,rfl,⟨_,aB h2.B.e3,bU.lst⟩,T2.kO.jf,by omega,by omega,?_⟩
 exact⟨Nat.le_of_ble_eq_true rfl,kk st2 A2 U2 C2 X2 T2 hD2 hsh⟩
structure Upd(st:ae)(n:Nat)(st':ae):Prop where
 len:st'.length=st.length
 same:∀m,m≠n→st'[m]?=st[m]?
theorem Upd.refl{st:ae}{n:Nat}:Upd st n st:=⟨rfl,fun _ _=>rfl⟩
theorem Upd.trans{st st1 st2:ae}{n:Nat}(a:Upd st n st1)(b:Upd st1 n st2):Upd st n st2:=⟨b.len.trans a.len,fun m h=>(b.same m h).trans (a.same m h)⟩
theorem Upd.set{st:ae}{n:Nat}{c:Cell}:Upd st n (st.set n c):=⟨List.length_set,fun m h=>List.getElem?_set_ne (Ne.symm h)⟩
structure Lf(st:ae)(n:Nat):Prop where
 ex:∃x,st[n]?=some (.lst [.int x])∧0≤x
noncomputable def iS:cY:=fun ds st K=>∃(ns:List Int) (k:Int),ds=[.lst (ns.map .int),.int k]∧0≤k∧∀c,K (.int c) st
noncomputable def mN:List Str:=["_law_script","_law_k"]
noncomputable def Bf:DS:=(aD (gX (dg (aj nU (aa 1) (dZ iQ (ag (aa 0) aw)))) (cC (aj bO (aa 0) (aa 1))) fT)
 (cC (dC (.int 0))))
theorem DG{ns:List Int}{k:Int}(h0:0≤k)(h:k<ns.length):∃c,dY (ns.map D.int) k=some (.int c):=by
 have hk:k.toNat<ns.length:=by omega
 refine⟨ns[k.toNat],?_⟩
 have e:(ns.map D.int)[k.toNat]?=some (.int ns[k.toNat]):=by simp[hk]
 have:=gR e
 rw[Int.toNat_of_nonneg h0]at this
 exact this
theorem zu:∀ds st K,iS ds st K→ds.length=2∧Bf {nx:=fun _ st'=>K .aP st',rt:=K} (bx mN ds) st:=by
 rintro ds st K ⟨ns,k,rfl,hk0,q⟩
 refine⟨rfl,?_⟩
 refine iE rfl ?_
 rw[List.length_map]
 refine IQ (fun h=>?_) fun h=>q 0
 obtain⟨c,e⟩:=DG hk0 h
 exact jo (aZ rfl e (q c))
noncomputable def iu:cY:=fun ds st K=>∃(ns:List Int) (k:Int),ds=[.lst (ns.map .int),.int k]∧0≤k∧k≤1000∧∀x:Int,0≤x→K (.ref st.length) (st++[.lst [.int x]])
noncomputable def kr:List Str:=["_law_script","_law_k","_law_cell","_law_number_here","_law_wide","_law_j"]
noncomputable def wZ:DS:=(aD (aX 2 (bg iS (ag (aa 0) (ag (aa 1) aw))))
 (aD (gX (dg (aj qR (dZ rM (ag (aa 2) aw)) (aj pU (dC (.int 10)) (dC (.int 18))))) (cC (kL (ag (dZ rM (ag (aa 2) aw)) aw))) fT)
 (aD (aX 3 (aj ib (aj bN (aj cu (aj cu (aj ib (aa 2) (dC (.int 2147483647))) (aj bN (dC (.int 7919)) (aa 1))) (dC (.int 11))) (dC (.int 48271))) (dC (.int 2147483629))))
 (aD (aX 4 (dC (.int 0)))
 (aD (fE (de (ag (dC (.int 9)) aw)) (bB 5) (aD (aX 3 (aj ib (aj cu (aj cu (aj bN (aa 3) (aa 3)) (aj bN (dC (.int 69621)) (aa 5))) (dC (.int 7))) (dC (.int 1999999973))))
 (aX 4 (aj cu (aj bN (aa 4) (dC (.int 1999999973))) (aa 3)))))
 (cC (kL (ag (aa 4) aw))))))))
noncomputable def AM:DS:=(aD (aX 4 (dC (.int 0)))
 (aD (fE (de (ag (dC (.int 9)) aw)) (bB 5) (aD (aX 3 (aj ib (aj cu (aj cu (aj bN (aa 3) (aa 3)) (aj bN (dC (.int 69621)) (aa 5))) (dC (.int 7))) (dC (.int 1999999973))))
 (aX 4 (aj cu (aj bN (aa 4) (dC (.int 1999999973))) (aa 3)))))
 (cC (kL (ag (aa 4) aw)))))
theorem yF{d0 d1 d2:D}{u:Int}{st:ae}{E:jr}(h0:0≤u)(h1:u<2^62)(k:∀x:Int,0≤x→E.rt (.ref st.length) (st++[.lst [.int x]])):AM E [some d0,some d1,some d2,some (.int u),none,none] st:=by
 refine fq ⟨by decide,by decide⟩ ?_
 refine hJ 9 (fun _ σ st'=>st'=st∧∃(u w:Int) (v:Option D),0≤u∧u<2^62∧0≤w∧σ=[some d0,some d1,some d2,some (.int u),some (.int w),v]) ?_ ?_ ⟨rfl,u,0,none,h0,h1,Int.le_refl _,rfl⟩
 · rintro σ st' ⟨rfl,u,w,v,a1,a2,a3,rfl⟩
   exact⟨Nat.le_of_ble_eq_true rfl,k w a3⟩
 · rintro j σ st' rest hj ⟨rfl,u,w,v,a1,a2,a3,rfl⟩ next
   refine⟨_,rfl,?_⟩
   refine b_ (fN (by omega) (by omega)) (b_ (fN (by decide) (by decide)) (cK (cK (jv (by decide) ?_))))
   have u1:=Int.fmod_nonneg_of_pos (u*u+69621*(j:Int)+7) (show(0:Int)<1999999973 by decide)
   have u2:=Int.fmod_lt_of_pos (u*u+69621*(j:Int)+7) (show(0:Int)<1999999973 by decide)
   generalize(u*u+69621*(j:Int)+7).fmod 1999999973=t at u1 u2
   refine b_ (wW (by decide) (by decide)) (cK ?_)
   have hw:0≤w*1999999973+t:=Int.add_nonneg (Int.mul_nonneg a3 (by decide)) u1
   generalize w*1999999973+t=w2 at hw
   exact next _ _ ⟨rfl,t,w2,_,u1,by omega,hw,rfl⟩
noncomputable def Ev(A:DE)(σ:bJ)(st:ae)(d:D):Prop:=∀K:DK,K d st→A σ st K
theorem ow{x:D→D→ae→DK→Prop}{A B:DE}{σ:bJ}{st:ae}{a b d:D}(hA:Ev A σ st a)(hB:Ev B σ st b)(hx:∀K:DK,K d st→x a b st K):Ev (aj x A B) σ st d:=fun K k=>hA _ (hB _ (hx K k))
theorem vq{σ:bJ}{st:ae}{d:D}:Ev (dC d) σ st d:=fun K k=>k
theorem zj{i:Nat}{σ:bJ}{st:ae}{d:D}(h:σ[i]?=some (some d)):Ev (aa i) σ st d:=fun K k=>ql h k
theorem y8{σ:bJ}{st:ae}{c k:Int}(h2:σ[2]?=some (some (.int c)))(h1:σ[1]?=some (some (.int k))):Ev (aj ib (aj bN (aj cu (aj cu (aj ib (aa 2) (dC (.int 2147483647))) (aj bN (dC (.int 7919)) (aa 1))) (dC (.int 11))) (dC (.int 48271))) (dC (.int 2147483629))) σ st (.int (((c.fmod 2147483647+7919*k+11)*48271).fmod 2147483629)):=by
 have a1:Ev (aj ib (aa 2) (dC (.int 2147483647))) σ st (.int (c.fmod 2147483647)):=ow (zj h2) vq fun K k=>jv (by decide) k
 have a2:Ev (aj bN (dC (.int 7919)) (aa 1)) σ st (.int (7919*k)):=ow vq (zj h1) fun K k=>b_ (fN (by decide) (by decide)) k
 have a3:=ow (d:= .int (c.fmod 2147483647+7919*k)) a1 a2 fun K k=>cK k
 have a4:=ow (d:= .int (c.fmod 2147483647+7919*k+11)) a3 (vq (d:= .int 11)) fun K k=>cK k
 have a5:=ow (d:= .int ((c.fmod 2147483647+7919*k+11)*48271)) a4 (vq (d:= .int 48271)) fun K k=>b_ (wW (by decide) (by decide)) k
 exact ow a5 (vq (d:= .int 2147483629)) fun K k=>jv (by decide) k
theorem EW{i:Nat}{A:DE}{B:DS}{E:jr}{σ:bJ}{st:ae}{d:D}(h:Ev A σ st d)(k:B E (σ.set i (some d)) st):aD (aX i A) B E σ st:=h _ k
theorem vJ:∀ds st K,iu ds st K→ds.length=2∧wZ {nx:=fun _ st'=>K .aP st',rt:=K} (bx kr ds) st:=by
 rintro ds st K ⟨ns,k,rfl,hk0,hk1,q⟩
 refine⟨rfl,?_⟩
 refine⟨ns,k,rfl,hk0,fun c=>?_⟩
 refine zD (ve ⟨by decide,by decide,by decide⟩ ?_)
 generalize(10:Int)^(18:Int).toNat=big
 refine Ka (fun h=>jo (zD ⟨Nat.le_of_ble_eq_true rfl,q _ (by omega)⟩)) fun h=>?_
 refine EW (σ:=[some (.lst (ns.map .int)),some (.int k),some (.int c),none,none,none]) (y8 (c:=c) (k:=k) rfl rfl) ?_
 have u1:=Int.fmod_nonneg_of_pos ((c.fmod 2147483647+7919*k+11)*48271) (show(0:Int)<2147483629 by decide)
 have u2:=Int.fmod_lt_of_pos ((c.fmod 2147483647+7919*k+11)*48271) (show(0:Int)<2147483629 by decide)
 generalize((c.fmod 2147483647+7919*k+11)*48271).fmod 2147483629=u at u1 u2
 exact yF (E:={nx:=fun _ st'=>K .aP st',rt:=K}) u1 (by omega) q
noncomputable def bY:cY:=fun ds st K=>∃(n:Nat) (m:Int),ds=[.ref n,.int m]∧Lf st n∧0<m∧m<2^62∧∀r st',0≤r→r<m→Lf st' n→Upd st n st'→K (.int r) st'
noncomputable def jY:List Str:=["_law_left_here","_law_many","_law_digit_here"]
noncomputable def vQ:DS:=(aD (aX 2 (aj ib (aj bO (aa 0) (dC (.int 0))) (aa 1)))
 (aD (gO (aa 0) (dC (.int 0)) (aj gY (aj bO (aa 0) (dC (.int 0))) (aa 1)))
 (cC (aa 2))))
theorem yH{m:Int}(h0:0<m)(h:m<2^62):m.natAbs.log2<9000:=by
 have:m.natAbs.log2<62:=(Nat.log2_lt (by omega)).mpr (by omega)
 omega
theorem vm:∀ds st K,bY ds st K→ds.length=2∧vQ {nx:=fun _ st'=>K .aP st',rt:=K} (bx jY ds) st:=by
 rintro ds st K ⟨n,m,rfl,⟨x,e,hx⟩,hm0,hm1,k⟩
 refine⟨rfl,?_⟩
 have hn:n<st.length:=(List.getElem?_eq_some_iff.mp e).1
 have it:items? st (.ref n)=some [.int x]:=aB e
 refine aZ it ue (jv (by omega) (aZ it ue (iY (by omega) (yH hm0 hm1) (jl e (by rfl) ?_))))
 refine k _ _ (Int.fmod_nonneg_of_pos _ hm0) (Int.fmod_lt_of_pos _ hm0) ⟨_,List.getElem?_set_self hn,?_⟩ Upd.set
 rw[Int.fdiv_eq_ediv_of_nonneg _ (by omega)];exact Int.ediv_nonneg hx (by omega)
noncomputable def Sm(x:Int):Prop:= -1000000000000<x∧x<1000000000000
noncomputable def gr:cY:=fun ds st K=>∃(n:Nat) (kd:Int),ds=[.ref n,.int kd]∧Lf st n∧0≤kd∧kd<5∧∀r st',Sm r→Lf st' n→Upd st n st'→K (.int r) st'
noncomputable def jm:List Str:=["_law_left_here","_law_kind","_law_size"]
noncomputable def ux:DS:=(aD (gX (dg (aj jz (aa 1) (dC (.int 3)))) (cC (aj cu (aj c_ (bg bY (ag (aa 0) (ag (aj c_ (aj bN (dC (.int 2)) (aj pU (dC (.int 10)) (dC (.int 12)))) (dC (.int 1))) aw))) (aj pU (dC (.int 10)) (dC (.int 12)))) (dC (.int 1)))) fT)
 (aD (gX (qV (dg (aj jz (aa 1) (dC (.int 2)))) (dg (aj jz (bg bY (ag (aa 0) (ag (dC (.int 2)) aw))) (dC (.int 0))))) (cC (aj c_ (bg bY (ag (aa 0) (ag (dC (.int 1999)) aw))) (dC (.int 999)))) fT)
 (aD (aX 2 (aj bO (iz (ag (dC (.int 3)) (ag (dC (.int 9)) (ag (dC (.int 1)) (ag (dC (.int 0)) (ag (dC (.int 4)) aw)))))) (aa 1)))
 (cC (aj c_ (bg bY (ag (aa 0) (ag (aj cu (aj bN (dC (.int 2)) (aa 2)) (dC (.int 1))) aw))) (aa 2))))))
theorem wA{st st1:ae}{n:Nat}{kd:Int}{K:DK}(L:Lf st1 n)(U:Upd st n st1)(h0:0≤kd)(h1:kd<5)(k:∀r st',Sm r→Lf st' n→Upd st n st'→K (.int r) st'):(aD (aX 2 (aj bO (iz (ag (dC (.int 3)) (ag (dC (.int 9)) (ag (dC (.int 1)) (ag (dC (.int 0)) (ag (dC (.int 4)) aw)))))) (aa 1)))
 (cC (aj c_ (bg bY (ag (aa 0) (ag (aj cu (aj bN (dC (.int 2)) (aa 2)) (dC (.int 1))) aw))) (aa 2)))) {nx:=fun _ st'=>K .aP st',rt:=K} [some (.ref n),some (.int kd),none] st1:=by
 have e:kd=0∨kd=1∨kd=2∨kd=3∨kd=4:=by omega
 have fin:∀s:Int,0≤s→s≤9→(cC (aj c_ (bg bY (ag (aa 0) (ag (aj cu (aj bN (dC (.int 2)) (aa 2)) (dC (.int 1))) aw))) (aa 2))) {nx:=fun _ st'=>K .aP st',rt:=K} [some (.ref n),some (.int kd),some (.int s)] st1:=fun s s0 s1=>by
  refine b_ (fN (by decide) (by decide)) (cK ?_)
  exact⟨n,_,rfl,L,by omega,by omega,fun r st2 a1 a2 L2 U2=>cN (k _ _ ⟨by omega,by omega⟩ L2 (U.trans U2))⟩
 refine⟨Nat.le_of_ble_eq_true rfl,?_⟩
 rcases e with rfl|rfl|rfl|rfl|rfl
 · exact aZ rfl rfl (fin 3 (by decide) (by decide))
 · exact aZ rfl rfl (fin 9 (by decide) (by decide))
 · exact aZ rfl rfl (fin 1 (by decide) (by decide))
 · exact aZ rfl rfl (fin 0 (by decide) (by decide))
 · exact aZ rfl rfl (fin 4 (by decide) (by decide))
theorem tj:∀ds st K,gr ds st K→ds.length=2∧ux {nx:=fun _ st'=>K .aP st',rt:=K} (bx jm ds) st:=by
 rintro ds st K ⟨n,kd,rfl,L,k0,k1,k⟩
 refine⟨rfl,?_⟩
 refine eq2 (fun h=>jo ?_) fun h=>?_
 · refine ve ⟨by decide,by decide,by decide⟩ (b_ (fN (by decide) (by decide)) (cN ?_))
   refine⟨n,_,rfl,L,by decide,by decide,fun r st2 c1 c2 L2 U2=>ve ⟨by decide,by decide,by decide⟩ (cN (cK ?_))⟩
   have e:(10:Int)^(12:Int).toNat=1000000000000:=by decide
   rw[e]at c2⊢
   exact k _ _ ⟨by omega,by omega⟩ L2 U2
 · refine eq2 (fun h2=>jo ?_) fun h2=>wA L Upd.refl k0 k1 k
   refine⟨n,2,rfl,L,by decide,by decide,fun r st2 c1 c2 L2 U2=>?_⟩
   refine eq2 (fun h3=>jo ?_) fun h3=>wA L2 U2 k0 k1 k
   exact⟨n,1999,rfl,L2,by decide,by decide,fun r st3 d1 d2 L3 U3=>cN (k _ _ ⟨by omega,by omega⟩ L3 (U2.trans U3))⟩
noncomputable def FL(A:List (List Int)):Prop:=∀r∈A,∀x∈r,Sm x
structure Dr(A:List (List Int))(N w:Nat):Prop where
 is:Mx.cz N w A
 le:N≤8
 wd:w≤9
 bd:FL A
 n1:1≤N
noncomputable def gE:cY:=fun ds st K=>∃(n m w:Nat) (kd:Int),ds=[.ref n,.int m,.int w,.int kd]∧Lf st n∧m≤8∧w≤8∧0≤kd∧kd<5∧∀A st',Mx.cz m w A→FL A→Lf st' n→Upd st n st'→K (dP A) st'
noncomputable def ko:List Str:=["_law_left_here","_law_many","_law_wide","_law_kind"]
noncomputable def xS:DS:=(cC (dZ fV (ag (fc (de (ag (aa 1) aw)) [none,some 2,some 0,some 3] (bB 0) cZ (dZ fV (ag (fc (de (ag (aa 1) aw)) [none,some 2,some 3] (bB 0) cZ (bg gr (ag (aa 1) (ag (aa 2) aw)))) aw))) aw)))
theorem A6{n w:Nat}{kd:Int}{σc:bJ}{st:ae}{te:DE}{K:List D→ae→Prop}(ei:∀(x:D) (st':ae) (K':DK),gr [.ref n,.int kd] st' K'→te (σc.set 0 (some x)) st' K')(L:Lf st n)(k0:0≤kd)(k1:kd<5)(hs:(fun(x:D)=>bB 0 x σc)=fun x=>some (σc.set 0 (some x)))
 (k:∀r st',r.length=w→(∀x∈r,Sm x)→Lf st' n→Upd st n st'→K (au r) st'):
 df (bB 0) cZ te (fun _=>True) σc (cQ 0 w) [] st K:=by
 refine g_ (fun rest acc st'=>∃r:List Int,acc=au r∧r.length+rest.length=w∧(∀x∈r,Sm x)∧Lf st' n∧Upd st n st') ?_ ?_ _ _ _ ⟨[],rfl,by rw[cX];simp,by simp,L,Upd.refl⟩
 · rintro acc st' ⟨r,rfl,hl,hr,B',U⟩
   have hl:r.length=w:=by simpa using hl
   exact⟨trivial,k r st' hl hr B' U⟩
 · rintro x rest acc st' ⟨r,rfl,hl,hr,B',U⟩ next
   have hl2:r.length<w:=by simp at hl;omega
   refine⟨trivial,_,congrFun hs x,?_⟩
   refine ei x st' _ ⟨n,kd,rfl,B',k0,k1,fun y st2 a B2 U2=>?_⟩
   show df _ _ _ _ _ _ _ _ _
   rw[ints_app]
   refine next _ _ ⟨r++[y],rfl,by simp at hl⊢;omega,fun z hz=>?_,B2,U.trans U2⟩
   rcases List.mem_append.mp hz with h|h
   · exact hr z h
   · have:z=y:=by simpa using h
     subst this;exact a
theorem vM:∀ds st K,gE ds st K→ds.length=4∧xS {nx:=fun _ st'=>K .aP st',rt:=K} (bx ko ds) st:=by
 rintro ds st K ⟨n,m,w,kd,rfl,B,hm,hw,k0,k1,k⟩
 refine⟨rfl,?_⟩
 refine fq ⟨by omega,by omega⟩ ⟨dJ (by rw[cX];omega),?_⟩
 rw[Int.toNat_natCast]
 refine g_ (fun rest acc st'=>∃A:List (List Int),acc=A.map dy∧A.length+rest.length=m∧(∀r∈A,r.length=w)∧FL A∧Lf st' n∧Upd st n st') ?_ ?_ _ _ _ ⟨[],rfl,by rw[cX];simp,by simp,fun _ h=>by simp at h,B,Upd.refl⟩
 · rintro acc st' ⟨A,rfl,hl,hA,hBd,B',U⟩
   have hl:A.length=m:=by simpa using hl
   exact⟨trivial,fZ rfl (k A st' ⟨hl,hA⟩ hBd B' U)⟩
 · rintro x rest acc st' ⟨A,rfl,hl,hA,hBd,B',U⟩ next
   have hl2:A.length<m:=by simp at hl;omega
   refine⟨trivial,_,rfl,?_⟩
   refine fq ⟨by omega,by omega⟩ ⟨dJ (by rw[cX];omega),?_⟩
   rw[Int.toNat_natCast]
   refine A6 (n:=n) (kd:=kd) (fun x st' K' h=>h) B' k0 k1 rfl fun r st2 hr1 hr2 B2 U2=>?_
   refine fZ rfl ?_
   show df _ _ _ _ _ _ _ _ _
   rw[Bt]
   refine next _ _ ⟨A++[r],rfl,by simp at hl⊢;omega,fun q hq=>?_,fun q hq=>?_,B2,U.trans U2⟩
   · rcases List.mem_append.mp hq with h|h
     · exact hA q h
     · have:q=r:=by simpa using h
       subst this;exact hr1
   · rcases List.mem_append.mp hq with h|h
     · exact hBd q h
     · have:q=r:=by simpa using h
       subst this;exact hr2
noncomputable def iB:cY:=fun ds st K=>∃(n:Nat),ds=[.ref n]∧Lf st n∧∀A N w st',Dr A N w→Lf st' n→Upd st n st'→K (dP A) st'
noncomputable def jR:List Str:=["_law_left_here","_law_kind","_law_many","_law_wide"]
noncomputable def vN:DS:=(aD (aX 1 (aj bO (iz (ag (dC (.int 0)) (ag (dC (.int 0)) (ag (dC (.int 1)) (ag (dC (.int 1)) (ag (dC (.int 2)) (ag (dC (.int 2)) (ag (dC (.int 3)) (ag (dC (.int 4)) aw))))))))) (bg bY (ag (aa 0) (ag (dC (.int 8)) aw)))))
 (aD (aX 2 (aj cu (dC (.int 1)) (bg bY (ag (aa 0) (ag (dC (.int 4)) aw)))))
 (aD (aX 3 (aj cu (aa 2) (bg bY (ag (aa 0) (ag (dC (.int 3)) aw)))))
 (aD (gX (dg (aj jz (aa 1) (dC (.int 3)))) (Ao 2 3 (ag (aj cu (dC (.int 1)) (aj ib (aa 2) (dC (.int 2)))) (ag (aj cu (dC (.int 2)) (aj ib (aa 3) (dC (.int 2)))) aw))) fT)
 (aD (gX (dg (aj jz (aa 1) (dC (.int 4)))) (aD (aX 2 (aj cu (dC (.int 7)) (aj ib (aa 2) (dC (.int 2)))))
 (aX 3 (dZ rY (ag (aa 2) (ag (aj cu (dC (.int 7)) (aj ib (aa 3) (dC (.int 2)))) aw))))) fT)
 (cC (bg gE (ag (aa 0) (ag (aa 2) (ag (aa 3) (ag (aa 1) aw)))))))))))
theorem vk:∀ds st K,iB ds st K→ds.length=1∧vN {nx:=fun _ st'=>K .aP st',rt:=K} (bx jR ds) st:=by
 rintro ds st K ⟨n,rfl,L,k⟩
 refine⟨rfl,?_⟩
 refine⟨Nat.le_of_ble_eq_true rfl,n,8,rfl,L,by decide,by decide,fun r st1 r0 r1 L1 U1=>?_⟩
 have hk:∃kd:Int,0≤kd∧kd<5∧dY [D.int 0,.int 0,.int 1,.int 1,.int 2,.int 2,.int 3,.int 4] r=some (.int kd):=by
  have e:r=0∨r=1∨r=2∨r=3∨r=4∨r=5∨r=6∨r=7:=by omega
  rcases e with rfl|rfl|rfl|rfl|rfl|rfl|rfl|rfl<;>exact⟨_,by decide,by decide,rfl⟩
 obtain⟨kd,k0,k1,ek⟩:=hk
 refine aZ rfl ek ?_
 refine⟨n,4,rfl,L1,by decide,by decide,fun a st2 a0 a1 L2 U2=>cK ?_⟩
 refine⟨n,3,rfl,L2,by decide,by decide,fun b st3 b0 b1 L3 U3=>cK ?_⟩
 have U:=(U1.trans U2).trans U3
 have fin:∀(N w:Nat),1≤N→N≤8→w≤8→(cC (bg gE (ag (aa 0) (ag (aa 2) (ag (aa 3) (ag (aa 1) aw)))))) {nx:=fun _ st'=>K .aP st',rt:=K} [some (.ref n),some (.int kd),some (.int N),some (.int w)] st3:=fun N w n1 hN hw=>
  ⟨n,N,w,kd,rfl,L3,hN,hw,k0,k1,fun A st4 hA bA L4 U4=>k A N w st4 ⟨hA,hN,by omega,bA,n1⟩ L4 (U.trans U4)⟩
 have fin2:∀(N w:Int),1≤N→N≤8→0≤w→w≤8→(cC (bg gE (ag (aa 0) (ag (aa 2) (ag (aa 3) (ag (aa 1) aw)))))) {nx:=fun _ st'=>K .aP st',rt:=K} [some (.ref n),some (.int kd),some (.int N),some (.int w)] st3:=fun N w h1 h2 h3 h4=>by
  have:=fin N.toNat w.toNat (by omega) (by omega) (by omega)
  rw[Int.toNat_of_nonneg (show 0≤N by omega),Int.toNat_of_nonneg h3]at this
  exact this
 have md:∀x:Int,0≤x.fmod 2∧x.fmod 2<2:=fun x=>⟨Int.fmod_nonneg_of_pos _ (by decide),Int.fmod_lt_of_pos _ (by decide)⟩
 refine eq2 (fun h=>jo ?_) fun h=>?_
 · refine jv (by decide) (cK (jv (by decide) (cK ?_)))
   have m1:=md (1+a)
   have m2:=md (1+a+b)
   refine Ca (by omega) ?_
   exact fin2 _ _ (by omega) (by omega) (by omega) (by omega)
 · refine eq2 (fun h=>jo ?_) fun h=>fin2 _ _ (by omega) (by omega) (by omega) (by omega)
   have m1:=md (1+a)
   have m2:=md (1+a+b)
   refine jv (by decide) (cK (jv (by decide) (cK (Aa ?_))))
   refine fin2 _ _ (by omega) (by omega) ?_ ?_
   · split<;>omega
   · split<;>omega
noncomputable def fQ:cY:=mV
noncomputable def lF:List Str:=["_law_one","_law_other"]
noncomputable def yx:DS:=(cC (dZ rO (ag (fc (nW (ag (aa 0) (ag (aa 1) aw))) [none,none] (jj 0 1) cZ (aj bN (aa 0) (aa 1))) aw)))
theorem xk:∀ds st K,fQ ds st K→ds.length=2∧yx {nx:=fun _ st'=>K .aP st',rt:=K} (bx lF ds) st:=zo
theorem rQ{m:Nat}:∀ {a b:List Int},(∀x∈a,x.natAbs≤m)→(∀x∈b,x.natAbs≤m)→(Mx.fz a b).natAbs≤a.length*(m*m)
 | [],_,_,_=>by show(0:Int).natAbs≤_;simp
 |_::_,[],_,_=>by show(0:Int).natAbs≤_;simp
 |x::a,y::b,h1,h2=>by
  have ih:=rQ (a:=a) (b:=b) (fun z hz=>h1 z (List.mem_cons_of_mem _ hz)) fun z hz=>h2 z (List.mem_cons_of_mem _ hz)
  have e:Mx.fz (x::a) (y::b)=x*y+Mx.fz a b:=rfl
  have h3:(x*y).natAbs≤m*m:=by
   rw[Int.natAbs_mul]
   exact Nat.mul_le_mul (h1 x List.mem_cons_self) (h2 y List.mem_cons_self)
  have h4:=Int.natAbs_add_le (x*y) (Mx.fz a b)
  rw[e,List.length_cons,Nat.add_mul,Nat.one_mul]
  omega
theorem Dr.mem{A:List (List Int)}{N w i:Nat}(h:Dr A N w)(hi:i<N):A.getD i []∈A:=by
 have:=h.is.len
 rw[Mx.bj (by omega)];exact List.getElem_mem _
theorem Dr.st{A:List (List Int)}{N w:Nat}(h:Dr A N w):St A N w where
 is:=h.is
 wd:=by have:=h.wd;omega
 sm:=fun r hr x hx=>by have:=h.bd r hr x hx;unfold Sm at this;omega
 gm:={
  le:=h.le
  bd:=fun r c hr hc=>by
   have q:∀i,i<N→∀x∈A.getD i [],x.natAbs≤1000000000000:=fun i hi x hx=>by have:=h.bd _ (h.mem hi) x hx;unfold Sm at this;omega
   have h1:=rQ (q r hr) (q c hc)
   have h2:=h.is.jf _ (h.mem hr)
   have h3:=h.wd
   unfold Mx.ab
   rw[h2]at h1
   have h4:w*(1000000000000*1000000000000)≤9*(1000000000000*1000000000000):=Nat.mul_le_mul_right _ h3
   exact Nat.le_trans h1 (Nat.le_trans h4 (by decide))
  sym:=Mx.iU A}
theorem FF{p:Nat}(h:p≤8):(8*2^748)^p≤2^6100:=by
 have e:8*2^748=2^751:=by rw[show 751=3+748 from rfl,Nat.pow_add]
 rw[e,←Nat.pow_mul]
 exact Nat.pow_le_pow_right (by decide) (by omega)
structure wL(G:Mx.Fn)(n:Nat):Prop where
 le:n≤8
 bd:∀r c,r<n→c<n→(G r c).natAbs≤2^748
 sym:∀i j,G i j=G j i
theorem wL.gx{G:Mx.Fn}{n p i j:Nat}(h:wL G n)(hp:p<n)(hi:i<n)(hj:j<n):(Mx.gx G p (G i) j).natAbs≤2^6100:=Nat.le_trans (Mx.zf h.le h.bd hp hi hj) (FF (by have:=h.le;omega))
theorem wL.D{G:Mx.Fn}{n p:Nat}(h:wL G n)(hp:p≤n):(Mx.D p G).natAbs≤2^6100:=Nat.le_trans (Mx.qs (by have:=h.le;omega) fun r c hr hc=>h.bd r c (by omega) (by omega)) (FF (by have:=h.le;omega))
structure vb(A:List (List Int))(N w:Nat):Prop where
 is:Mx.cz N w A
 wd:w≤1000
 sm:∀r∈A,∀x∈r,x.natAbs≤2^400000
 gm:wL (Mx.ab A) N
theorem vb.mem{A:List (List Int)}{N w i:Nat}(h:vb A N w)(hi:i<N):A.getD i []∈A:=by
 have:=h.is.len
 rw[Mx.bj (by omega)];exact List.getElem_mem _
theorem vV{A:List (List Int)}{N w i j:Nat}(h:vb A N w)(hi:i<N)(hj:j<N):∀a∈A.getD i [],∀b∈A.getD j [],IntMulOk a b:=fun a ha b hb=>dc (h.sm _ (h.mem hi) a ha) (h.sm _ (h.mem hj) b hb) (by decide) (by decide)
theorem St.Fq{A:List (List Int)}{N w:Nat}(h:St A N w):vb A N w where
 is:=h.is
 wd:=h.wd
 sm:=fun r hr x hx=>Nat.le_trans (Nat.le_of_lt (h.sm r hr x hx)) (Nat.pow_le_pow_right (by decide) (by decide))
 gm:=⟨h.gm.le,fun r c hr hc=>Nat.le_trans (h.gm.bd r c hr hc) (Nat.le_trans (show vX≤2^90 by decide) (Nat.pow_le_pow_right (by decide) (by decide))),h.gm.sym⟩
structure Own(G:Mx.Fn)(N:Nat)(st:ae)(g kn:Nat)(cs:List Nat):Prop where
 eg:st[g]?=some (Cell.lst (au ((List.range (N+1)).map fun q=>Mx.D q G)))
 ek:st[kn]?=some (Cell.lst (cs.map D.ref))
 lc:cs.length=N
 row:∀j c,cs[j]?=some c→st[c]?=some (Cell.lst (au (Mx.aO G j)))
noncomputable def iX:cY:=fun ds st K=>∃(A:List (List Int)) (N w:Nat),ds=[dP A]∧vb A N w∧(∀st',Ext st st'→(∃k,k≤N∧Mx.D k (Mx.ab A)=0)→K .aP st')∧∀st' g kn cs,Ext st st'→(∀k,k≤N→Mx.D k (Mx.ab A)≠0)→Own (Mx.ab A) N st' g kn cs→K (.tup [.ref g,.ref kn]) st'
noncomputable def lH:List Str:=["_law_steps","_law_grown","_law_known","_law_step","_law_found","_law_j","_law_told","_law_other","_law_k","_law_less"]
noncomputable def y_:DS:=(aD (aX 1 (kL (ag (dC (.int 1)) aw)))
 (aD (aX 2 (kL aw))
 (aD (fE (iq (aa 0)) (bB 3) (aD (aX 4 (kL aw))
 (aD (fE (de (ag (aj cu (dZ iQ (ag (aa 2) aw)) (dC (.int 1))) aw)) (bB 5) (aD (aX 6 (bg fQ (ag (aa 3) (ag (aj bO (aa 0) (aa 5)) aw))))
 (aD (aX 7 (aj bO (aj oV (aa 2) (iz (ag (aa 4) aw))) (aa 5)))
 (aD (fE (de (ag (aa 5) aw)) (bB 8) (aD (aX 9 (aj bN (aj bO (aa 4) (aa 8)) (aj bO (aa 7) (aa 8))))
 (aX 6 (aj gY (aj c_ (aj bN (aj bO (aa 1) (aj cu (aa 8) (dC (.int 1)))) (aa 6)) (aa 9)) (aj bO (aa 1) (aa 8))))))
 (fU (fO (aa 4) (aa 6)))))))
 (aD (gX (dg (aj jz (aj bO (aa 4) (lM iy (dC (.int 1)))) (dC (.int 0)))) (cC (dC .aP)) fT)
 (aD (fU (fO (aa 1) (aj bO (aa 4) (lM iy (dC (.int 1))))))
 (fU (fO (aa 2) (aa 4))))))))
 (cC (w9 (ag (aa 1) (ag (aa 2) aw)))))))
theorem qt{A:List (List Int)}{j:Nat}(h:j<A.length):dY (A.map dy) (j:Int)=some (dy (A.getD j [])):=by
 refine gR ?_
 rw[List.getElem?_map,List.getElem?_eq_getElem h,Mx.bj h];rfl
theorem Ga{G:Mx.Fn}{n i j g f o:Nat}{gl fl ol:List Int}{d0 d2 d3 d5:D}{st:ae}{E:jr}{v8 v9:Option D}(gm:wL G n)(hi:i<n)(hj:j≤i)(hD:∀k,k≤i→Mx.D k G≠0)
 (eg:st[g]?=some (.lst (au gl))) (ef:st[f]?=some (.lst (au fl))) (eo:st[o]?=some (.lst (au ol))) (lg:gl.length=i+1) (lf:fl.length=j) (lo:j≤ol.length)
 (hg:∀k,k≤i→gl.getD k 0=Mx.D k G) (hf:∀k,k<j→fl.getD k 0=Mx.lam G i k) (ho:∀k,k<j→ol.getD k 0=Mx.lam G j k)
 (k:∀v8 v9,E.nx [some d0,some (.ref g),some d2,some d3,some (.ref f),some d5,some (.int (Mx.lam G i j)),some (.ref o),v8,v9] st):
 fE (de (ag (dC (.int j)) aw)) (bB 8) (aD (aX 9 (aj bN (aj bO (aa 4) (aa 8)) (aj bO (aa 7) (aa 8))))
 (aX 6 (aj gY (aj c_ (aj bN (aj bO (aa 1) (aj cu (aa 8) (dC (.int 1)))) (aa 6)) (aa 9)) (aj bO (aa 1) (aa 8))))) E [some d0,some (.ref g),some d2,some d3,some (.ref f),some d5,some (.int (G i j)),some (.ref o),v8,v9] st:=by
 have hn:=gm.le
 refine fq ⟨by omega,by omega⟩ ?_
 rw[Int.toNat_natCast]
 refine hJ j (fun q σ st'=>st'=st∧∃v8 v9,σ=[some d0,some (.ref g),some d2,some d3,some (.ref f),some d5,some (.int (Mx.gx G q (G i) j)),some (.ref o),v8,v9]) ?_ ?_ ⟨rfl,v8,v9,by rw[Mx.kC]⟩
 · rintro σ st' ⟨rfl,v8,v9,rfl⟩
   exact k v8 v9
 · rintro q σ st' rest hq ⟨rfl,v8,v9,rfl⟩ next
   refine⟨_,rfl,?_⟩
   have b1:=gm.D (p:=q+1) (by omega)
   have b2:=gm.gx (p:=q) (i:=i) (j:=j) (by omega) hi (by omega)
   have b3:(Mx.lam G i q).natAbs≤2^6100:=gm.gx (by omega) hi (by omega)
   have b4:(Mx.lam G j q).natAbs≤2^6100:=gm.gx (by omega) (by omega) (by omega)
   have b5:=gm.D (p:=q) (by omega)
   have hd:=hD q (by omega)
   have e1:=aB ef
   have e2:=aB eo
   have e3:=aB eg
   refine aZ e1 (jG (by omega)) (aZ e2 (jG (by omega)) ?_)
   rw[hf q hq,ho q hq]
   refine b_ (dc b3 b4 (by decide) (by decide)) (cK ?_)
   refine aZ e3 (e:= .int (Mx.D (q+1) G)) (by have:=jG (r:=gl) (k:=q+1) (by omega);rw[hg (q+1) (by omega)]at this;exact this) ?_
   refine b_ (dc b1 b2 (by decide) (by decide)) (cN (aZ e3 (jG (by omega)) ?_))
   rw[hg q (by omega)]
   refine iY hd (qk b5 hd (by decide)) ?_
   rw[Mx.vv gm.sym hd]
   exact next _ _ ⟨rfl,_,_,rfl⟩
theorem qg(G:Mx.Fn)(i q:Nat):((List.range q).map fun j=>Mx.lam G i j).length=q:=by simp
theorem zg(G:Mx.Fn)(i:Nat):((List.range (i+1)).map fun j=>Mx.lam G i j)=Mx.aO G i:=rfl
theorem Dp{A:List (List Int)}{N w i g kn f:Nat}{gl:List Int}{cs:List Nat}{st:ae}{E:jr}{v5 v6 v7 v8 v9:Option D}(hS:vb A N w)(hi:i<N)(hD:∀k,k≤i→Mx.D k (Mx.ab A)≠0)
 (eg:st[g]?=some (.lst (au gl))) (ek:st[kn]?=some (.lst (cs.map D.ref))) (ef:st[f]?=some (.lst [])) (lg:gl.length=i+1) (lc:cs.length=i) (hgf:g≠f) (hkf:kn≠f)
 (hg:∀k,k≤i→gl.getD k 0=Mx.D k (Mx.ab A)) (hc:∀j c,cs[j]?=some c→c≠f∧st[c]?=some (.lst (au (Mx.aO (Mx.ab A) j))))
 (k:∀st' v5 v6 v7 v8 v9,Upd st f st'→st'[f]?=some (.lst (au (Mx.aO (Mx.ab A) i)))→E.nx [some (dP A),some (.ref g),some (.ref kn),some (dy (A.getD i [])),some (.ref f),v5,v6,v7,v8,v9] st'):
 (fE (de (ag (aj cu (dZ iQ (ag (aa 2) aw)) (dC (.int 1))) aw)) (bB 5) (aD (aX 6 (bg fQ (ag (aa 3) (ag (aj bO (aa 0) (aa 5)) aw))))
 (aD (aX 7 (aj bO (aj oV (aa 2) (iz (ag (aa 4) aw))) (aa 5)))
 (aD (fE (de (ag (aa 5) aw)) (bB 8) (aD (aX 9 (aj bN (aj bO (aa 4) (aa 8)) (aj bO (aa 7) (aa 8))))
 (aX 6 (aj gY (aj c_ (aj bN (aj bO (aa 1) (aj cu (aa 8) (dC (.int 1)))) (aa 6)) (aa 9)) (aj bO (aa 1) (aa 8))))))
 (fU (fO (aa 4) (aa 6))))))) E [some (dP A),some (.ref g),some (.ref kn),some (dy (A.getD i [])),some (.ref f),v5,v6,v7,v8,v9] st:=by
 have hn:=hS.gm.le
 have hl:=hS.is.len
 have hw:=hS.wd
 refine iE (aB ek) (cK ?_)
 have e0:(((cs.map D.ref).length:Nat):Int)+1=((i+1:Nat):Int):=by rw[List.length_map,lc];rfl
 rw[e0]
 refine fq ⟨by omega,by omega⟩ ?_
 rw[Int.toNat_natCast]
 refine hJ (i+1) (fun q σ st'=>Upd st f st'∧st'[f]?=some (.lst (au ((List.range q).map fun j=>Mx.lam (Mx.ab A) i j)))∧∃v5 v6 v7 v8 v9,σ=[some (dP A),some (.ref g),some (.ref kn),some (dy (A.getD i [])),some (.ref f),v5,v6,v7,v8,v9]) ?_ ?_ ⟨Upd.refl,ef,_,_,_,_,_,rfl⟩
 · rintro σ st' ⟨U,e,v5,v6,v7,v8,v9,rfl⟩
   rw[zg]at e
   exact k st' v5 v6 v7 v8 v9 U e
 · rintro q σ st1 rest hq ⟨U,e,v5,v6,v7,v8,v9,rfl⟩ next
   refine⟨_,rfl,?_⟩
   refine aZ rfl (qt (by omega)) ?_
   have wi:=hS.is.jf _ (hS.mem hi)
   refine⟨_,_,A.getD i [],A.getD q [],rfl,rfl,rfl,by omega,vV hS hi (by omega),?_⟩
   have ek1:=(U.same kn hkf).trans ek
   have eg1:=(U.same g hgf).trans eg
   refine⟨Nat.le_of_ble_eq_true rfl,Dg ek1 (by rw[sizeLine_eq,List.length_map];simp;omega) ?_⟩
   have hlt:=(List.getElem?_eq_some_iff.mp e).1
   have ho:∃(o:Nat) (ol:List Int),(cs.map D.ref++[D.ref f])[q]?=some (.ref o)∧st1[o]?=some (.lst (au ol))∧q≤ol.length∧∀k,k<q→ol.getD k 0=Mx.lam (Mx.ab A) q k:=by
    by_cases hqi:q<i
    · have ec:cs[q]?=some cs[q]:=List.getElem?_eq_getElem (by omega)
      obtain⟨c1,c2⟩:=hc q _ ec
      refine⟨cs[q],Mx.aO (Mx.ab A) q,?_,(U.same _ c1).trans c2,by rw[Mx.d_];omega,fun k hk=>Mx.iR _ (by omega)⟩
      rw[List.getElem?_append_left (by rw[List.length_map];omega),List.getElem?_map,ec];rfl
    · have:q=i:=by omega
      subst this
      refine⟨f,_,?_,e,by rw[qg];omega,fun k hk=>mm _ hk⟩
      rw[List.getElem?_append_right (by rw[List.length_map];omega),List.length_map,lc,Nat.sub_self];rfl
   obtain⟨o,ol,o1,o2,o3,o4⟩:=ho
   refine aZ rfl (gR o1) ?_
   refine Ga hS.gm hi (by omega) hD eg1 e o2 lg (qg _ _ _) o3 hg (fun k hk=>mm _ hk) o4 fun v8 v9=>?_
   refine kJ (by rfl) e (ql rfl (jH e (by rw[sizeLine_eq,List.length_map,qg];omega) ?_))
   refine next _ _ ⟨U.trans Upd.set,?_,_,_,_,_,_,rfl⟩
   rw[List.getElem?_set_self hlt,pY]
theorem Jx{G:Mx.Fn}{n k:Nat}(h:k<n):((List.range n).map fun q=>Mx.D q G).getD k 0=Mx.D k G:=by rw[Mx.bj (by simpa using h),List.getElem_map,List.getElem_range]
theorem Ho(G:Mx.Fn)(q:Nat):au ((List.range q).map fun j=>Mx.D j G)++[.int (Mx.D q G)]=au ((List.range (q+1)).map fun j=>Mx.D j G):=by rw[List.range_succ,List.map_append];simp[au]
theorem wY:∀ds st K,iX ds st K→ds.length=1∧y_ {nx:=fun _ st'=>K .aP st',rt:=K} (bx lH ds) st:=by
 rintro ds st K ⟨A,N,w,rfl,hS,k1,k2⟩
 refine⟨rfl,?_⟩
 have hn:=hS.gm.le
 have hl:=hS.is.len
 refine⟨Nat.le_of_ble_eq_true rfl,Nat.le_of_ble_eq_true rfl,?_⟩
 have X0:Ext st (st++[.lst [.int 1]]++[.lst []]):=Ext.push.trans Ext.push
 have eg0:(st++[Cell.lst [.int 1]]++[Cell.lst []])[st.length]?=some (.lst (au ((List.range (0+1)).map fun q=>Mx.D q (Mx.ab A)))):=by
  rw[List.append_assoc,List.getElem?_append_right (Nat.le_refl _),Nat.sub_self];rfl
 have ek0:(st++[Cell.lst [.int 1]]++[Cell.lst []])[st.length+1]?=some (.lst (([]:List Nat).map D.ref)):=by
  rw[List.append_assoc,List.getElem?_append_right (by omega)]
  have:st.length+1-st.length=1:=by omega
  rw[this];rfl
 have hlen0:(st++[Cell.lst [.int 1]]++[Cell.lst []]).length=st.length+2:=by simp
 have hD0:∀k,k≤0→Mx.D k (Mx.ab A)≠0:=fun k hk=>by
  have:k=0:=by omega
  rw[this,Mx.gI];decide
 have elen:(st++[Cell.lst [.int 1]]).length=st.length+1:=by simp
 refine mI ?_
 refine fk (fun rest σ st'=>∃(i:Nat) (cs:List Nat) (v3 v4 v5 v6 v7 v8 v9:Option D),i≤N∧σ=[some (dP A),some (.ref st.length),some (.ref (st.length+1)),v3,v4,v5,v6,v7,v8,v9]∧rest=(A.drop i).map dy∧Ext st st'∧st.length+2≤st'.length∧st'[st.length]?=some (.lst (au ((List.range (i+1)).map fun q=>Mx.D q (Mx.ab A))))∧st'[st.length+1]?=some (.lst (cs.map D.ref))∧cs.length=i∧(∀k,k≤i→Mx.D k (Mx.ab A)≠0)∧∀j c,cs[j]?=some c→st.length+2≤c∧c<st'.length∧st'[c]?=some (.lst (au (Mx.aO (Mx.ab A) j)))) ?_ ?_ _ _ _ ⟨0,[],none,none,none,none,none,none,none,Nat.zero_le _,by rw[elen];rfl,rfl,X0,by rw[hlen0];omega,eg0,ek0,rfl,hD0,fun j c h=>by simp at h⟩
 · rintro σ st1 ⟨i,cs,v3,v4,v5,v6,v7,v8,v9,hi,rfl,hr,X,hlen,eg,ek,lc,hD,hc⟩
   refine⟨trivial,?_⟩
   have:i=N:=by
    have:=congrArg List.length hr
    simp at this
    omega
   subst this
   exact⟨Nat.le_of_ble_eq_true rfl,k2 st1 _ _ cs X hD ⟨eg,ek,lc,fun j c h=>(hc j c h).2.2⟩⟩
 · rintro x rest σ st1 ⟨i,cs,v3,v4,v5,v6,v7,v8,v9,hi,rfl,hr,X,hlen,eg,ek,lc,hD,hc⟩ next
   have hiN:i<N:=by
    have:=congrArg List.length hr
    simp at this
    omega
   rw[List.drop_eq_getElem_cons (show i<A.length by omega),List.map_cons,List.cons.injEq]at hr
   obtain⟨rfl,rfl⟩:=hr
   have er:A[i]=A.getD i []:=(Mx.bj (by omega)).symm
   rw[er]
   refine⟨trivial,_,rfl,?_⟩
   refine⟨Nat.le_of_ble_eq_true rfl,?_⟩
   have XP:Ext st1 (st1++[.lst []]):=Ext.push
   have ef:(st1++[Cell.lst []])[st1.length]?=some (.lst []):=by simp
   refine Dp (E:={nx:=_,rt:=K,ct:=_,bk:=_}) (i:=i) (g:=st.length) (kn:=st.length+1) (f:=st1.length) (cs:=cs) (gl:=(List.range (i+1)).map fun q=>Mx.D q (Mx.ab A)) hS hiN hD ((XP.same _ (by omega)).trans eg) ((XP.same _ (by omega)).trans ek) ef (by simp) lc (by omega) (by omega) (fun k hk=>Jx (by omega)) (fun j c h=>by
    obtain⟨h1,h2,h3⟩:=hc j c h
    exact⟨by omega,(XP.same _ h2).trans h3⟩) fun st2 v5 v6 v7 v8 v9 U ef2=>?_
   have l2:st2.length=st1.length+1:=by rw[U.len];simp
   have it:=aB ef2
   have X2:Ext st st2:=⟨by omega,fun m hm=>by rw[U.same m (by omega),XP.same m (by omega)];exact X.same m hm⟩
   refine ia (aZ it (kz (Mx.d_ _ i)) ?_)
   rw[Mx.iR _ (Nat.le_refl i),Mx.dz]
   refine eq2 (fun h=>jo (k1 st2 X2 ⟨i+1,by omega,h⟩)) fun h=>?_
   have eg2:st2[st.length]?=some (.lst (au ((List.range (i+1)).map fun q=>Mx.D q (Mx.ab A)))):=by rw[U.same _ (by omega),XP.same _ (by omega)];exact eg
   have ek2:st2[st.length+1]?=some (.lst (cs.map D.ref)):=by rw[U.same _ (by omega),XP.same _ (by omega)];exact ek
   refine kJ (by rfl) eg2 (ia (aZ it (kz (Mx.d_ _ i)) ?_))
   rw[Mx.iR _ (Nat.le_refl i),Mx.dz]
   refine jH eg2 (by rw[sizeLine_eq];simp;omega) ?_
   rw[Ho]
   have ek3:(st2.set st.length (.lst (au ((List.range (i+1+1)).map fun q=>Mx.D q (Mx.ab A)))))[st.length+1]?=some (.lst (cs.map D.ref)):=by rw[List.getElem?_set_ne (by omega)];exact ek2
   refine kJ (by rfl) ek3 (ql rfl (jH ek3 (by rw[sizeLine_eq];simp;omega) ?_))
   refine next _ _ ⟨i+1,cs++[st1.length],_,_,_,_,_,_,_,hiN,rfl,rfl,?_,by simp;omega,?_,?_,by simp[lc],fun q hq=>?_,fun j c hj=>?_⟩
   · exact(X2.set (Nat.le_refl _)).set (by omega)
   · rw[List.getElem?_set_ne (by omega),List.getElem?_set_self (by omega)]
   · rw[List.getElem?_set_self (by rw[List.length_set];omega),List.map_append];rfl
   · by_cases hqi:q=i+1
     · rw[hqi];exact h
     · exact hD q (by omega)
   · by_cases hjc:j<cs.length
     · rw[List.getElem?_append_left hjc]at hj
       obtain⟨h1,h2,h3⟩:=hc j c hj
       refine⟨h1,by simp;omega,?_⟩
       rw[List.getElem?_set_ne (by omega),List.getElem?_set_ne (by omega),U.same _ (by omega),XP.same _ h2]
       exact h3
     · have hlt:=(List.getElem?_eq_some_iff.mp hj).1
       have:j=i:=by simp at hlt;omega
       subst this
       rw[List.getElem?_append_right (by omega),lc,Nat.sub_self]at hj
       simp at hj
       subst hj
       refine⟨by omega,by simp;omega,?_⟩
       rw[List.getElem?_set_ne (by omega),List.getElem?_set_ne (by omega)]
       exact ef2
noncomputable def gL:cY:=fun ds st K=>∃(P Q:List (List Int)) (m p n:Nat),ds=[.lst (P.map ba),dP Q]∧Mx.cz m p P∧Mx.cz p n Q∧1≤p∧m≤1000∧p≤1000∧n≤1000∧(∀r∈P,∀x∈r,x.natAbs≤2^400000)∧(∀r∈Q,∀x∈r,x.natAbs≤2^400000)∧∀st',Ext st st'→K (dP (Mx.mulM P Q n)) st'
noncomputable def iM:List Str:=["_law_one","_law_other","_law_found","_law_weights_here","_law_made","_law_weight","_law_row"]
noncomputable def tw:DS:=(aD (aX 2 (kL aw))
 (aD (fE (iq (aa 0)) (bB 3) (aD (aX 4 (aj bN (iz (ag (dC (.int 0)) aw)) (dZ iQ (ag (aj bO (aa 1) (dC (.int 0))) aw))))
 (aD (fE (nW (ag (aa 3) (ag (aa 1) aw))) (jj 5 6) (aX 4 (fc (nW (ag (aa 4) (ag (aa 6) aw))) [none,none,some 5] (jj 0 1) cZ (aj cu (aa 0) (aj bN (aa 2) (aa 1))))))
 (fU (fO (aa 2) (dZ fV (ag (aa 4) aw)))))))
 (cC (dZ fV (ag (aa 2) aw)))))
theorem qQ{t:Int}:∀(r s:List Int),(fL (au r) (au s)).map (fun d=>match d with| .tup [.int a,.int b]=> .int (a+t*b)|_=> .aP)=au (Mx.fe r t s)
 | [],_=>rfl
 |_::_,[]=>rfl
 |a::r,b::s=>by
  have:=qQ (t:=t) r s
  unfold fL Mx.fe at this⊢
  simp only[au,List.map_cons,List.zip_cons_cons,List.zipWith_cons_cons]at this⊢
  rw[this]
theorem r9:∀ds st K,gL ds st K→ds.length=2∧tw {nx:=fun _ st'=>K .aP st',rt:=K} (bx iM ds) st:=by
 rintro ds st K ⟨P,Q,m,p,n,rfl,hP,hQ,hp,hm,hp2,hn,bP,bQ,kk⟩
 refine⟨rfl,?_⟩
 have lP:=hP.len
 have lQ:=hQ.len
 refine⟨Nat.le_of_ble_eq_true rfl,?_⟩
 have X0:Ext st (st++[.lst []]):=Ext.push
 have e0:(st++[Cell.lst []])[st.length]?=some (.lst (([]:List (List Int)).map dy)):=by simp
 refine rE ?_
 refine fk (fun rest σ st'=>∃(P1 P2:List (List Int)) (v3 v4 v5 v6:Option D),P1++P2=P∧rest=P2.map ba∧σ=[some (.lst (P.map ba)),some (dP Q),some (.ref st.length),v3,v4,v5,v6]∧Ext st st'∧st'[st.length]?=some (.lst ((Mx.mulM P1 Q n).map dy))) ?_ ?_ _ _ _ ⟨[],P,none,none,none,none,rfl,rfl,rfl,X0,e0⟩
 · rintro σ st1 ⟨P1,P2,v3,v4,v5,v6,hP12,hr,rfl,X,e⟩
   refine⟨trivial,?_⟩
   match P2,hr with
   | [],_=>
     rw[List.append_nil]at hP12
     subst hP12
     exact fZ (aB e) (kk st1 X)
 · rintro x rest σ st1 ⟨P1,P2,v3,v4,v5,v6,hP12,hr,rfl,X,e⟩ next
   match P2,hr,hP12 with
   |ws::P2,hr,hP12=>
    rw[List.map_cons,List.cons.injEq]at hr
    obtain⟨rfl,rfl⟩:=hr
    have hws:ws∈P:=by rw[←hP12];simp
    have lws:=hP.jf ws hws
    refine⟨trivial,_,rfl,?_⟩
    have h00:Q.getD 0 []∈Q:=by rw[Mx.bj (by omega)];exact List.getElem_mem _
    refine⟨Nat.le_of_ble_eq_true rfl,aZ (e:=dy (Q.getD 0 [])) rfl (qt (j:=0) (by omega)) (iE rfl (wy ⟨by rw[List.length_map];omega,by rw[List.length_map,hQ.jf _ h00];omega,dJ (by rw[List.length_map,hQ.jf _ h00];simp;omega)⟩ ?_))⟩
    rw[List.length_map,hQ.jf _ h00,Int.toNat_natCast,AW]
    refine ot rfl rfl fun ok aT=>?_
    refine fk (fun rest σ st'=>st'=st1∧∃(w2:List Int) (Q2:List (List Int)) (acc:List Int) (v5 v6:Option D),rest=fL (au w2) (Q2.map dy)∧σ=[some (.lst (P.map ba)),some (dP Q),some (.ref st.length),some (ba ws),some (ba acc),v5,v6]∧acc.length=n∧(∀x∈w2,x∈ws)∧(∀r∈Q2,r∈Q)∧Mx.fg w2 Q2 acc=Mx.fg ws Q (List.replicate n 0)) ?_ ?_ _ _ _ ⟨rfl,ws,Q,_,v5,v6,rfl,rfl,by simp,fun x h=>h,fun r h=>h,rfl⟩
    · rintro σ st2 ⟨rfl,w2,Q2,acc,v5,v6,hr,rfl,la,hw2,hQ2,hs⟩
      refine⟨aT _ rfl rfl,?_⟩
      have hacc:acc=Mx.fg ws Q (List.replicate n 0):=by
       match w2,Q2,hr,hs with
       | [],_,_,hs=>exact hs
       |_::_,[],_,hs=>exact hs
       |_::_,_::_,hr,_=>cases hr
      refine kJ (by rfl) e (fZ rfl (jH e (by rw[sizeLine_eq,List.length_map];unfold Mx.mulM;rw[List.length_map];have:=congrArg List.length hP12;simp at this;omega) ?_))
      have hlt:=(List.getElem?_eq_some_iff.mp e).1
      refine next _ _ ⟨P1++[ws],P2,_,_,_,_,by rw[←hP12];simp,rfl,rfl,X.set (Nat.le_refl _),?_⟩
      rw[List.getElem?_set_self hlt,hacc]
      unfold Mx.mulM
      simp
    · rintro x rest σ st2 ⟨rfl,w2,Q2,acc,v5,v6,hr,rfl,la,hw2,hQ2,hs⟩ next2
      match w2,Q2,hr,hs,hw2,hQ2 with
      | [],_,hr,_,_,_=>cases hr
      |_::_,[],hr,_,_,_=>cases hr
      |c::w2,r::Q2,hr,hs,hw2,hQ2=>
       have hz:fL (au (c::w2)) ((r::Q2).map dy)= .tup [.int c,dy r]::fL (au w2) (Q2.map dy):=rfl
       rw[hz,List.cons.injEq]at hr
       obtain⟨rfl,rfl⟩:=hr
       have hrQ:=hQ2 r List.mem_cons_self
       refine⟨aT _ rfl rfl,_,rfl,?_⟩
       refine ot rfl rfl fun ok2 hok2=>⟨dJ (by rw[m6,List.length_map];omega),?_⟩
       refine comp_map (g:=fun d=>match d with| .tup [.int a,.int b]=> .int (a+c*b)|_=> .aP) (hok2 _ rfl rfl) _ (fun d hd K' t=>?_) ?_
       · obtain⟨a,b,ha,hb,rfl⟩:=pJ hd
         exact⟨_,rfl,b_ (dc (bP ws hws c (hw2 c List.mem_cons_self)) (bQ r hrQ b hb) (by decide) (by decide)) (cK t)⟩
       rw[qQ]
       exact next2 _ _ ⟨rfl,w2,Q2,_,_,_,rfl,rfl,by rw[Mx.iP (by rw[la,hQ.jf r hrQ])];exact la,fun x h=>hw2 x (List.mem_cons_of_mem _ h),fun r h=>hQ2 r (List.mem_cons_of_mem _ h),hs⟩
noncomputable def gG:cY:=fun ds st K=>∃(n N:Nat),ds=[.ref n,.int N]∧Lf st n∧N≤8∧∀(W:List (List Int)) st',(∀r∈W,r.length=N)→(∀r∈W,∀x∈r,x.natAbs≤3)→W.length≤125→K (.lst (W.map ba)) st'
noncomputable def iF:List Str:=["_law_left_here","_law_n","_law_found","_law_k","_law_grown","_law_row"]
noncomputable def sX:DS:=(aD (gX (dg (aj pB (aa 1) (dC (.int 3)))) (cC (fc (de (ag (dC (.int 12)) aw)) [none,some 1,some 0] (bB 0) cZ (fc (de (ag (aa 1) aw)) [none,some 2] (bB 0) cZ (aj c_ (bg bY (ag (aa 1) (ag (dC (.int 7)) aw))) (dC (.int 3)))))) fT)
 (aD (aX 2 (iz (ag (iz aw) aw)))
 (aD (fE (de (ag (aa 1) aw)) (bB 3) (aD (aX 4 (iz aw))
 (aD (fE (iq (aa 2)) (bB 5) (aX 4 (aj cu (aa 4) (fc (jC (ag (lM iy (dC (.int 2))) (ag (dC (.int 3)) aw))) [none,some 5] (bB 0) cZ (aj cu (aa 1) (iz (ag (aa 0) aw)))))))
 (aX 2 (aa 4)))))
 (cC (aa 2)))))
theorem zi{n w:Nat}{σc:bJ}{st:ae}{te:DE}{K:List D→ae→Prop}(ei:∀(x:D) (st':ae) (K':DK),bY [.ref n,.int 7] st' (fun d st2=>c_ d (.int 3) st2 K')→te (σc.set 0 (some x)) st' K')(L:Lf st n)(hs:(fun(x:D)=>bB 0 x σc)=fun x=>some (σc.set 0 (some x)))
 (k:∀r st',r.length=w→(∀x∈r,x.natAbs≤3)→Lf st' n→K (au r) st'):
 df (bB 0) cZ te (fun _=>True) σc (cQ 0 w) [] st K:=by
 refine g_ (fun rest acc st'=>∃r:List Int,acc=au r∧r.length+rest.length=w∧(∀x∈r,x.natAbs≤3)∧Lf st' n) ?_ ?_ _ _ _ ⟨[],rfl,by rw[cX];simp,by simp,L⟩
 · rintro acc st' ⟨r,rfl,hl,hr,B'⟩
   have hl:r.length=w:=by simpa using hl
   exact⟨trivial,k r st' hl hr B'⟩
 · rintro x rest acc st' ⟨r,rfl,hl,hr,B'⟩ next
   have hl2:r.length<w:=by simp at hl;omega
   refine⟨trivial,_,congrFun hs x,?_⟩
   refine ei x st' _ ⟨n,7,rfl,B',by decide,by decide,fun y st2 a1 a2 B2 U2=>cN ?_⟩
   show df _ _ _ _ _ _ _ _ _
   rw[ints_app]
   refine next _ _ ⟨r++[y-3],rfl,by simp at hl⊢;omega,fun z hz=>?_,B2⟩
   rcases List.mem_append.mp hz with h|h
   · exact hr z h
   · have:z=y-3:=by simpa using h
     omega
theorem yX{A:List (List Int)}{r:List Int}:A.map ba++[ba r]=(A++[r]).map ba:=by simp
theorem rD:∀ds st K,gG ds st K→ds.length=2∧sX {nx:=fun _ st'=>K .aP st',rt:=K} (bx iF ds) st:=by
 rintro ds st K ⟨n,N,rfl,L,h8,k⟩
 refine⟨rfl,?_⟩
 refine IS (fun h=>jo ?_) fun h=>?_
 · refine fq ⟨by decide,by decide⟩ ⟨dJ (by rw[cX];decide),?_⟩
   refine g_ (fun rest acc st'=>∃A:List (List Int),acc=A.map ba∧A.length+rest.length=12∧(∀r∈A,r.length=N)∧(∀r∈A,∀x∈r,x.natAbs≤3)∧Lf st' n) ?_ ?_ _ _ _ ⟨[],rfl,by rw[cX];rfl,by simp,fun _ h=>by simp at h,L⟩
   · rintro acc st' ⟨A,rfl,hl,hA,hBd,B'⟩
     have hl:A.length=12:=by simpa using hl
     exact⟨trivial,k A st' hA hBd (by omega)⟩
   · rintro x rest acc st' ⟨A,rfl,hl,hA,hBd,B'⟩ next
     refine⟨trivial,_,rfl,?_⟩
     refine fq ⟨by omega,by omega⟩ ⟨dJ (by rw[cX];omega),?_⟩
     rw[Int.toNat_natCast]
     refine zi (n:=n) (fun x st' K' h=>h) B' rfl fun r st2 hr1 hr2 B2=>?_
     show df _ _ _ _ _ _ _ _ _
     rw[yX]
     refine next _ _ ⟨A++[r],rfl,by simp at hl⊢;omega,fun q hq=>?_,fun q hq=>?_,B2⟩
     · rcases List.mem_append.mp hq with h|h
       · exact hA q h
       · have:q=r:=by simpa using h
         subst this;exact hr1
     · rcases List.mem_append.mp hq with h|h
       · exact hBd q h
       · have:q=r:=by simpa using h
         subst this;exact hr2
 · refine⟨Nat.le_of_ble_eq_true rfl,Nat.le_of_ble_eq_true rfl,?_⟩
   refine fq ⟨by omega,by omega⟩ ?_
   rw[Int.toNat_natCast]
   refine hJ N (fun j σ st'=>st'=st∧∃(W:List (List Int)) (v3 v4 v5:Option D),σ=[some (.ref n),some (.int N),some (.lst (W.map ba)),v3,v4,v5]∧(∀r∈W,r.length=j)∧(∀r∈W,∀x∈r,x.natAbs≤3)∧W.length=5^j) ?_ ?_ ⟨rfl,[[]],_,_,_,rfl,by simp,by simp,rfl⟩
   · rintro σ st' ⟨rfl,W,v3,v4,v5,rfl,h1,h2,h3⟩
     refine k W _ h1 h2 ?_
     have:N≤3:=by omega
     rw[h3]
     exact Nat.le_trans (Nat.pow_le_pow_right (by decide) this) (by decide)
   · rintro j σ st' rest hj ⟨rfl,W,v3,v4,v5,rfl,h1,h2,h3⟩ next
     have hW:W.length≤25:=by
      rw[h3]
      exact Nat.le_trans (Nat.pow_le_pow_right (by decide) (show j≤2 by omega)) (by decide)
     refine⟨_,rfl,?_⟩
     refine⟨Nat.le_of_ble_eq_true rfl,rE ?_⟩
     refine fk (fun rest2 σ st2=>st2=st'∧∃(W1 W2 V:List (List Int)) (v5:Option D),W1++W2=W∧rest2=W2.map ba∧σ=[some (.ref n),some (.int N),some (.lst (W.map ba)),some (.int j),some (.lst (V.map ba)),v5]∧(∀r∈V,r.length=j+1)∧(∀r∈V,∀x∈r,x.natAbs≤3)∧V.length=5*W1.length) ?_ ?_ _ _ _ ⟨rfl,[],W,[],_,rfl,rfl,rfl,by simp,by simp,rfl⟩
     · rintro σ st2 ⟨rfl,W1,W2,V,v5,hW12,hr,rfl,g1,g2,g3⟩
       refine⟨trivial,?_⟩
       match W2,hr with
       | [],_=>
         rw[List.append_nil]at hW12
         subst hW12
         exact next _ _ ⟨rfl,V,_,_,_,rfl,g1,g2,by rw[g3,h3,Nat.pow_succ];omega⟩
     · rintro x rest2 σ st2 ⟨rfl,W1,W2,V,v5,hW12,hr,rfl,g1,g2,g3⟩ next2
       match W2,hr,hW12 with
       |r::W2,hr,hW12=>
        rw[List.map_cons,List.cons.injEq]at hr
        obtain⟨rfl,rfl⟩:=hr
        have hrW:r∈W:=by rw[←hW12];simp
        have hl:=congrArg List.length hW12
        rw[List.length_append,List.length_cons]at hl
        refine⟨trivial,_,rfl,?_⟩
        refine ia (oS ⟨by decide,by decide,by decide,by decide⟩ ⟨dJ (by rw[cX];decide),?_⟩)
        refine comp_map (g:=fun d=>match d with| .int x=>ba (r++[x])|_=> .aP) trivial _ (fun d hd K' t=>?_) ?_
        · obtain⟨i,hi,rfl⟩:=List.mem_map.mp (show d∈(List.range 5).map (fun(i:Nat)=>D.int (-2+(i:Int)))from hd)
          refine⟨_,rfl,?_⟩
          refine⟨Nat.le_of_ble_eq_true rfl,r8 (dJ ?_) ?_⟩
          · rw[List.length_map,h1 r hrW];simp;omega
          · rw[ints_app];exact t
        have e5:(cQ (-2) (3- -2:Int).toNat).map (fun d=>match d with| .int x=>ba (r++[x])|_=> .aP)=([-2,-1,0,1,2].map fun x=>r++[x]).map ba:=rfl
        rw[e5]
        refine r8 (dJ (by rw[List.length_map,List.length_map,g3];simp;omega)) ?_
        rw[←List.map_append]
        refine next2 _ _ ⟨rfl,W1++[r],W2,_,_,by rw[←hW12];simp,rfl,rfl,fun q hq=>?_,fun q hq z hz=>?_,by simp;omega⟩
        · rcases List.mem_append.mp hq with h|h
          · exact g1 q h
          · obtain⟨x,_,rfl⟩:=List.mem_map.mp h
            simp[h1 r hrW]
        · rcases List.mem_append.mp hq with h|h
          · exact g2 q h z hz
          · obtain⟨x,hx,rfl⟩:=List.mem_map.mp h
            rcases List.mem_append.mp hz with h5|h5
            · exact h2 r hrW z h5
            · have:z=x:=by simpa using h5
              subst this
              simp at hx
              omega
noncomputable def fx:cY:=fun ds st K=>∃(x y:Int) (N:Nat),ds=[.int x,.int N,.int y]∧N≤8∧x.natAbs≤2^6100∧y.natAbs≤2^6100∧K (.bl (decide (x^N≤y*2^(N*(N-1)/2)))) st
noncomputable def gB:List Str:=["_law_number_here","_law_n","_law_other","_law_made","_law_k"]
noncomputable def pS:DS:=(aD (aX 3 (dC (.int 1)))
 (aD (fE (de (ag (aa 1) aw)) (bB 4) (aX 3 (aj bN (aa 3) (aa 0))))
 (cC (aj zV (aa 3) (aj rT (aa 2) (aj gY (aj bN (aa 1) (aj c_ (aa 1) (dC (.int 1)))) (dC (.int 2))))))))
theorem wJ{x:Int}{m:Nat}(h:x.natAbs≤2^m):∀j,(x^j).natAbs≤2^(m*j)
 |0=>by simp
 |j+1=>by
  rw[Int.pow_succ,Int.natAbs_mul,Nat.mul_succ,Nat.pow_add]
  exact Nat.mul_le_mul (wJ h j) h
theorem Be{N:Nat}(h:N≤8):((N:Int)*((N:Int)-1)).fdiv 2=((N*(N-1)/2:Nat):Int):=by
 have:N=0∨N=1∨N=2∨N=3∨N=4∨N=5∨N=6∨N=7∨N=8:=by omega
 rcases this with rfl|rfl|rfl|rfl|rfl|rfl|rfl|rfl|rfl<;>rfl
theorem ED{N:Nat}(h:N≤8):N*(N-1)/2≤28:=by
 have:N=0∨N=1∨N=2∨N=3∨N=4∨N=5∨N=6∨N=7∨N=8:=by omega
 rcases this with rfl|rfl|rfl|rfl|rfl|rfl|rfl|rfl|rfl<;>decide
theorem t5{a m:Nat}(h:a≤2^m):a<2^(m+1):=Nat.lt_of_le_of_lt h (Nat.pow_lt_pow_right (by decide) (by omega))
theorem pq:∀ds st K,fx ds st K→ds.length=3∧pS {nx:=fun _ st'=>K .aP st',rt:=K} (bx gB ds) st:=by
 rintro ds st K ⟨x,y,N,rfl,h8,hx,hy,k⟩
 refine⟨rfl,?_⟩
 refine fq ⟨by omega,by omega⟩ ?_
 rw[Int.toNat_natCast]
 refine hJ N (fun j σ st'=>st'=st∧∃v4:Option D,σ=[some (.int x),some (.int N),some (.int y),some (.int (x^j)),v4]) ?_ ?_ ⟨rfl,none,by rw[Int.pow_zero];rfl⟩
 · rintro σ st' ⟨rfl,v4,rfl⟩
   refine cN (b_ (fN (by omega) (by omega)) (iY (by decide) (by decide) ?_))
   rw[Be h8]
   have t:=ED h8
   have b:=m7 (t5 hy)
   refine yM ⟨by omega,by omega⟩ (Ii ?_)
   rw[Int.toNat_natCast]
   exact k
 · rintro j σ st' rest hj ⟨rfl,v4,rfl⟩ next
   refine⟨_,rfl,?_⟩
   refine b_ (dc (wJ hx j) hx (by omega) (by decide)) ?_
   rw[←Int.pow_succ]
   exact next _ _ ⟨rfl,_,rfl⟩
noncomputable abbrev xw:cY:=zL []
noncomputable def tT:List Str:=["_law_script","_law_k","_law_left_here","_law_steps","_law_due","_law_n","_law_made","_law_least","_law_more","_law_row","_law_square","_law_found","_law_grown"]
noncomputable def Hk:DS:=(aD (fE (jC (ag (dC (.int 1)) (ag (aj cu (dC (.int 2)) (dZ iQ (ag (kN (aa 0) (ll (dC (.int 1))) (ll (dC (.int 3)))) aw))) aw))) (bB 1) (aD (aX 2 (bg iu (ag (aa 0) (ag (aa 1) aw))))
 (aD (aX 3 (bg iB (ag (aa 2) aw)))
 (aD (aX 4 (bg iX (ag (aa 3) aw)))
 (aD (gX (dg (aj vS (aa 4) (dC .aP))) w_ fT)
 (aD (aX 5 (dZ iQ (ag (aa 3) aw)))
 (aD (aX 6 (aj bO (bg ma (ag (aa 3) aw)) (dC (.int 0))))
 (aD (aX 7 (bg fQ (ag (aj bO (aa 6) (dC (.int 0))) (ag (aj bO (aa 6) (dC (.int 0))) aw))))
 (aD (gX (xX (dg (aj jz (aa 7) (dC (.int 0)))) (xp (dg (bg fx (ag (aa 7) (ag (aa 5) (ag (aj bO (aj bO (aa 4) (dC (.int 0))) (lM iy (dC (.int 1)))) aw))))))) (cC (dC (.bl false))) fT)
 (aD (aX 8 (bg iu (ag (aj bN (iz (ag (aj ib (bg iS (ag (aa 0) (ag (aa 1) aw))) (dC (.int 999999937))) aw)) (aj cu (aa 1) (dC (.int 8)))) (ag (aj cu (aa 1) (dC (.int 7))) aw))))
 (aD (fE (iq (bg gL (ag (bg gG (ag (aa 8) (ag (aa 5) aw))) (ag (aa 3) aw)))) (bB 9) (aD (aX 10 (bg fQ (ag (aa 9) (ag (aa 9) aw))))
 (gX (qV (dg (aj pB (aa 10) (dC (.int 0)))) (dg (aj pB (aa 7) (aj rT (aa 10) (aj c_ (aa 5) (dC (.int 1))))))) (cC (dC (.bl false))) fT)))
 (aD (aX 11 (bg iX (ag (aa 6) aw)))
 (aD (gX (dg (aj vS (aa 11) (dC .aP))) (cC (dC (.bl false))) fT)
 (aD (aX 12 (aj bO (aa 11) (dC (.int 0))))
 (gX (dg (dZ uX (ag (fc (jC (ag (dC (.int 1)) (ag (aa 5) aw))) [none,some 12] (bB 0) cZ (aj nU (aj bN (aj bN (dC (.int 2)) (aj bO (aa 1) (aj cu (aa 0) (dC (.int 1))))) (aj bO (aa 1) (aj c_ (aa 0) (dC (.int 1))))) (aj qB (aj bO (aa 1) (aa 0)) (dC (.int 2))))) aw))) (cC (dC (.bl false))) fT)))))))))))))))
 (cC (dC (.bl true))))
theorem CA{xs:List D}{a b:Int}:(L3.cutD xs (some a) (some b)).length≤xs.length:=by
 unfold L3.cutD
 rw[List.length_take,List.length_drop]
 omega
theorem vY(c:Int):∀n:Nat,(List.replicate n [D.int c]).flatten=(List.replicate n c).map D.int
 |0=>rfl
 |n+1=>by rw[List.replicate_succ,List.flatten_cons,vY c n,List.replicate_succ,List.map_cons];rfl
structure E_(A A' U C:List (List Int))(N w:Nat):Prop where
 T:Mx.Tn A A' U C N w
 sh:Mx.Sh (Mx.ab A') N
 D0:∀k,k≤N→Mx.D k (Mx.ab A')≠0
 st:vb A' N w
theorem E_.of{A A' U C:List (List Int)}{N w:Nat}(dr:Dr A N w)(T:Mx.Tn A A' U C N w)(sm:uO A' U C N)(sh:Mx.Sh (Mx.ab A') N):E_ A A' U C N w:=by
 have h8:=dr.le
 have h9:=dr.wd
 have hDn:∀k,k≤N→Mx.D k (Mx.ab A')≠0:=fun k hk=>by have:=(sm.D k hk).1;omega
 have hDb:∀k,k≤N→Mx.D k (Mx.ab A')≤2^744:=fun k hk=>by
  obtain⟨p0,p1⟩:=sm.D k hk
  have h3:(((2:Nat)^744:Nat):Int)=(2:Int)^744:=Int.natCast_pow 2 744
  have h4:(((Mx.D k (Mx.ab A')).natAbs:Nat):Int)=Mx.D k (Mx.ab A'):=Int.natAbs_of_nonneg (by omega)
  rw[←h3,←h4];exact Int.ofNat_le.mpr p1
 have hdiag:∀i,i<N→Mx.ab A' i i≤((2^748:Nat):Int):=fun i hi=>by
  have h5:=Mx.wK T.isA hDn hDb hi fun j hj=>sh.half i j hj hi
  have h16:(2:Int)^4=16:=by decide
  have h6:((i+1:Nat):Int)*2^744≤2^4*2^744:=Int.mul_le_mul_of_nonneg_right (by omega) (Int.le_of_lt (Mx.kl _))
  rw[←Int.pow_add]at h6
  rw[Int.natCast_pow]
  exact Int.le_trans h5 h6
 exact⟨T,sh,hDn,⟨T.isA,by omega,sm.eA,⟨h8,fun r c hr hc=>Mx.lD (Mx.uc (by rw[Mx.bM T.isA hr,Mx.bM T.isA hc])) (Mx.eJ T.isA hr) (Mx.eJ T.isA hc) (hdiag r hr) (hdiag c hc),Mx.iU A'⟩⟩⟩
theorem Kc(G:Mx.Fn):Mx.D 1 G=G 0 0:=by
 rw[Mx.dh]
 show 0+Mx.sg 0*G 0 0*1=_
 rw[Mx.oW];omega
theorem EN{G:Mx.Fn}{N:Nat}:dY (au ((List.range (N+1)).map fun q=>Mx.D q G)) (-1)=some (.int (Mx.D N G)):=by
 have:=kz (r:=(List.range (N+1)).map fun q=>Mx.D q G) (n:=N) (by simp)
 rw[Mx.range_getD (by omega)]at this
 exact this
theorem Bj{r:List Int}{j:Nat}{x:Int}(h:r[j]?=some x):dY (au r) (j:Int)=some (.int x):=gR (by unfold au;rw[List.getElem?_map,h];rfl)
theorem u5{G:Mx.Fn}{N j:Nat}(h:j≤N):dY (au ((List.range (N+1)).map fun q=>Mx.D q G)) (j:Int)=some (.int (Mx.D j G)):=Bj (by rw[List.getElem?_map,List.getElem?_range (by omega)];rfl)
theorem Gz{A:List (List Int)}{N w:Nat}{r:List Int}(hA:Mx.cz N w A)(hr:r.length=N):∀c,c<w→(Mx.fg r A (List.replicate w 0)).getD c 0=Mx.S N fun k=>r.getD k 0*Mx.g A k c:=fun c hc=>by
 have hl:=hA.len
 rw[Mx.uQ (n:=w) c (by simp) hA.jf (by omega),Mx.d7,hl]
 show 0+_=_
 rw[Int.zero_add]
theorem wo{A:List (List Int)}{w m:Nat}:∀ {ws:List Int} {acc:List Int} {a:Nat} {B:List (List Int)},acc.length=w→(∀r∈B,r.length=w)→(∀x∈acc,x.natAbs≤a)→(∀x∈ws,x.natAbs≤3)→(∀r∈B,∀x∈r,x.natAbs≤m)→∀x∈Mx.fg ws B acc,x.natAbs≤a+3*m*ws.length
 | [],acc,a,B,_,_,ha,_,_=>fun x hx=>by
   have:x∈acc:=by cases B<;>exact hx
   have:=ha x this
   omega
 |c::ws,acc,a,[],_,_,ha,_,_=>fun x hx=>by have:=ha x hx;omega
 |c::ws,acc,a,r::B,l0,l1,ha,hw,hB=>fun x hx=>by
  have hx':x∈Mx.fg ws B (Mx.fe acc c r):=hx
  have lr:=l1 r List.mem_cons_self
  have:=wo (A:=A) (m:=m) (a:=a+3*m) (by rw[Mx.iP (by rw[l0,lr])];exact l0) (fun q hq=>l1 q (List.mem_cons_of_mem _ hq)) (fun y hy=>by
   obtain⟨i,hi,rfl⟩:=List.mem_iff_getElem.mp hy
   have hi':i<w:=by rw[Mx.iP (by rw[l0,lr])]at hi;omega
   have e:(Mx.fe acc c r)[i]=(Mx.fe acc c r).getD i 0:=(Mx.bj hi).symm
   rw[e,Mx.mi (by rw[l0,lr])]
   have h1:(acc.getD i 0).natAbs≤a:=by rw[Mx.bj (by omega)];exact ha _ (List.getElem_mem _)
   have h2:(r.getD i 0).natAbs≤m:=by rw[Mx.bj (by omega)];exact hB r List.mem_cons_self _ (List.getElem_mem _)
   have h3:(c*r.getD i 0).natAbs≤3*m:=by rw[Int.natAbs_mul];exact Nat.mul_le_mul (hw c List.mem_cons_self) h2
   have h4:=Int.natAbs_add_le (acc.getD i 0) (c*r.getD i 0)
   omega) (fun y hy=>hw y (List.mem_cons_of_mem _ hy)) (fun q hq=>hB q (List.mem_cons_of_mem _ hq)) x hx'
  rw[List.length_cons,Nat.mul_succ]
  omega
theorem Gk:∀ds st K,xw ds st K→ds.length=1∧Hk {nx:=fun _ st'=>K .aP st',rt:=K} (bx tT ds) st:=by
 rintro ds st K ⟨ns,rfl,hl,_,k⟩
 refine⟨rfl,?_⟩
 refine zh (iE rfl (cK ?_))
 have hc:=CA (xs:=ns.map D.int) (a:=1) (b:=3)
 rw[List.length_map]at hc
 generalize(L3.cutD (ns.map D.int) (some 1) (some 3)).length=m at hc⊢
 refine oS ⟨by omega,by omega,by omega,by omega⟩ ?_
 have hm:∀d∈cQ 1 (2+(m:Int)-1).toNat,∃q:Int,d= .int q∧0≤q∧q≤900:=fun d hd=>by
  unfold cQ at hd
  obtain⟨i,hi,rfl⟩:=List.mem_map.mp hd
  rw[List.mem_range]at hi
  exact⟨_,rfl,by omega,by omega⟩
 generalize cQ 1 (2+(m:Int)-1).toNat=rs at hm⊢
 refine fk (fun rest σ st'=>(∀d∈rest,∃q:Int,d= .int q∧0≤q∧q≤900)∧∃v1 v2 v3 v4 v5 v6 v7 v8 v9 v10 v11 v12:Option D,σ=[some (.lst (ns.map .int)),v1,v2,v3,v4,v5,v6,v7,v8,v9,v10,v11,v12]) ?_ ?_ _ _ _ ⟨hm,none,none,none,none,none,none,none,none,none,none,none,none,rfl⟩
 · rintro σ st' ⟨_,v1,v2,v3,v4,v5,v6,v7,v8,v9,v10,v11,v12,rfl⟩
   exact⟨trivial,k _⟩
 · rintro x rest σ st1 ⟨hr,v1,v2,v3,v4,v5,v6,v7,v8,v9,v10,v11,v12,rfl⟩ next
   obtain⟨q,rfl,q0,q1⟩:=hr x List.mem_cons_self
   have hr2:∀d∈rest,∃q:Int,d= .int q∧0≤q∧q≤900:=fun d hd=>hr d (List.mem_cons_of_mem _ hd)
   refine⟨trivial,_,rfl,?_⟩
   refine⟨ns,q,rfl,q0,by omega,fun x hx=>?_⟩
   have L1:Lf (st1++[.lst [.int x]]) st1.length:=⟨x,by simp,hx⟩
   generalize st1.length=n at L1⊢
   generalize st1++[Cell.lst [.int x]]=st2 at L1⊢
   refine⟨n,rfl,L1,fun A N w st3 dr L3 U3=>?_⟩
   have hlA:=dr.is.len
   have h8:=dr.le
   have n1:=dr.n1
   refine⟨A,N,w,rfl,dr.st.Fq,fun st4 X4 _=>?_,fun st4 g kn cs X4 hD O=>?_⟩
   · refine uA rfl ?_
     exact next _ _ ⟨hr2,_,_,_,_,_,_,_,_,_,_,_,_,rfl⟩
   · refine uA rfl ?_
     refine iE rfl ?_
     rw[List.length_map,hlA]
     refine⟨_,A,N,w,rfl,Eb,dr.st,dr.wd,hD,fun st5 A5 U5 C5 X5 T5 sm5 sh5=>?_⟩
     have M5:=E_.of dr T5 sm5 sh5
     have l5:=T5.isA.len
     have eg5:st5[g]?=some (Cell.lst (au ((List.range (N+1)).map fun q=>Mx.D q (Mx.ab A)))):=by
      rw[X5.same g (List.getElem?_eq_some_iff.mp O.eg).1];exact O.eg
     clear sm5 O
     refine aZ rfl (show dY [dP A5,dP U5,dP (Mx.zw C5 N)] 0=some (dP A5)from rfl) ?_
     refine aZ (e:=dy (A5.getD 0 [])) rfl (qt (j:=0) (by omega)) ?_
     refine aZ (e:=dy (A5.getD 0 [])) rfl (qt (j:=0) (by omega)) ?_
     have w5:(A5.getD 0 []).length=w:=Mx.bM T5.isA (by omega)
     refine⟨_,_,A5.getD 0 [],A5.getD 0 [],rfl,rfl,rfl,by rw[w5];have:=dr.wd;omega,vV M5.st (by omega) (by omega),?_⟩
     have e1:Mx.fz (A5.getD 0 []) (A5.getD 0 [])=Mx.D 1 (Mx.ab A5):=(Kc (Mx.ab A5)).symm
     rw[e1]
     have pos1:=Mx.je T5.isA M5.D0 1 n1
     have b1:=M5.st.gm.D (p:=1) n1
     generalize hL:Mx.D 1 (Mx.ab A5)=least at pos1 b1⊢
     refine Ca (by omega) ?_
     refine aZ (e:= .ref g) rfl rfl (ia (aZ (aB eg5) EN ?_))
     refine⟨least,_,N,rfl,h8,b1,dr.st.Fq.gm.D (Nat.le_refl N),?_⟩
     have pw:=Mx.power T5.isA M5.D0 (fun i a b=>sh5.two a b) N (Nat.le_refl _)
     rw[hL,T5.same dr.is]at pw
     rw[decide_eq_true pw]
     refine⟨ns,q,rfl,q0,fun c=>?_⟩
     refine jv (by decide) ⟨Nat.le_of_ble_eq_true rfl,cK (wy ⟨by omega,by omega,dJ (by simp;omega)⟩ (cK ?_))⟩
     rw[vY]
     refine⟨_,_,rfl,by omega,by omega,fun x6 hx6=>?_⟩
     have L6:Lf (st5++[.lst [.int x6]]) st5.length:=⟨x6,by simp,hx6⟩
     generalize st5.length=n6 at L6⊢
     generalize st5++[Cell.lst [.int x6]]=st6 at L6⊢
     refine⟨n6,N,rfl,L6,h8,fun W st7 hW1 hW2 hW3=>?_⟩
     refine⟨W,A,W.length,N,w,rfl,⟨rfl,hW1⟩,dr.is,n1,by omega,by omega,by have:=dr.wd;omega,fun r hr x hx=>Nat.le_trans (hW2 r hr x hx) (Nat.le_trans (show 3≤2^2 by decide) (Nat.pow_le_pow_right (by decide) (by decide))),dr.st.Fq.sm,fun st8 X8=>?_⟩
     refine mI ?_
     refine fk (fun rest σ st'=>(∀d∈rest,∃r∈W,d=dy (Mx.fg r A (List.replicate w 0)))∧∃v9 v10:Option D,σ=[some (.lst (ns.map .int)),some (.int q),some (.ref n),some (dP A),some (.tup [.ref g,.ref kn]),some (.int N),some (dP A5),some (.int least),some (.ref n6),v9,v10,v11,v12]) ?_ ?_ _ _ _ ⟨fun d hd=>?_,v9,v10,rfl⟩
     rotate_left 2
     · unfold Mx.mulM at hd
       rw[List.map_map]at hd
       obtain⟨r,hr,rfl⟩:=List.mem_map.mp hd
       exact⟨r,hr,rfl⟩
     · rintro σ st9 ⟨_,v9,v10,rfl⟩
       refine⟨trivial,?_⟩
       refine⟨A5,N,w,rfl,M5.st,fun st10 X10 hz=>?_,fun st10 g2 kn2 cs2 X10 _ O2=>?_⟩
       · obtain⟨k,hk,z⟩:=hz
         exact absurd z (M5.D0 k hk)
       refine uA rfl ?_
       refine aZ (e:= .ref g2) rfl rfl ?_
       have e2:=O2.eg
       refine oS ⟨by omega,by omega,by omega,by omega⟩ ⟨dJ (by rw[cX];omega),?_⟩
       refine comp_map (g:=fun _=>D.bl false) trivial _ (fun d hd K' t=>?_) ?_
       · unfold cQ at hd
         obtain⟨i,hi,rfl⟩:=List.mem_map.mp hd
         rw[List.mem_range]at hi
         refine⟨_,rfl,?_⟩
         have two:=sh5.two (i:=i+1) (by omega) (by omega)
         rw[show i+1-1=i by omega]at two
         refine cK (aZ (aB e2) (by rw[show(1:Int)+(i:Int)+1=((i+2:Nat):Int) by omega];exact u5 (by omega)) (b_ (fN (by decide) (by decide)) ?_))
         refine cN (aZ (aB e2) (by rw[show(1:Int)+(i:Int)-1=((i:Nat):Int) by omega];exact u5 (by omega)) ?_)
         have bd:=fun p hp=>M5.st.gm.D (p:=p) hp
         have b2:(2*Mx.D (i+2) (Mx.ab A5)).natAbs≤2^6101:=by
          rw[Int.natAbs_mul,Nat.pow_succ]
          have:=bd (i+2) (by omega)
          show 2*_≤_
          omega
         refine b_ (dc b2 (bd i (by omega)) (by decide) (by decide)) ?_
         refine aZ (aB e2) (by rw[show(1:Int)+(i:Int)=((i+1:Nat):Int) by omega];exact u5 (by omega)) ?_
         have bb:=m7 (t5 (bd (i+1) (by omega)))
         refine CD ⟨by decide,by omega⟩ (ID ?_ t)
         rw[show((2:Int).toNat)=2 from rfl,Int.pow_succ,Int.pow_succ,Int.pow_zero,Int.one_mul]
         exact two
       have e3:∀l:List D,kb (l.map fun _=>D.bl false)=some (l.map fun _=>false):=fun l=>by
        induction l with
        |nil=>rfl
        |cons a l ih=>rw[List.map_cons,List.map_cons];unfold kb;rw[ih];rfl
       refine GQ (e3 _) ?_
       have e4:∀l:List D,(l.map fun _=>false).any id=false:=fun l=>by
        induction l with
        |nil=>rfl
        |cons a l ih=>rw[List.map_cons,List.any_cons,ih];rfl
       rw[e4]
       exact next _ _ ⟨hr2,_,_,_,_,_,_,_,_,_,_,_,_,rfl⟩
     · rintro d rest3 σ st9 ⟨hrest,v9,v10,rfl⟩ next3
       obtain⟨r,hrW,rfl⟩:=hrest d List.mem_cons_self
       have hrest2:∀d∈rest3,∃r∈W,d=dy (Mx.fg r A (List.replicate w 0)):=fun d hd=>hrest d (List.mem_cons_of_mem _ hd)
       refine⟨trivial,_,rfl,?_⟩
       have lr:=hW1 r hrW
       have ls:(Mx.fg r A (List.replicate w 0)).length=w:=Mx.sC (by simp) dr.is.jf
       have sv:=Gz (r:=r) dr.is lr
       have sa:=wo (A:=A) (w:=w) (m:=1000000000000) (ws:=r) (acc:=List.replicate w 0) (a:=0) (B:=A) (by simp) dr.is.jf (fun x hx=>by rw[List.eq_of_mem_replicate hx];decide) (hW2 r hrW) fun q hq y hy=>by have:=dr.bd q hq y hy;unfold Sm at this;omega
       rw[lr]at sa
       generalize hV:Mx.fg r A (List.replicate w 0)=V at ls sv sa⊢
       have sa2:∀x∈V,x.natAbs≤2^48:=fun x hx=>by
        have h:=sa x hx
        have:3*1000000000000*N≤3*1000000000000*8:=Nat.mul_le_mul_left _ h8
        have:(2:Nat)^48=281474976710656:=by decide
        omega
       refine⟨_,_,V,V,rfl,rfl,rfl,by rw[ls];have:=dr.wd;omega,fun a ha b hb=>dc (sa2 a ha) (sa2 b hb) (by decide) (by decide),?_⟩
       have eV:Mx.fz V V=Mx.S w fun c=>V.getD c 0*V.getD c 0:=by rw[Mx.jc rfl,ls]
       have bV:(Mx.fz V V).natAbs≤2^100:=by
        have:=rQ sa2 sa2
        rw[ls]at this
        have h3:w*(2^48*2^48)≤9*(2^48*2^48):=Nat.mul_le_mul_right _ dr.wd
        have h4:9*(2^48*2^48)≤2^100:=by decide
        omega
       refine IS (fun hpos=>?_) fun _=>?_
       · have bb:=m7 (t5 bV)
         refine cN (yM ⟨by omega,by omega⟩ (Jb ?_ ?_))
         · have lst:=T5.least M5.D0 sh5 (x:=fun k=>r.getD k 0) (v:=fun c=>V.getD c 0) sv (by rw[←eV];exact hpos)
           rw[hL,←eV]at lst
           rw[show((N:Int)-1).toNat=N-1 by omega]
           exact lst
         · exact next3 _ _ ⟨hrest2,_,_,rfl⟩
       · exact next3 _ _ ⟨hrest2,_,_,rfl⟩
end Prog
namespace Row
open PySem L2 L3 Prog
open PySem.Spec hiding items?
open PyProof.Rows hiding St
noncomputable def top(i:Nat):Stmt:=PySem.Challenge.pw_latticeworks_k36_whole_short_they_are.main.body.getD i (.Pass ⟨0,0,0,0⟩)
theorem f_:(("tuple":Str))≠"__name__":=by decide+kernel
theorem yu:(("sum":Str))≠"__name__":=by decide+kernel
theorem oA:(("list":Str))≠"__name__":=by decide+kernel
theorem iC:(("len":Str))≠"__name__":=by decide+kernel
theorem zE:(("max":Str))≠"__name__":=by decide+kernel
theorem yG:(("abs":Str))≠"__name__":=by decide+kernel
theorem EL:(("any":Str))≠"__name__":=by decide+kernel
structure Bl(mg:Str→Option Value):Prop where
 gU:mg "tuple"=none
 m_:mg "zip"=none
 dE:mg "range"=none
 Bw:mg "sum"=none
 qI:mg "list"=none
 jO:mg "len"=none
 Cm:mg "max"=none
 B4:mg "abs"=none
 HS:mg "any"=none
structure ClsAt(K:PySem.W.Frag)(mg:Str→Option Value)(x:Str)(C:Addr):Prop where
 cl:kf K C
 mg:mg x=some (.ref C)
 II:PySem.W.makesIn K C=true
 kp:PySem.W.keepIn K (.ref C)=true
structure MethAt(K:PySem.W.Frag)(C:Addr)(m qual:Str)(st:Stmt)(ps:List Str)(f:Addr)(fd:FuncData):Prop where
 fn:mr K m qual st f fd
 me:Meth K C m f
 bd:Binds K fd ps []
structure Kl(K:PySem.W.Frag)(mg:Str→Option Value):Prop where
 cw:ClsAt K mg "Bench" az
 bc:ClsAt K mg "Stairs" av
 d4:fy K az "body"
 dX:fy K az "turn"
 bX:fy K az "back_columns"
 ft:fy K av "bench"
 bq:fy K av "table"
section
variable {P:Program}{w:World}{K:PySem.W.Frag}{mg:Str→Option Value}{base:Heap}
noncomputable abbrev eR:Stmt:=top 5
theorem nO:VS (ah eR) lz ["tuple"]:=⟨by decide+kernel⟩
theorem xD:bf lz ["rows"] (ah eR):=⟨rfl,rfl,rfl,by decide+kernel,rfl,by decide+kernel,by decide+kernel⟩
theorem w4{f:Addr}{fd:FuncData}(B:Bl mg)(Q:Kl K mg)(F:aF K mg "as_rows" "as_rows" eR ["rows"] f fd):
 ax P w K mg base aJ 1 f fd ["rows"] (aL iZ):=
 cJ (N:=lz) F.fn xD (fun cdv A outer s H E hr=>(aE (bF (jn gT (af (fR (Nc:=["row"]) (cc.look (ah eR) ["rows"] (by decide+kernel)) (jX (nO.nm 0)) (fun _ _ _ _=>(el (show(["row"]:List Str).Nodup by decide+kernel) (by first|exact Or.inl rfl|exact Or.inr rfl) (by first|exact .inl rfl|exact .inr rfl))) (fun _ _ _ _=>dF) (fun _ _ _ _=>(jn gT (af eS ao) B.gU rfl f_ (by decide+kernel) rfl)) d8) ao) B.gU rfl f_ (nO.d 0) (nO.g 0))))) yo
noncomputable abbrev gq:Stmt:=top 6
theorem rk:VS (ah gq) oM ["zip"]:=⟨by decide+kernel⟩
theorem Bd:bf oM ["row","times","other"] (ah gq):=⟨rfl,rfl,rfl,by decide+kernel,rfl,by decide+kernel,by decide+kernel⟩
theorem AJ{f:Addr}{fd:FuncData}(B:Bl mg)(Q:Kl K mg)(F:aF K mg "added" "added" gq ["row","times","other"] f fd):
 ax P w K mg base aJ 1 f fd ["row","times","other"] (aL jD):=
 cJ (N:=oM) F.fn Bd (fun cdv A outer s H E hr=>(aE (bF (fR (Nc:=["one","two","times"]) (cc.look (ah gq) ["row","times","other"] (by decide+kernel)) (oF (rk.g 0) B.m_ (af (rk.nm 0) (af (rk.nm 2) ao))) (fun _ _ _ _=>(oH rfl (show(["one","two","times"]:List Str).Nodup by decide+kernel) (by first|exact Or.inl rfl|exact Or.inr rfl) (by first|exact .inl rfl|exact .inr rfl) (by first|exact Or.inl rfl|exact Or.inr rfl) (by first|exact .inl rfl|exact .inr rfl))) (fun _ _ _ _=>dF) (fun _ _ _ _=>(ay cP eS (ay cD eS eS))) oU)))) Bs
noncomputable abbrev fF:Stmt:=top 7
theorem pW:VS (ah fF) mX ["tuple"]:=⟨by decide+kernel⟩
theorem zQ:bf mX ["rows","place"] (ah fF):=⟨rfl,rfl,rfl,by decide+kernel,rfl,by decide+kernel,by decide+kernel⟩
theorem yL{f:Addr}{fd:FuncData}(B:Bl mg)(Q:Kl K mg)(F:aF K mg "column" "column" fF ["rows","place"] f fd):
 ax P w K mg base aJ 1 f fd ["rows","place"] (aL kT):=
 cJ (N:=mX) F.fn zQ (fun cdv A outer s H E hr=>(aE (bF (jn gT (af (fR (Nc:=["row","place"]) (cc.look (ah fF) ["rows","place"] (by decide+kernel)) (jX (pW.nm 0)) (fun _ _ _ _=>(el (show(["row","place"]:List Str).Nodup by decide+kernel) (by first|exact Or.inl rfl|exact Or.inr rfl) (by first|exact .inl rfl|exact .inr rfl))) (fun _ _ _ _=>dF) (fun _ _ _ _=>(bK eS eS)) d8) ao) B.gU rfl f_ (pW.d 0) (pW.g 0))))) yt
noncomputable abbrev cR:Stmt:=top 8
theorem iK:VS (ah cR) iJ ["range","tuple"]:=⟨by decide+kernel⟩
theorem rl:bf iJ ["rows","wide"] (ah cR):=⟨rfl,rfl,rfl,by decide+kernel,rfl,by decide+kernel,by decide+kernel⟩
theorem rN{f:Addr}{fd:FuncData}(B:Bl mg)(Q:Kl K mg)(F:aF K mg "turned_over" "turned_over" cR ["rows","wide"] f fd){a_column:Addr}{d_column:FuncData}(D_column:aF K mg "column" "column" fF ["rows","place"] a_column d_column)(G_column:ax P w K mg base aJ 1 a_column d_column ["rows","place"] (aL kT)):
 ax P w K mg base aJ 2 f fd ["rows","wide"] (aL gJ):=
 cJ (N:=iJ) F.fn rl (fun cdv A outer s H E hr=>(aE (bF (jn gT (af (fR (Nc:=["place","rows"]) (cc.look (ah cR) ["rows","wide"] (by decide+kernel)) (eF (iK.g 0) B.dE (af (iK.nm 1) ao)) (fun _ _ _ _=>(el (show(["place","rows"]:List Str).Nodup by decide+kernel) (by first|exact Or.inl rfl|exact Or.inr rfl) (by first|exact .inl rfl|exact .inr rfl))) (fun _ _ _ _=>dF) (fun _ _ _ _=>(cB D_column G_column (hr.mono (by decide)) (af eS (af eS ao)) (by decide+kernel) rfl)) d8) ao) B.gU rfl f_ (iK.d 1) (iK.g 1))))) sf
noncomputable abbrev dR:Stmt:=top 9
theorem ku:VS (ah dR) ki ["range","tuple"]:=⟨by decide+kernel⟩
theorem vA:bf ki ["n","place"] (ah dR):=⟨rfl,rfl,rfl,by decide+kernel,rfl,by decide+kernel,by decide+kernel⟩
theorem vx{f:Addr}{fd:FuncData}(B:Bl mg)(Q:Kl K mg)(F:aF K mg "unit_row" "unit_row" dR ["n","place"] f fd):
 ax P w K mg base aJ 1 f fd ["n","place"] (aL i9):=
 cJ (N:=ki) F.fn vA (fun cdv A outer s H E hr=>(aE (bF (jn gT (af (fR (Nc:=["k","place"]) (cc.look (ah dR) ["n","place"] (by decide+kernel)) (eF (ku.g 0) B.dE (af (ku.nm 0) ao)) (fun _ _ _ _=>(el (show(["k","place"]:List Str).Nodup by decide+kernel) (by first|exact Or.inl rfl|exact Or.inr rfl) (by first|exact .inl rfl|exact .inr rfl))) (fun _ _ _ _=>dF) (fun _ _ _ _=>(BZ (dW (lZ hr) (cW _) eS eS) aq aq)) d8) ao) B.gU rfl f_ (ku.d 1) (ku.g 1))))) vz
noncomputable abbrev dG:Stmt:=top 10
theorem jW:VS (ah dG) jQ ["range","tuple"]:=⟨by decide+kernel⟩
theorem uK:bf jQ ["n"] (ah dG):=⟨rfl,rfl,rfl,by decide+kernel,rfl,by decide+kernel,by decide+kernel⟩
theorem vf{f:Addr}{fd:FuncData}(B:Bl mg)(Q:Kl K mg)(F:aF K mg "unit_rows" "unit_rows" dG ["n"] f fd){a_unit_row:Addr}{d_unit_row:FuncData}(D_unit_row:aF K mg "unit_row" "unit_row" dR ["n","place"] a_unit_row d_unit_row)(G_unit_row:ax P w K mg base aJ 1 a_unit_row d_unit_row ["n","place"] (aL i9)):
 ax P w K mg base aJ 2 f fd ["n"] (aL gP):=
 cJ (N:=jQ) F.fn uK (fun cdv A outer s H E hr=>(aE (bF (jn gT (af (fR (Nc:=["place","n"]) (cc.look (ah dG) ["n"] (by decide+kernel)) (eF (jW.g 0) B.dE (af (jW.nm 0) ao)) (fun _ _ _ _=>(el (show(["place","n"]:List Str).Nodup by decide+kernel) (by first|exact Or.inl rfl|exact Or.inr rfl) (by first|exact .inl rfl|exact .inr rfl))) (fun _ _ _ _=>dF) (fun _ _ _ _=>(cB D_unit_row G_unit_row (hr.mono (by decide)) (af eS (af eS ao)) (by decide+kernel) rfl)) d8) ao) B.gU rfl f_ (jW.d 1) (jW.g 1))))) uD
noncomputable abbrev jw:Stmt:=top 11
theorem qH:VS (ah jw) tK ["zip","sum"]:=⟨by decide+kernel⟩
theorem GD:bf tK ["one","other"] (ah jw):=⟨rfl,rfl,rfl,by decide+kernel,rfl,by decide+kernel,by decide+kernel⟩
theorem Fv{f:Addr}{fd:FuncData}(B:Bl mg)(Q:Kl K mg)(F:aF K mg "dot" "dot" jw ["one","other"] f fd):
 ax P w K mg base aJ 1 f fd ["one","other"] (aL mV):=
 cJ (N:=tK) F.fn GD (fun cdv A outer s H E hr=>(aE (bF (g9 (BQ rfl) (af (fR (Nc:=["left","right"]) (cc.look (ah jw) ["one","other"] (by decide+kernel)) (oF (qH.g 0) B.m_ (af (qH.nm 0) (af (qH.nm 1) ao))) (fun _ _ _ _=>(oH rfl (show(["left","right"]:List Str).Nodup by decide+kernel) (by first|exact Or.inl rfl|exact Or.inr rfl) (by first|exact .inl rfl|exact .inr rfl) (by first|exact Or.inl rfl|exact Or.inr rfl) (by first|exact .inl rfl|exact .inr rfl))) (fun _ _ _ _=>dF) (fun _ _ _ _=>(ay cD eS eS)) oU) ao) B.Bw rfl yu (qH.d 1) (qH.g 1))))) zo
noncomputable abbrev fh:Stmt:=top 13
theorem dB:VS (ah fh) lp ["zip"]:=⟨by decide+kernel⟩
theorem jx:bf lp ["together","table","one","other"] (ah fh):=⟨rfl,rfl,rfl,by decide+kernel,rfl,by decide+kernel,by decide+kernel⟩
theorem x_{f:Addr}{fd:FuncData}(B:Bl mg)(Q:Kl K mg)(F:aF K mg "cleared" "cleared" fh ["together","table","one","other"] f fd):
 ax P w K mg base aJ 1 f fd ["together","table","one","other"] (aL i5):=
 cJ (N:=lp) F.fn jx (fun cdv A outer s H E hr=>(ak (aM jx.nd (dB.l 4) aq)
  (ak (eQ (FI (dB.g 0) B.m_ (af (dB.nm 1) (af (dB.nm 2) (af (dB.nm 3) ao)))) (Ig rfl jx.nd (by first|exact Or.inl rfl|exact Or.inr rfl) (by first|exact .inl rfl|exact .inr rfl) (by first|exact Or.inl rfl|exact Or.inr rfl) (by first|exact .inl rfl|exact .inr rfl) (by first|exact Or.inl rfl|exact Or.inr rfl) (by first|exact .inl rfl|exact .inr rfl)) (ak (aM jx.nd (dB.l 0) (ay j5 (ay dv (ay cD (bK (dB.nm 5) (jd aq)) (dB.nm 0)) (ay cD (dB.nm 6) (dB.nm 7))) (dB.nm 4)))
  (aE (aM jx.nd (dB.l 4) (bK (dB.nm 5) (jd aq))))))
  (aE (bF (dB.nm 0)))))) yd
noncomputable abbrev fi:Stmt:=top 14
theorem bC:VS (ah fi) lJ ["zip","dot","cleared"]:=⟨by decide+kernel⟩
theorem mZ:bf lJ ["table","steps","row"] (ah fi):=⟨rfl,rfl,rfl,by decide+kernel,rfl,by decide+kernel,by decide+kernel⟩
theorem xB{f:Addr}{fd:FuncData}(B:Bl mg)(Q:Kl K mg)(F:aF K mg "line_of" "line_of" fi ["table","steps","row"] f fd){a_dot:Addr}{d_dot:FuncData}(D_dot:aF K mg "dot" "dot" jw ["one","other"] a_dot d_dot)(G_dot:ax P w K mg base aJ 1 a_dot d_dot ["one","other"] (aL mV)){a_cleared:Addr}{d_cleared:FuncData}(D_cleared:aF K mg "cleared" "cleared" fh ["together","table","one","other"] a_cleared d_cleared)(G_cleared:ax P w K mg base aJ 1 a_cleared d_cleared ["together","table","one","other"] (aL i5)):
 ax P w K mg base aJ 2 f fd ["table","steps","row"] (aL ka):=
 cJ (N:=lJ) F.fn mZ (fun cdv A outer s H E hr=>(ak (aM mZ.nd (bC.l 3) (lB ao))
  (ak (eQ (oF (bC.g 0) B.m_ (af (bC.nm 0) (af (bC.nm 1) ao))) (oH rfl mZ.nd (by first|exact Or.inl rfl|exact Or.inr rfl) (by first|exact .inl rfl|exact .inr rfl) (by first|exact Or.inl rfl|exact Or.inr rfl) (by first|exact .inl rfl|exact .inr rfl)) (aE (fv (hZ (bC.nm 3) (cB D_cleared G_cleared (hr.mono (by decide)) (af (cB D_dot G_dot (hr.mono (by decide)) (af (bC.nm 2) (af (bC.nm 5) ao)) (bC.d 1) (bC.g 1)) (af (bC.nm 0) (af (bC.nm 3) (af (bC.nm 4) ao)))) (bC.d 2) (bC.g 2))))))
  (ak (fv (hZ (bC.nm 3) (cB D_cleared G_cleared (hr.mono (by decide)) (af (cB D_dot G_dot (hr.mono (by decide)) (af (bC.nm 2) (af (bC.nm 2) ao)) (bC.d 1) (bC.g 1)) (af (bC.nm 0) (af (bC.nm 3) (af (bC.nm 3) ao)))) (bC.d 2) (bC.g 2))))
  (aE (bF (bC.nm 3))))))) yh
noncomputable abbrev eN:Stmt:=top 15
theorem dN:VS (ah eN) km ["line_of"]:=⟨by decide+kernel⟩
theorem jV:bf km ["steps"] (ah eN):=⟨rfl,rfl,rfl,by decide+kernel,rfl,by decide+kernel,by decide+kernel⟩
theorem vL{f:Addr}{fd:FuncData}(B:Bl mg)(Q:Kl K mg)(F:aF K mg "table_of" "table_of" eN ["steps"] f fd){a_line_of:Addr}{d_line_of:FuncData}(D_line_of:aF K mg "line_of" "line_of" fi ["table","steps","row"] a_line_of d_line_of)(G_line_of:ax P w K mg base aJ 2 a_line_of d_line_of ["table","steps","row"] (aL ka)):
 ax P w K mg base aJ 3 f fd ["steps"] (aL ji):=
 cJ (N:=km) F.fn jV (fun cdv A outer s H E hr=>(ak (aM jV.nd (dN.l 1) (lB ao))
  (ak (eQ (jX (dN.nm 0)) (el jV.nd (by first|exact Or.inl rfl|exact Or.inr rfl) (by first|exact .inl rfl|exact .inr rfl)) (ak (aM jV.nd (dN.l 3) (cB D_line_of G_line_of (hr.mono (by decide)) (af (dN.nm 1) (af (dN.nm 0) (af (dN.nm 2) ao))) (dN.d 0) (dN.g 0)))
  (ak (gg (dW (lZ hr) (cW _) (bK (dN.nm 3) (jd aq)) aq) (aE Bu) fA)
  (aE (fv (hZ (dN.nm 1) (dN.nm 3)))))))
  (aE (bF (dN.nm 1)))))) vF
noncomputable abbrev bZ:Stmt:=top 17
theorem ig:VS (ah bZ) fS []:=⟨by decide+kernel⟩
theorem nu:bf fS ["top","bottom"] (ah bZ):=⟨rfl,rfl,rfl,by decide+kernel,rfl,by decide+kernel,by decide+kernel⟩
theorem nr{f:Addr}{fd:FuncData}(B:Bl mg)(Q:Kl K mg)(F:aF K mg "nearest_quotient" "nearest_quotient" bZ ["top","bottom"] f fd):
 ax P w K mg base aJ 1 f fd ["top","bottom"] (aL eW):=
 cJ (N:=fS) F.fn nu (fun cdv A outer s H E hr=>(aE (bF (ay j5 (ay cP (ay cD aq (ig.nm 0)) (ig.nm 1)) (ay cD aq (ig.nm 1)))))) nk
noncomputable abbrev dQ:Stmt:=top 18
theorem cU:VS (ah dQ) jP ["list"]:=⟨by decide+kernel⟩
theorem oa:bf jP ["rows","k","other"] (ah dQ):=⟨rfl,rfl,rfl,by decide+kernel,rfl,by decide+kernel,by decide+kernel⟩
theorem uZ{f:Addr}{fd:FuncData}(B:Bl mg)(Q:Kl K mg)(F:aF K mg "exchanged" "exchanged" dQ ["rows","k","other"] f fd):
 ax P w K mg base aJ 1 f fd ["rows","k","other"] (aL gc):=
 cJ (N:=jP) F.fn oa (fun cdv A outer s H E hr=>(ak (aM oa.nd (cU.l 3) (jn DZ (af (cU.nm 0) ao) B.qI rfl oA (cU.d 0) (cU.g 0)))
  (ak (gw (bK (cU.nm 0) (cU.nm 2)) (cU.nm 3) (cU.nm 1))
  (ak (gw (bK (cU.nm 0) (cU.nm 1)) (cU.nm 3) (cU.nm 2))
  (aE (bF (cU.nm 3))))))) uS
noncomputable abbrev bI:Stmt:=inClass (top 19) 0
theorem bz:VS (ah bI) gF ["len","unit_rows"]:=⟨by decide+kernel⟩
theorem oX:bf gF ["self","rows"] (ah bI):=⟨rfl,rfl,rfl,by decide+kernel,rfl,by decide+kernel,by decide+kernel⟩
theorem oZ{f:Addr}{fd:FuncData}(B:Bl mg)(Q:Kl K mg)(F:MethAt K az "__init__" "Bench.__init__" bI ["self","rows"] f fd){a_unit_rows:Addr}{d_unit_rows:FuncData}(D_unit_rows:aF K mg "unit_rows" "unit_rows" dG ["n"] a_unit_rows d_unit_rows)(G_unit_rows:ax P w K mg base aJ 2 a_unit_rows d_unit_rows ["n"] (aL gP)):
 ax P w K mg base aJ 3 f fd ["self","rows"] (aL fJ):=
 cJ (N:=gF) F.fn oX (fun cdv A outer s H E hr=>(ak (i7 Q.cw.cl Q.d4 (bz.nm 0) (rq (Nc:=["row"]) (cc.look (ah bI) ["self","rows"] (by decide+kernel)) (jX (bz.nm 1)) (fun _ _ _ _=>(el (show(["row"]:List Str).Nodup by decide+kernel) (by first|exact Or.inl rfl|exact Or.inr rfl) (by first|exact .inl rfl|exact .inr rfl))) (fun _ _ _ _=>dF) (fun _ _ _ _=>(jn vn (af eS ao) B.qI rfl oA (by decide+kernel) rfl)) d8))
  (ak (i7 Q.cw.cl Q.dX (bz.nm 0) (rq (Nc:=["row"]) (cc.look (ah bI) ["self","rows"] (by decide+kernel)) (jX (cB D_unit_rows G_unit_rows (hr.mono (by decide)) (af (g9 jT (af (bz.nm 1) ao) B.jO rfl iC (bz.d 0) (bz.g 0)) ao) (bz.d 1) (bz.g 1))) (fun _ _ _ _=>(el (show(["row"]:List Str).Nodup by decide+kernel) (by first|exact Or.inl rfl|exact Or.inr rfl) (by first|exact .inl rfl|exact .inr rfl))) (fun _ _ _ _=>dF) (fun _ _ _ _=>(jn vn (af eS ao) B.qI rfl oA (by decide+kernel) rfl)) d8))
  (aE (i7 Q.cw.cl Q.bX (bz.nm 0) (rq (Nc:=["row"]) (cc.look (ah bI) ["self","rows"] (by decide+kernel)) (jX (cB D_unit_rows G_unit_rows (hr.mono (by decide)) (af (g9 jT (af (bz.nm 1) ao) B.jO rfl iC (bz.d 0) (bz.g 0)) ao) (bz.d 1) (bz.g 1))) (fun _ _ _ _=>(el (show(["row"]:List Str).Nodup by decide+kernel) (by first|exact Or.inl rfl|exact Or.inr rfl) (by first|exact .inl rfl|exact .inr rfl))) (fun _ _ _ _=>dF) (fun _ _ _ _=>(jn vn (af eS ao) B.qI rfl oA (by decide+kernel) rfl)) d8)))))) ph
noncomputable abbrev dH:Stmt:=inClass (top 19) 1
theorem aS:VS (ah dH) js ["added"]:=⟨by decide+kernel⟩
theorem tq:bf js ["self","k","times","other"] (ah dH):=⟨rfl,rfl,rfl,by decide+kernel,rfl,by decide+kernel,by decide+kernel⟩
theorem tm{f:Addr}{fd:FuncData}(B:Bl mg)(Q:Kl K mg)(F:MethAt K az "take" "Bench.take" dH ["self","k","times","other"] f fd){a_added:Addr}{d_added:FuncData}(D_added:aF K mg "added" "added" gq ["row","times","other"] a_added d_added)(G_added:ax P w K mg base aJ 1 a_added d_added ["row","times","other"] (aL jD)):
 ax P w K mg base aJ 2 f fd ["self","k","times","other"] (aL hX):=
 cJ (N:=js) F.fn tq (fun cdv A outer s H E hr=>(ak (gw (cB D_added G_added (hr.mono (by decide)) (af (bK (cL Q.cw.cl Q.d4 (aS.nm 0)) (aS.nm 1)) (af (jd (aS.nm 2)) (af (bK (cL Q.cw.cl Q.d4 (aS.nm 0)) (aS.nm 3)) ao))) (aS.d 0) (aS.g 0)) (cL Q.cw.cl Q.d4 (aS.nm 0)) (aS.nm 1))
  (ak (gw (cB D_added G_added (hr.mono (by decide)) (af (bK (cL Q.cw.cl Q.dX (aS.nm 0)) (aS.nm 1)) (af (jd (aS.nm 2)) (af (bK (cL Q.cw.cl Q.dX (aS.nm 0)) (aS.nm 3)) ao))) (aS.d 0) (aS.g 0)) (cL Q.cw.cl Q.dX (aS.nm 0)) (aS.nm 1))
  (aE (gw (cB D_added G_added (hr.mono (by decide)) (af (bK (cL Q.cw.cl Q.bX (aS.nm 0)) (aS.nm 3)) (af (aS.nm 2) (af (bK (cL Q.cw.cl Q.bX (aS.nm 0)) (aS.nm 1)) ao))) (aS.d 0) (aS.g 0)) (cL Q.cw.cl Q.bX (aS.nm 0)) (aS.nm 3)))))) tD
noncomputable abbrev cG:Stmt:=inClass (top 19) 2
theorem aW:VS (ah cG) gD ["exchanged"]:=⟨by decide+kernel⟩
theorem oY:bf gD ["self","k","other"] (ah cG):=⟨rfl,rfl,rfl,by decide+kernel,rfl,by decide+kernel,by decide+kernel⟩
theorem o_{f:Addr}{fd:FuncData}(B:Bl mg)(Q:Kl K mg)(F:MethAt K az "exchange" "Bench.exchange" cG ["self","k","other"] f fd){a_exchanged:Addr}{d_exchanged:FuncData}(D_exchanged:aF K mg "exchanged" "exchanged" dQ ["rows","k","other"] a_exchanged d_exchanged)(G_exchanged:ax P w K mg base aJ 1 a_exchanged d_exchanged ["rows","k","other"] (aL gc)):
 ax P w K mg base aJ 2 f fd ["self","k","other"] (aL fB):=
 cJ (N:=gD) F.fn oY (fun cdv A outer s H E hr=>(ak (i7 Q.cw.cl Q.d4 (aW.nm 0) (cB D_exchanged G_exchanged (hr.mono (by decide)) (af (cL Q.cw.cl Q.d4 (aW.nm 0)) (af (aW.nm 1) (af (aW.nm 2) ao))) (aW.d 0) (aW.g 0)))
  (ak (i7 Q.cw.cl Q.dX (aW.nm 0) (cB D_exchanged G_exchanged (hr.mono (by decide)) (af (cL Q.cw.cl Q.dX (aW.nm 0)) (af (aW.nm 1) (af (aW.nm 2) ao))) (aW.d 0) (aW.g 0)))
  (aE (i7 Q.cw.cl Q.bX (aW.nm 0) (cB D_exchanged G_exchanged (hr.mono (by decide)) (af (cL Q.cw.cl Q.bX (aW.nm 0)) (af (aW.nm 1) (af (aW.nm 2) ao))) (aW.d 0) (aW.g 0))))))) pj
noncomputable abbrev cx:Stmt:=inClass (top 21) 0
theorem cV:VS (ah cx) gj ["Bench","table_of"]:=⟨by decide+kernel⟩
theorem om:bf gj ["self","steps"] (ah cx):=⟨rfl,rfl,rfl,by decide+kernel,rfl,by decide+kernel,by decide+kernel⟩
theorem nR{f:Addr}{fd:FuncData}(B:Bl mg)(Q:Kl K mg)(F:MethAt K av "__init__" "Stairs.__init__" cx ["self","steps"] f fd){a_Bench___init__:Addr}{d_Bench___init__:FuncData}(D_Bench___init__:MethAt K az "__init__" "Bench.__init__" bI ["self","rows"] a_Bench___init__ d_Bench___init__)(G_Bench___init__:ax P w K mg base aJ 3 a_Bench___init__ d_Bench___init__ ["self","rows"] (aL fJ)){a_table_of:Addr}{d_table_of:FuncData}(D_table_of:aF K mg "table_of" "table_of" eN ["steps"] a_table_of d_table_of)(G_table_of:ax P w K mg base aJ 3 a_table_of d_table_of ["steps"] (aL ji)):
 ax P w K mg base aJ 5 f fd ["self","steps"] (aL e7):=
 cJ (N:=gj) F.fn om (fun cdv A outer s H E hr=>(ak (i7 Q.bc.cl Q.ft (cV.nm 0) (zp ⟨Q.cw.II,D_Bench___init__.me.at_,D_Bench___init__.me.fn,Q.cw.kp⟩ G_Bench___init__ (hr.mono (by decide)) (cV.g 0) Q.cw.mg D_Bench___init__.bd (af (cV.nm 1) ao) (cV.d 0)))
  (aE (i7 Q.bc.cl Q.bq (cV.nm 0) (cB D_table_of G_table_of (hr.mono (by decide)) (af (cV.nm 1) ao) (cV.d 1) (cV.g 1)))))) nL
noncomputable abbrev cp:Stmt:=inClass (top 21) 1
theorem gz:VS (ah cp) gA []:=⟨by decide+kernel⟩
theorem o6:bf gA ["self","k"] (ah cp):=⟨rfl,rfl,rfl,by decide+kernel,rfl,by decide+kernel,by decide+kernel⟩
theorem pk{f:Addr}{fd:FuncData}(B:Bl mg)(Q:Kl K mg)(F:MethAt K av "last_of" "Stairs.last_of" cp ["self","k"] f fd):
 ax P w K mg base aJ 1 f fd ["self","k"] (aL cq):=
 cJ (N:=gA) F.fn o6 (fun cdv A outer s H E hr=>(aE (bF (BZ (dW EB (cW _) (gz.nm 1) aq) (bK (bK (cL Q.bc.cl Q.bq (gz.nm 0)) (gz.nm 1)) (gz.nm 1)) aq)))) o5
noncomputable abbrev cO:Stmt:=inClass (top 21) 2
theorem aN:VS (ah cO) g4 ["nearest_quotient","range"]:=⟨by decide+kernel⟩
theorem iV:bf g4 ["self","k","j"] (ah cO):=⟨rfl,rfl,rfl,by decide+kernel,rfl,by decide+kernel,by decide+kernel⟩
theorem qd{f:Addr}{fd:FuncData}(B:Bl mg)(Q:Kl K mg)(F:MethAt K av "lessen" "Stairs.lessen" cO ["self","k","j"] f fd){a_nearest_quotient:Addr}{d_nearest_quotient:FuncData}(D_nearest_quotient:aF K mg "nearest_quotient" "nearest_quotient" bZ ["top","bottom"] a_nearest_quotient d_nearest_quotient)(G_nearest_quotient:ax P w K mg base aJ 1 a_nearest_quotient d_nearest_quotient ["top","bottom"] (aL eW)){a_Bench_take:Addr}{d_Bench_take:FuncData}(D_Bench_take:MethAt K az "take" "Bench.take" dH ["self","k","times","other"] a_Bench_take d_Bench_take)(G_Bench_take:ax P w K mg base aJ 2 a_Bench_take d_Bench_take ["self","k","times","other"] (aL hX)):
 ax P w K mg base aJ 3 f fd ["self","k","j"] (aL eY):=
 cJ (N:=g4) F.fn iV (fun cdv A outer s H E hr=>(ak (aM iV.nd (aN.l 3) (cB D_nearest_quotient G_nearest_quotient (hr.mono (by decide)) (af (bK (bK (cL Q.bc.cl Q.bq (aN.nm 0)) (aN.nm 1)) (aN.nm 2)) (af (bK (bK (cL Q.bc.cl Q.bq (aN.nm 0)) (aN.nm 2)) (aN.nm 2)) ao)) (aN.d 0) (aN.g 0)))
  (ak (gg (dW (lZ hr) (cW _) (aN.nm 3) aq) (aE CS) fA)
  (ak (fv (gK (cL Q.bc.cl Q.ft (aN.nm 0)) Q.cw.cl D_Bench_take.me G_Bench_take (hr.mono (by decide)) D_Bench_take.bd (af (aN.nm 1) (af (aN.nm 3) (af (aN.nm 2) ao)))))
  (aE (eQ (eF (aN.g 1) B.dE (af (ay cP (aN.nm 2) aq) ao)) (el iV.nd (by first|exact Or.inl rfl|exact Or.inr rfl) (by first|exact .inl rfl|exact .inr rfl)) (aE (Aq (bK (cL Q.bc.cl Q.bq (aN.nm 0)) (aN.nm 1)) (aN.nm 4) (ay cD (aN.nm 3) (bK (bK (cL Q.bc.cl Q.bq (aN.nm 0)) (aN.nm 2)) (aN.nm 4))) Ez)))))))) qh
noncomputable abbrev cy:Stmt:=inClass (top 21) 3
theorem bp:VS (ah cy) gk []:=⟨by decide+kernel⟩
theorem g6:bf gk ["self","k"] (ah cy):=⟨rfl,rfl,rfl,by decide+kernel,rfl,by decide+kernel,by decide+kernel⟩
theorem nE{f:Addr}{fd:FuncData}(B:Bl mg)(Q:Kl K mg)(F:MethAt K av "is_steep" "Stairs.is_steep" cy ["self","k"] f fd){a_Stairs_last_of:Addr}{d_Stairs_last_of:FuncData}(D_Stairs_last_of:MethAt K av "last_of" "Stairs.last_of" cp ["self","k"] a_Stairs_last_of d_Stairs_last_of)(G_Stairs_last_of:ax P w K mg base aJ 1 a_Stairs_last_of d_Stairs_last_of ["self","k"] (aL cq)):
 ax P w K mg base aJ 2 f fd ["self","k"] (aL fb):=
 cJ (N:=gk) F.fn g6 (fun cdv A outer s H E hr=>(ak (aM g6.nd (bp.l 2) (bK (bK (cL Q.bc.cl Q.bq (bp.nm 0)) (bp.nm 1)) (ay dv (bp.nm 1) aq)))
  (ak (aM g6.nd (bp.l 3) (gK (bp.nm 0) Q.bc.cl D_Stairs_last_of.me G_Stairs_last_of (hr.mono (by decide)) D_Stairs_last_of.bd (af (ay dv (bp.nm 1) aq) ao)))
  (aE (bF (xn yn (cW _) (ay cD aq (ay cP (ay cD (gK (bp.nm 0) Q.bc.cl D_Stairs_last_of.me G_Stairs_last_of (hr.mono (by decide)) D_Stairs_last_of.bd (af (bp.nm 1) ao)) (gK (bp.nm 0) Q.bc.cl D_Stairs_last_of.me G_Stairs_last_of (hr.mono (by decide)) D_Stairs_last_of.bd (af (ay dv (bp.nm 1) aq) ao))) (ay cD (bp.nm 2) (bp.nm 2)))) (ay cD (ay cD aq (bp.nm 3)) (bp.nm 3)))))))) nJ
noncomputable abbrev dn:Stmt:=inClass (top 21) 4
theorem ai:VS (ah dn) iI ["len","range"]:=⟨by decide+kernel⟩
theorem cT:bf iI ["self","k"] (ah dn):=⟨rfl,rfl,rfl,by decide+kernel,rfl,by decide+kernel,by decide+kernel⟩
theorem se{f:Addr}{fd:FuncData}(B:Bl mg)(Q:Kl K mg)(F:MethAt K av "swap" "Stairs.swap" dn ["self","k"] f fd){a_Bench_exchange:Addr}{d_Bench_exchange:FuncData}(D_Bench_exchange:MethAt K az "exchange" "Bench.exchange" cG ["self","k","other"] a_Bench_exchange d_Bench_exchange)(G_Bench_exchange:ax P w K mg base aJ 2 a_Bench_exchange d_Bench_exchange ["self","k","other"] (aL fB)){a_Stairs_last_of:Addr}{d_Stairs_last_of:FuncData}(D_Stairs_last_of:MethAt K av "last_of" "Stairs.last_of" cp ["self","k"] a_Stairs_last_of d_Stairs_last_of)(G_Stairs_last_of:ax P w K mg base aJ 1 a_Stairs_last_of d_Stairs_last_of ["self","k"] (aL cq)):
 ax P w K mg base aJ 3 f fd ["self","k"] (aL gM):=
 cJ (N:=iI) F.fn cT (fun cdv A outer s H E hr=>(ak (fv (gK (cL Q.bc.cl Q.ft (ai.nm 0)) Q.cw.cl D_Bench_exchange.me G_Bench_exchange (hr.mono (by decide)) D_Bench_exchange.bd (af (ai.nm 1) (af (ay dv (ai.nm 1) aq) ao))))
  (ak (aM cT.nd (ai.l 2) (bK (bK (cL Q.bc.cl Q.bq (ai.nm 0)) (ai.nm 1)) (ay dv (ai.nm 1) aq)))
  (ak (aM cT.nd (ai.l 3) (gK (ai.nm 0) Q.bc.cl D_Stairs_last_of.me G_Stairs_last_of (hr.mono (by decide)) D_Stairs_last_of.bd (af (ai.nm 1) ao)))
  (ak (aM cT.nd (ai.l 4) (gK (ai.nm 0) Q.bc.cl D_Stairs_last_of.me G_Stairs_last_of (hr.mono (by decide)) D_Stairs_last_of.bd (af (ay dv (ai.nm 1) aq) ao)))
  (ak (aM cT.nd (ai.l 5) (ay j5 (ay cP (ay cD (gK (ai.nm 0) Q.bc.cl D_Stairs_last_of.me G_Stairs_last_of (hr.mono (by decide)) D_Stairs_last_of.bd (af (ay dv (ai.nm 1) aq) ao)) (ai.nm 3)) (ay cD (ai.nm 2) (ai.nm 2))) (ai.nm 4)))
  (ak (aM cT.nd (ai.l 6) (mj (bK (cL Q.bc.cl Q.bq (ai.nm 0)) (ai.nm 1)) oC (kD (ay dv (ai.nm 1) aq))))
  (ak (gw (ay uo (mj (bK (cL Q.bc.cl Q.bq (ai.nm 0)) (ay dv (ai.nm 1) aq)) oC (kD (ay dv (ai.nm 1) aq))) (iG (af (ai.nm 2) (af (ai.nm 3) ao)))) (cL Q.bc.cl Q.bq (ai.nm 0)) (ai.nm 1))
  (ak (gw (ay uo (ai.nm 6) (iG (af (ai.nm 5) ao))) (cL Q.bc.cl Q.bq (ai.nm 0)) (ay dv (ai.nm 1) aq))
  (aE (eQ (mO (ai.g 1) B.dE (af (ay cP (ai.nm 1) aq) (af (g9 jT (af (cL Q.bc.cl Q.bq (ai.nm 0)) ao) B.jO rfl iC (ai.d 0) (ai.g 0)) ao))) (el cT.nd (by first|exact Or.inl rfl|exact Or.inr rfl) (by first|exact .inl rfl|exact .inr rfl)) (ak (aM cT.nd (ai.l 8) (bK (cL Q.bc.cl Q.bq (ai.nm 0)) (ai.nm 7)))
  (ak (aM cT.nd (ai.l 9) (ay j5 (ay dv (ay cD (ai.nm 3) (bK (ai.nm 8) (ay dv (ai.nm 1) aq))) (ay cD (ai.nm 2) (bK (ai.nm 8) (ai.nm 1)))) (ai.nm 4)))
  (ak (aM cT.nd (ai.l 10) (ay j5 (ay cP (ay cD (ai.nm 5) (bK (ai.nm 8) (ai.nm 1))) (ay cD (ai.nm 2) (ai.nm 9))) (ai.nm 3)))
  (aE (gw (ay uo (ay cP (mj (ai.nm 8) oC (kD (ay dv (ai.nm 1) aq))) (iG (af (ai.nm 10) (af (ai.nm 9) ao)))) (mj (ai.nm 8) (kD (ay cP (ai.nm 1) aq)) oC)) (cL Q.bc.cl Q.bq (ai.nm 0)) (ai.nm 7))))))))))))))))) rj
noncomputable abbrev cH:Stmt:=inClass (top 21) 5
theorem aK:VS (ah cH) gC ["len","max","range"]:=⟨by decide+kernel⟩
theorem e_:bf gC ["self"] (ah cH):=⟨rfl,rfl,rfl,by decide+kernel,rfl,by decide+kernel,by decide+kernel⟩
theorem o9{f:Addr}{fd:FuncData}(B:Bl mg)(Q:Kl K mg)(F:MethAt K av "shorten" "Stairs.shorten" cH ["self"] f fd){a_Stairs_lessen:Addr}{d_Stairs_lessen:FuncData}(D_Stairs_lessen:MethAt K av "lessen" "Stairs.lessen" cO ["self","k","j"] a_Stairs_lessen d_Stairs_lessen)(G_Stairs_lessen:ax P w K mg base aJ 3 a_Stairs_lessen d_Stairs_lessen ["self","k","j"] (aL eY)){a_Stairs_is_steep:Addr}{d_Stairs_is_steep:FuncData}(D_Stairs_is_steep:MethAt K av "is_steep" "Stairs.is_steep" cy ["self","k"] a_Stairs_is_steep d_Stairs_is_steep)(G_Stairs_is_steep:ax P w K mg base aJ 2 a_Stairs_is_steep d_Stairs_is_steep ["self","k"] (aL fb)){a_Stairs_swap:Addr}{d_Stairs_swap:FuncData}(D_Stairs_swap:MethAt K av "swap" "Stairs.swap" dn ["self","k"] a_Stairs_swap d_Stairs_swap)(G_Stairs_swap:ax P w K mg base aJ 3 a_Stairs_swap d_Stairs_swap ["self","k"] (aL gM)):
 ax P w K mg base aJ 4 f fd ["self"] (aL fI):=
 cJ (N:=gC) F.fn e_ (fun cdv A outer s H E hr=>(ak (aM e_.nd (aK.l 1) aq)
  (aE (Bg (dW yn (cW _) (aK.nm 1) (g9 jT (af (cL Q.bc.cl Q.bq (aK.nm 0)) ao) B.jO rfl iC (aK.d 0) (aK.g 0))) (ak (fv (gK (aK.nm 0) Q.bc.cl D_Stairs_lessen.me G_Stairs_lessen (hr.mono (by decide)) D_Stairs_lessen.bd (af (aK.nm 1) (af (ay dv (aK.nm 1) aq) ao))))
  (aE (gg (u7 (gK (aK.nm 0) Q.bc.cl D_Stairs_is_steep.me G_Stairs_is_steep (hr.mono (by decide)) D_Stairs_is_steep.bd (af (aK.nm 1) ao))) (ak (fv (gK (aK.nm 0) Q.bc.cl D_Stairs_swap.me G_Stairs_swap (hr.mono (by decide)) D_Stairs_swap.bd (af (aK.nm 1) ao)))
  (aE (aM e_.nd (aK.l 1) (g9 (B5 rfl) (af aq (af (ay dv (aK.nm 1) aq) ao)) B.Cm rfl zE (aK.d 1) (aK.g 1))))) (ak (eQ (AR (aK.g 2) B.dE (af (ay dv (aK.nm 1) aq) (af (jd aq) (af (jd aq) ao)))) (el e_.nd (by first|exact Or.inl rfl|exact Or.inr rfl) (by first|exact .inl rfl|exact .inr rfl)) (aE (fv (gK (aK.nm 0) Q.bc.cl D_Stairs_lessen.me G_Stairs_lessen (hr.mono (by decide)) D_Stairs_lessen.bd (af (aK.nm 1) (af (aK.nm 2) ao))))))
  (aE (Ge e_.nd (aK.l 1) aq Ei)))))))))) pe
noncomputable abbrev gQ:Stmt:=top 22
theorem dw:VS (ah gQ) oK ["Stairs","len","turned_over","as_rows"]:=⟨by decide+kernel⟩
theorem pR:bf oK ["steps"] (ah gQ):=⟨rfl,rfl,rfl,by decide+kernel,rfl,by decide+kernel,by decide+kernel⟩
theorem Bc{f:Addr}{fd:FuncData}(B:Bl mg)(Q:Kl K mg)(F:aF K mg "short" "short" gQ ["steps"] f fd){a_Stairs___init__:Addr}{d_Stairs___init__:FuncData}(D_Stairs___init__:MethAt K av "__init__" "Stairs.__init__" cx ["self","steps"] a_Stairs___init__ d_Stairs___init__)(G_Stairs___init__:ax P w K mg base aJ 5 a_Stairs___init__ d_Stairs___init__ ["self","steps"] (aL e7)){a_Stairs_shorten:Addr}{d_Stairs_shorten:FuncData}(D_Stairs_shorten:MethAt K av "shorten" "Stairs.shorten" cH ["self"] a_Stairs_shorten d_Stairs_shorten)(G_Stairs_shorten:ax P w K mg base aJ 4 a_Stairs_shorten d_Stairs_shorten ["self"] (aL fI)){a_turned_over:Addr}{d_turned_over:FuncData}(D_turned_over:aF K mg "turned_over" "turned_over" cR ["rows","wide"] a_turned_over d_turned_over)(G_turned_over:ax P w K mg base aJ 2 a_turned_over d_turned_over ["rows","wide"] (aL gJ)){a_as_rows:Addr}{d_as_rows:FuncData}(D_as_rows:aF K mg "as_rows" "as_rows" eR ["rows"] a_as_rows d_as_rows)(G_as_rows:ax P w K mg base aJ 1 a_as_rows d_as_rows ["rows"] (aL iZ)):
 ax P w K mg base aJ 7 f fd ["steps"] (aL ma):=
 cJ (N:=oK) F.fn pR (fun cdv A outer s H E hr=>(ak (aM pR.nd (dw.l 1) (zp ⟨Q.bc.II,D_Stairs___init__.me.at_,D_Stairs___init__.me.fn,Q.bc.kp⟩ G_Stairs___init__ (hr.mono (by decide)) (dw.g 0) Q.bc.mg D_Stairs___init__.bd (af (dw.nm 0) ao) (dw.d 0)))
  (ak (fv (Cz (dw.nm 1) Q.bc.cl D_Stairs_shorten.me G_Stairs_shorten (hr.mono (by decide)) D_Stairs_shorten.bd))
  (ak (aM pR.nd (dw.l 2) (cL Q.bc.cl Q.ft (dw.nm 1)))
  (aE (bF (Cy (af (cB D_as_rows G_as_rows (hr.mono (by decide)) (af (cL Q.cw.cl Q.d4 (dw.nm 2)) ao) (dw.d 3) (dw.g 3)) (af (cB D_as_rows G_as_rows (hr.mono (by decide)) (af (cL Q.cw.cl Q.dX (dw.nm 2)) ao) (dw.d 3) (dw.g 3)) (af (cB D_turned_over G_turned_over (hr.mono (by decide)) (af (cL Q.cw.cl Q.bX (dw.nm 2)) (af (g9 jT (af (dw.nm 0) ao) B.jO rfl iC (dw.d 1) (dw.g 1)) ao)) (dw.d 2) (dw.g 2)) ao)))))))))) A7
noncomputable abbrev fC:Stmt:=top 24
theorem jL:VS (ah fC) mN ["len"]:=⟨by decide+kernel⟩
theorem y9:bf mN ["_law_script","_law_k"] (ah fC):=⟨rfl,rfl,rfl,by decide+kernel,rfl,by decide+kernel,by decide+kernel⟩
theorem yS{f:Addr}{fd:FuncData}(B:Bl mg)(Q:Kl K mg)(F:aF K mg "_law_at" "_law_at" fC ["_law_script","_law_k"] f fd):
 ax P w K mg base aJ 1 f fd ["_law_script","_law_k"] (aL iS):=
 cJ (N:=mN) F.fn y9 (fun cdv A outer s H E hr=>(ak (gg (dW yn (cW _) (jL.nm 1) (g9 jT (af (jL.nm 0) ao) B.jO rfl iC (jL.d 0) (jL.g 0))) (aE (bF (bK (jL.nm 0) (jL.nm 1)))) fA)
  (aE (bF aq)))) zu
noncomputable abbrev eM:Stmt:=top 25
theorem bw:VS (ah eM) kr ["_law_at","abs","range"]:=⟨by decide+kernel⟩
theorem fY:bf kr ["_law_script","_law_k"] (ah eM):=⟨rfl,rfl,rfl,by decide+kernel,rfl,by decide+kernel,by decide+kernel⟩
theorem vO{f:Addr}{fd:FuncData}(B:Bl mg)(Q:Kl K mg)(F:aF K mg "_law_left" "_law_left" eM ["_law_script","_law_k"] f fd){a_law_at:Addr}{d_law_at:FuncData}(D_law_at:aF K mg "_law_at" "_law_at" fC ["_law_script","_law_k"] a_law_at d_law_at)(G_law_at:ax P w K mg base aJ 1 a_law_at d_law_at ["_law_script","_law_k"] (aL iS)):
 ax P w K mg base aJ 2 f fd ["_law_script","_law_k"] (aL iu):=
 cJ (N:=kr) F.fn fY (fun cdv A outer s H E hr=>(ak (aM fY.nd (bw.l 2) (cB D_law_at G_law_at (hr.mono (by decide)) (af (bw.nm 0) (af (bw.nm 1) ao)) (bw.d 0) (bw.g 0)))
  (ak (gg (dW EB (cW _) (g9 BG (af (bw.nm 2) ao) B.B4 rfl yG (bw.d 1) (bw.g 1)) (ay xj aq aq)) (aE (bF (lB (af (g9 BG (af (bw.nm 2) ao) B.B4 rfl yG (bw.d 1) (bw.g 1)) ao)))) fA)
  (ak (aM fY.nd (bw.l 3) (ay kv (ay cD (ay cP (ay cP (ay kv (bw.nm 2) aq) (ay cD aq (bw.nm 1))) aq) aq) aq))
  (ak (aM fY.nd (bw.l 4) aq)
  (ak (eQ (eF (bw.g 2) B.dE (af aq ao)) (el fY.nd (by first|exact Or.inl rfl|exact Or.inr rfl) (by first|exact .inl rfl|exact .inr rfl)) (ak (aM fY.nd (bw.l 3) (ay kv (ay cP (ay cP (ay cD (bw.nm 3) (bw.nm 3)) (ay cD aq (bw.nm 5))) aq) aq))
  (aE (aM fY.nd (bw.l 4) (ay cP (ay cD (bw.nm 4) aq) (bw.nm 3))))))
  (aE (bF (lB (af (bw.nm 4) ao)))))))))) vJ
noncomputable abbrev dq:Stmt:=top 26
theorem fX:VS (ah dq) jY []:=⟨by decide+kernel⟩
theorem nC:bf jY ["_law_left_here","_law_many"] (ah dq):=⟨rfl,rfl,rfl,by decide+kernel,rfl,by decide+kernel,by decide+kernel⟩
theorem uj{f:Addr}{fd:FuncData}(B:Bl mg)(Q:Kl K mg)(F:aF K mg "_law_digit" "_law_digit" dq ["_law_left_here","_law_many"] f fd):
 ax P w K mg base aJ 1 f fd ["_law_left_here","_law_many"] (aL bY):=
 cJ (N:=jY) F.fn nC (fun cdv A outer s H E hr=>(ak (aM nC.nd (fX.l 2) (ay kv (bK (fX.nm 0) aq) (fX.nm 1)))
  (ak (gw (ay j5 (bK (fX.nm 0) aq) (fX.nm 1)) (fX.nm 0) aq)
  (aE (bF (fX.nm 2)))))) vm
noncomputable abbrev dM:Stmt:=top 27
theorem bE:VS (ah dM) jm ["_law_digit"]:=⟨by decide+kernel⟩
theorem ni:bf jm ["_law_left_here","_law_kind"] (ah dM):=⟨rfl,rfl,rfl,by decide+kernel,rfl,by decide+kernel,by decide+kernel⟩
theorem sY{f:Addr}{fd:FuncData}(B:Bl mg)(Q:Kl K mg)(F:aF K mg "_law_number" "_law_number" dM ["_law_left_here","_law_kind"] f fd){a_law_digit:Addr}{d_law_digit:FuncData}(D_law_digit:aF K mg "_law_digit" "_law_digit" dq ["_law_left_here","_law_many"] a_law_digit d_law_digit)(G_law_digit:ax P w K mg base aJ 1 a_law_digit d_law_digit ["_law_left_here","_law_many"] (aL bY)):
 ax P w K mg base aJ 2 f fd ["_law_left_here","_law_kind"] (aL gr):=
 cJ (N:=jm) F.fn ni (fun cdv A outer s H E hr=>(ak (gg (dW (lZ hr) (cW _) (bE.nm 1) aq) (aE (bF (ay cP (ay dv (cB D_law_digit G_law_digit (hr.mono (by decide)) (af (bE.nm 0) (af (ay dv (ay cD aq (ay xj aq aq)) aq) ao)) (bE.d 0) (bE.g 0)) (ay xj aq aq)) aq))) fA)
  (ak (gg (x9 (yq (dW (lZ hr) (cW _) (bE.nm 1) aq) (v_ (dW (lZ hr) (cW _) (cB D_law_digit G_law_digit (hr.mono (by decide)) (af (bE.nm 0) (af aq ao)) (bE.d 0) (bE.g 0)) aq)))) (aE (bF (ay dv (cB D_law_digit G_law_digit (hr.mono (by decide)) (af (bE.nm 0) (af aq ao)) (bE.d 0) (bE.g 0)) aq))) fA)
  (ak (aM ni.nd (bE.l 2) (bK (iG (af aq (af aq (af aq (af aq (af aq ao)))))) (bE.nm 1)))
  (aE (bF (ay dv (cB D_law_digit G_law_digit (hr.mono (by decide)) (af (bE.nm 0) (af (ay cP (ay cD aq (bE.nm 2)) aq) ao)) (bE.d 0) (bE.g 0)) (bE.nm 2)))))))) tj
noncomputable abbrev dU:Stmt:=top 28
theorem kh:VS (ah dU) ko ["range","tuple"]:=⟨by decide+kernel⟩
theorem vB:bf ko ["_law_left_here","_law_many","_law_wide","_law_kind"] (ah dU):=⟨rfl,rfl,rfl,by decide+kernel,rfl,by decide+kernel,by decide+kernel⟩
theorem vI{f:Addr}{fd:FuncData}(B:Bl mg)(Q:Kl K mg)(F:aF K mg "_law_rows" "_law_rows" dU ["_law_left_here","_law_many","_law_wide","_law_kind"] f fd){a_law_number:Addr}{d_law_number:FuncData}(D_law_number:aF K mg "_law_number" "_law_number" dM ["_law_left_here","_law_kind"] a_law_number d_law_number)(G_law_number:ax P w K mg base aJ 2 a_law_number d_law_number ["_law_left_here","_law_kind"] (aL gr)):
 ax P w K mg base aJ 3 f fd ["_law_left_here","_law_many","_law_wide","_law_kind"] (aL gE):=
 cJ (N:=ko) F.fn vB (fun cdv A outer s H E hr=>(aE (bF (jn gT (af (fR (Nc:=["_law_j","_law_wide","_law_left_here","_law_kind"]) (cc.look (ah dU) ["_law_left_here","_law_many","_law_wide","_law_kind"] (by decide+kernel)) (eF (kh.g 0) B.dE (af (kh.nm 1) ao)) (fun _ _ _ _=>(el (show(["_law_j","_law_wide","_law_left_here","_law_kind"]:List Str).Nodup by decide+kernel) (by first|exact Or.inl rfl|exact Or.inr rfl) (by first|exact .inl rfl|exact .inr rfl))) (fun _ _ _ _=>dF) (fun _ _ _ _=>(jn gT (af (fR (Nc:=["_law_k","_law_left_here","_law_kind"]) (cc.BI (by decide+kernel)) (eF rfl B.dE (af eS ao)) (fun _ _ _ _=>(el (show(["_law_k","_law_left_here","_law_kind"]:List Str).Nodup by decide+kernel) (by first|exact Or.inl rfl|exact Or.inr rfl) (by first|exact .inl rfl|exact .inr rfl))) (fun _ _ _ _=>dF) (fun _ _ _ _=>(cB D_law_number G_law_number (hr.mono (by decide)) (af eS (af eS ao)) (by decide+kernel) rfl)) d8) ao) B.gU rfl f_ (by decide+kernel) rfl)) d8) ao) B.gU rfl f_ (kh.d 1) (kh.g 1))))) vM
noncomputable abbrev du:Stmt:=top 29
theorem aQ:VS (ah du) jR ["_law_digit","max","_law_rows"]:=⟨by decide+kernel⟩
theorem fH:bf jR ["_law_left_here"] (ah du):=⟨rfl,rfl,rfl,by decide+kernel,rfl,by decide+kernel,by decide+kernel⟩
theorem uu{f:Addr}{fd:FuncData}(B:Bl mg)(Q:Kl K mg)(F:aF K mg "_law_drawn" "_law_drawn" du ["_law_left_here"] f fd){a_law_digit:Addr}{d_law_digit:FuncData}(D_law_digit:aF K mg "_law_digit" "_law_digit" dq ["_law_left_here","_law_many"] a_law_digit d_law_digit)(G_law_digit:ax P w K mg base aJ 1 a_law_digit d_law_digit ["_law_left_here","_law_many"] (aL bY)){a_law_rows:Addr}{d_law_rows:FuncData}(D_law_rows:aF K mg "_law_rows" "_law_rows" dU ["_law_left_here","_law_many","_law_wide","_law_kind"] a_law_rows d_law_rows)(G_law_rows:ax P w K mg base aJ 3 a_law_rows d_law_rows ["_law_left_here","_law_many","_law_wide","_law_kind"] (aL gE)):
 ax P w K mg base aJ 4 f fd ["_law_left_here"] (aL iB):=
 cJ (N:=jR) F.fn fH (fun cdv A outer s H E hr=>(ak (aM fH.nd (aQ.l 1) (bK (iG (af aq (af aq (af aq (af aq (af aq (af aq (af aq (af aq ao))))))))) (cB D_law_digit G_law_digit (hr.mono (by decide)) (af (aQ.nm 0) (af aq ao)) (aQ.d 0) (aQ.g 0))))
  (ak (aM fH.nd (aQ.l 2) (ay cP aq (cB D_law_digit G_law_digit (hr.mono (by decide)) (af (aQ.nm 0) (af aq ao)) (aQ.d 0) (aQ.g 0))))
  (ak (aM fH.nd (aQ.l 3) (ay cP (aQ.nm 2) (cB D_law_digit G_law_digit (hr.mono (by decide)) (af (aQ.nm 0) (af aq ao)) (aQ.d 0) (aQ.g 0))))
  (ak (gg (dW (lZ hr) (cW _) (aQ.nm 1) aq) (aE (EF fH.nd (by decide) (show(ah du).names.lookup ("_law_many":Str)=some .local by decide+kernel) (show(ah du).names.lookup ("_law_wide":Str)=some .local by decide+kernel) (af (ay cP aq (ay kv (aQ.nm 2) aq)) (af (ay cP aq (ay kv (aQ.nm 3) aq)) ao)))) fA)
  (ak (gg (dW (lZ hr) (cW _) (aQ.nm 1) aq) (ak (aM fH.nd (aQ.l 2) (ay cP aq (ay kv (aQ.nm 2) aq)))
  (aE (aM fH.nd (aQ.l 3) (g9 (B5 rfl) (af (aQ.nm 2) (af (ay cP aq (ay kv (aQ.nm 3) aq)) ao)) B.Cm rfl zE (aQ.d 1) (aQ.g 1))))) fA)
  (aE (bF (cB D_law_rows G_law_rows (hr.mono (by decide)) (af (aQ.nm 0) (af (aQ.nm 2) (af (aQ.nm 3) (af (aQ.nm 1) ao)))) (aQ.d 2) (aQ.g 2)))))))))) vk
noncomputable abbrev eh:Stmt:=top 30
theorem jZ:VS (ah eh) lF ["zip","sum"]:=⟨by decide+kernel⟩
theorem xN:bf lF ["_law_one","_law_other"] (ah eh):=⟨rfl,rfl,rfl,by decide+kernel,rfl,by decide+kernel,by decide+kernel⟩
theorem yb{f:Addr}{fd:FuncData}(B:Bl mg)(Q:Kl K mg)(F:aF K mg "_law_dot" "_law_dot" eh ["_law_one","_law_other"] f fd):
 ax P w K mg base aJ 1 f fd ["_law_one","_law_other"] (aL fQ):=
 cJ (N:=lF) F.fn xN (fun cdv A outer s H E hr=>(aE (bF (g9 (BQ rfl) (af (fR (Nc:=["_law_a","_law_b"]) (cc.look (ah eh) ["_law_one","_law_other"] (by decide+kernel)) (oF (jZ.g 0) B.m_ (af (jZ.nm 0) (af (jZ.nm 1) ao))) (fun _ _ _ _=>(oH rfl (show(["_law_a","_law_b"]:List Str).Nodup by decide+kernel) (by first|exact Or.inl rfl|exact Or.inr rfl) (by first|exact .inl rfl|exact .inr rfl) (by first|exact Or.inl rfl|exact Or.inr rfl) (by first|exact .inl rfl|exact .inr rfl))) (fun _ _ _ _=>dF) (fun _ _ _ _=>(ay cD eS eS)) oU) ao) B.Bw rfl yu (jZ.d 1) (jZ.g 1))))) xk
noncomputable abbrev fj:Stmt:=top 31
theorem aH:VS (ah fj) lH ["len","range","_law_dot"]:=⟨by decide+kernel⟩
theorem dS:bf lH ["_law_steps"] (ah fj):=⟨rfl,rfl,rfl,by decide+kernel,rfl,by decide+kernel,by decide+kernel⟩
theorem xh{f:Addr}{fd:FuncData}(B:Bl mg)(Q:Kl K mg)(F:aF K mg "_law_own" "_law_own" fj ["_law_steps"] f fd){a_law_dot:Addr}{d_law_dot:FuncData}(D_law_dot:aF K mg "_law_dot" "_law_dot" eh ["_law_one","_law_other"] a_law_dot d_law_dot)(G_law_dot:ax P w K mg base aJ 1 a_law_dot d_law_dot ["_law_one","_law_other"] (aL fQ)):
 ax P w K mg base aJ 2 f fd ["_law_steps"] (aL iX):=
 cJ (N:=lH) F.fn dS (fun cdv A outer s H E hr=>(ak (aM dS.nd (aH.l 1) (lB (af aq ao)))
  (ak (aM dS.nd (aH.l 2) (lB ao))
  (ak (eQ (jX (aH.nm 0)) (el dS.nd (by first|exact Or.inl rfl|exact Or.inr rfl) (by first|exact .inl rfl|exact .inr rfl)) (ak (aM dS.nd (aH.l 4) (lB ao))
  (ak (eQ (eF (aH.g 1) B.dE (af (ay cP (g9 jT (af (aH.nm 2) ao) B.jO rfl iC (aH.d 0) (aH.g 0)) aq) ao)) (el dS.nd (by first|exact Or.inl rfl|exact Or.inr rfl) (by first|exact .inl rfl|exact .inr rfl)) (ak (aM dS.nd (aH.l 6) (cB D_law_dot G_law_dot (hr.mono (by decide)) (af (aH.nm 3) (af (bK (aH.nm 0) (aH.nm 5)) ao)) (aH.d 2) (aH.g 2)))
  (ak (aM dS.nd (aH.l 7) (bK (ay Gp (aH.nm 2) (iG (af (aH.nm 4) ao))) (aH.nm 5)))
  (ak (eQ (eF (aH.g 1) B.dE (af (aH.nm 5) ao)) (el dS.nd (by first|exact Or.inl rfl|exact Or.inr rfl) (by first|exact .inl rfl|exact .inr rfl)) (ak (aM dS.nd (aH.l 9) (ay cD (bK (aH.nm 4) (aH.nm 8)) (bK (aH.nm 7) (aH.nm 8))))
  (aE (aM dS.nd (aH.l 6) (ay j5 (ay dv (ay cD (bK (aH.nm 1) (ay cP (aH.nm 8) aq)) (aH.nm 6)) (aH.nm 9)) (bK (aH.nm 1) (aH.nm 8)))))))
  (aE (fv (hZ (aH.nm 4) (aH.nm 6))))))))
  (ak (gg (dW (lZ hr) (cW _) (bK (aH.nm 4) (jd aq)) aq) (aE (bF yk)) fA)
  (ak (fv (hZ (aH.nm 1) (bK (aH.nm 4) (jd aq))))
  (aE (fv (hZ (aH.nm 2) (aH.nm 4)))))))))
  (aE (bF (Cy (af (aH.nm 1) (af (aH.nm 2) ao))))))))) wY
noncomputable abbrev cS:Stmt:=top 32
theorem bo:VS (ah cS) iM ["len","zip","tuple"]:=⟨by decide+kernel⟩
theorem fu:bf iM ["_law_one","_law_other"] (ah cS):=⟨rfl,rfl,rfl,by decide+kernel,rfl,by decide+kernel,by decide+kernel⟩
theorem rR{f:Addr}{fd:FuncData}(B:Bl mg)(Q:Kl K mg)(F:aF K mg "_law_product" "_law_product" cS ["_law_one","_law_other"] f fd):
 ax P w K mg base aJ 1 f fd ["_law_one","_law_other"] (aL gL):=
 cJ (N:=iM) F.fn fu (fun cdv A outer s H E hr=>(ak (aM fu.nd (bo.l 2) (lB ao))
  (ak (eQ (jX (bo.nm 0)) (el fu.nd (by first|exact Or.inl rfl|exact Or.inr rfl) (by first|exact .inl rfl|exact .inr rfl)) (ak (aM fu.nd (bo.l 4) (ay cD (iG (af aq ao)) (g9 jT (af (bK (bo.nm 1) aq) ao) B.jO rfl iC (bo.d 0) (bo.g 0))))
  (ak (eQ (oF (bo.g 1) B.m_ (af (bo.nm 3) (af (bo.nm 1) ao))) (oH rfl fu.nd (by first|exact Or.inl rfl|exact Or.inr rfl) (by first|exact .inl rfl|exact .inr rfl) (by first|exact Or.inl rfl|exact Or.inr rfl) (by first|exact .inl rfl|exact .inr rfl)) (aE (CV fu.nd (bo.l 4) (Nc:=["_law_a","_law_b","_law_weight"]) (cc.look (ah cS) ["_law_one","_law_other","_law_found","_law_weights_here","_law_made","_law_weight","_law_row"] (by decide+kernel)) (oF (bo.g 1) B.m_ (af (bo.nm 4) (af (bo.nm 6) ao))) (fun _ _ _ _=>(oH rfl (show(["_law_a","_law_b","_law_weight"]:List Str).Nodup by decide+kernel) (by first|exact Or.inl rfl|exact Or.inr rfl) (by first|exact .inl rfl|exact .inr rfl) (by first|exact Or.inl rfl|exact Or.inr rfl) (by first|exact .inl rfl|exact .inr rfl))) (fun _ _ _ _=>dF) (fun _ _ _ _=>(ay cP eS (ay cD eS eS))) oU)))
  (aE (fv (hZ (bo.nm 2) (jn gT (af (bo.nm 4) ao) B.gU rfl f_ (bo.d 2) (bo.g 2))))))))
  (aE (bF (jn gT (af (bo.nm 2) ao) B.gU rfl f_ (bo.d 2) (bo.g 2))))))) r9
noncomputable abbrev cM:Stmt:=top 33
theorem cA:VS (ah cM) iF ["range"]:=⟨by decide+kernel⟩
theorem eE:bf iF ["_law_left_here","_law_n"] (ah cM):=⟨rfl,rfl,rfl,by decide+kernel,rfl,by decide+kernel,by decide+kernel⟩
theorem r_{f:Addr}{fd:FuncData}(B:Bl mg)(Q:Kl K mg)(F:aF K mg "_law_weights" "_law_weights" cM ["_law_left_here","_law_n"] f fd){a_law_digit:Addr}{d_law_digit:FuncData}(D_law_digit:aF K mg "_law_digit" "_law_digit" dq ["_law_left_here","_law_many"] a_law_digit d_law_digit)(G_law_digit:ax P w K mg base aJ 1 a_law_digit d_law_digit ["_law_left_here","_law_many"] (aL bY)):
 ax P w K mg base aJ 2 f fd ["_law_left_here","_law_n"] (aL gG):=
 cJ (N:=iF) F.fn eE (fun cdv A outer s H E hr=>(ak (gg (dW Az (cW _) (cA.nm 1) aq) (aE (bF (fR (Nc:=["_law_j","_law_n","_law_left_here"]) (cc.look (ah cM) ["_law_left_here","_law_n","_law_found","_law_k","_law_grown","_law_row"] (by decide+kernel)) (eF (cA.g 0) B.dE (af aq ao)) (fun _ _ _ _=>(el (show(["_law_j","_law_n","_law_left_here"]:List Str).Nodup by decide+kernel) (by first|exact Or.inl rfl|exact Or.inr rfl) (by first|exact .inl rfl|exact .inr rfl))) (fun _ _ _ _=>dF) (fun _ _ _ _=>(fR (Nc:=["_law_k","_law_left_here"]) (cc.BI (by decide+kernel)) (eF rfl B.dE (af eS ao)) (fun _ _ _ _=>(el (show(["_law_k","_law_left_here"]:List Str).Nodup by decide+kernel) (by first|exact Or.inl rfl|exact Or.inr rfl) (by first|exact .inl rfl|exact .inr rfl))) (fun _ _ _ _=>dF) (fun _ _ _ _=>(ay dv (cB D_law_digit G_law_digit (hr.mono (by decide)) (af eS (af aq ao)) (by decide+kernel) rfl) aq)) d8)) d8))) fA)
  (ak (aM eE.nd (cA.l 2) (iG (af (iG ao) ao)))
  (ak (eQ (eF (cA.g 0) B.dE (af (cA.nm 1) ao)) (el eE.nd (by first|exact Or.inl rfl|exact Or.inr rfl) (by first|exact .inl rfl|exact .inr rfl)) (ak (aM eE.nd (cA.l 4) (iG ao))
  (ak (eQ (jX (cA.nm 2)) (el eE.nd (by first|exact Or.inl rfl|exact Or.inr rfl) (by first|exact .inl rfl|exact .inr rfl)) (aE (aM eE.nd (cA.l 4) (ay cP (cA.nm 4) (fR (Nc:=["_law_weight","_law_row"]) (cc.look (ah cM) ["_law_left_here","_law_n","_law_found","_law_k","_law_grown","_law_row"] (by decide+kernel)) (mO (cA.g 0) B.dE (af (jd aq) (af aq ao))) (fun _ _ _ _=>(el (show(["_law_weight","_law_row"]:List Str).Nodup by decide+kernel) (by first|exact Or.inl rfl|exact Or.inr rfl) (by first|exact .inl rfl|exact .inr rfl))) (fun _ _ _ _=>dF) (fun _ _ _ _=>(ay cP eS (iG (af eS ao)))) d8)))))
  (aE (aM eE.nd (cA.l 2) (cA.nm 4))))))
  (aE (bF (cA.nm 2))))))) rD
noncomputable abbrev cE:Stmt:=top 34
theorem cF:VS (ah cE) gB ["range"]:=⟨by decide+kernel⟩
theorem gh:bf gB ["_law_number_here","_law_n","_law_other"] (ah cE):=⟨rfl,rfl,rfl,by decide+kernel,rfl,by decide+kernel,by decide+kernel⟩
theorem o8{f:Addr}{fd:FuncData}(B:Bl mg)(Q:Kl K mg)(F:aF K mg "_law_power_fits" "_law_power_fits" cE ["_law_number_here","_law_n","_law_other"] f fd):
 ax P w K mg base aJ 1 f fd ["_law_number_here","_law_n","_law_other"] (aL fx):=
 cJ (N:=gB) F.fn gh (fun cdv A outer s H E hr=>(ak (aM gh.nd (cF.l 3) aq)
  (ak (eQ (eF (cF.g 0) B.dE (af (cF.nm 1) ao)) (el gh.nd (by first|exact Or.inl rfl|exact Or.inr rfl) (by first|exact .inl rfl|exact .inr rfl)) (aE (aM gh.nd (cF.l 3) (ay cD (cF.nm 3) (cF.nm 0)))))
  (aE (bF (xn Jy (cW _) (cF.nm 3) (ay Cg (cF.nm 2) (ay j5 (ay cD (cF.nm 1) (ay dv (cF.nm 1) aq)) aq)))))))) pq
noncomputable abbrev ir:Stmt:=top 35
theorem aI:VS (ah ir) tT ["len","range","_law_left","_law_drawn","_law_own","short","_law_dot","_law_power_fits","_law_at","_law_weights","_law_product","any"]:=⟨by decide+kernel⟩
theorem gn:bf tT ["_law_script"] (ah ir):=⟨rfl,rfl,rfl,by decide+kernel,rfl,by decide+kernel,by decide+kernel⟩
theorem GC{f:Addr}{fd:FuncData}(B:Bl mg)(Q:Kl K mg)(F:aF K mg "law" "law" ir ["_law_script"] f fd){a_law_left:Addr}{d_law_left:FuncData}(D_law_left:aF K mg "_law_left" "_law_left" eM ["_law_script","_law_k"] a_law_left d_law_left)(G_law_left:ax P w K mg base aJ 2 a_law_left d_law_left ["_law_script","_law_k"] (aL iu)){a_law_drawn:Addr}{d_law_drawn:FuncData}(D_law_drawn:aF K mg "_law_drawn" "_law_drawn" du ["_law_left_here"] a_law_drawn d_law_drawn)(G_law_drawn:ax P w K mg base aJ 4 a_law_drawn d_law_drawn ["_law_left_here"] (aL iB)){a_law_own:Addr}{d_law_own:FuncData}(D_law_own:aF K mg "_law_own" "_law_own" fj ["_law_steps"] a_law_own d_law_own)(G_law_own:ax P w K mg base aJ 2 a_law_own d_law_own ["_law_steps"] (aL iX)){a_short:Addr}{d_short:FuncData}(D_short:aF K mg "short" "short" gQ ["steps"] a_short d_short)(G_short:ax P w K mg base aJ 7 a_short d_short ["steps"] (aL ma)){a_law_dot:Addr}{d_law_dot:FuncData}(D_law_dot:aF K mg "_law_dot" "_law_dot" eh ["_law_one","_law_other"] a_law_dot d_law_dot)(G_law_dot:ax P w K mg base aJ 1 a_law_dot d_law_dot ["_law_one","_law_other"] (aL fQ)){a_law_power_fits:Addr}{d_law_power_fits:FuncData}(D_law_power_fits:aF K mg "_law_power_fits" "_law_power_fits" cE ["_law_number_here","_law_n","_law_other"] a_law_power_fits d_law_power_fits)(G_law_power_fits:ax P w K mg base aJ 1 a_law_power_fits d_law_power_fits ["_law_number_here","_law_n","_law_other"] (aL fx)){a_law_at:Addr}{d_law_at:FuncData}(D_law_at:aF K mg "_law_at" "_law_at" fC ["_law_script","_law_k"] a_law_at d_law_at)(G_law_at:ax P w K mg base aJ 1 a_law_at d_law_at ["_law_script","_law_k"] (aL iS)){a_law_weights:Addr}{d_law_weights:FuncData}(D_law_weights:aF K mg "_law_weights" "_law_weights" cM ["_law_left_here","_law_n"] a_law_weights d_law_weights)(G_law_weights:ax P w K mg base aJ 2 a_law_weights d_law_weights ["_law_left_here","_law_n"] (aL gG)){a_law_product:Addr}{d_law_product:FuncData}(D_law_product:aF K mg "_law_product" "_law_product" cS ["_law_one","_law_other"] a_law_product d_law_product)(G_law_product:ax P w K mg base aJ 1 a_law_product d_law_product ["_law_one","_law_other"] (aL gL)):
 ax P w K mg base aJ 8 f fd ["_law_script"] (aL xw):=
 cJ (N:=tT) F.fn gn (fun cdv A outer s H E hr=>(ak (eQ (mO (aI.g 1) B.dE (af aq (af (ay cP aq (g9 jT (af (mj (aI.nm 0) (kD aq) (kD aq)) ao) B.jO rfl iC (aI.d 0) (aI.g 0))) ao))) (el gn.nd (by first|exact Or.inl rfl|exact Or.inr rfl) (by first|exact .inl rfl|exact .inr rfl)) (ak (aM gn.nd (aI.l 2) (cB D_law_left G_law_left (hr.mono (by decide)) (af (aI.nm 0) (af (aI.nm 1) ao)) (aI.d 2) (aI.g 2)))
  (ak (aM gn.nd (aI.l 3) (cB D_law_drawn G_law_drawn (hr.mono (by decide)) (af (aI.nm 2) ao) (aI.d 3) (aI.g 3)))
  (ak (aM gn.nd (aI.l 4) (cB D_law_own G_law_own (hr.mono (by decide)) (af (aI.nm 3) ao) (aI.d 4) (aI.g 4)))
  (ak (gg (dW F_ (cW _) (aI.nm 4) yk) (aE vD) fA)
  (ak (aM gn.nd (aI.l 5) (g9 jT (af (aI.nm 3) ao) B.jO rfl iC (aI.d 0) (aI.g 0)))
  (ak (aM gn.nd (aI.l 6) (bK (cB D_short G_short (hr.mono (by decide)) (af (aI.nm 3) ao) (aI.d 5) (aI.g 5)) aq))
  (ak (aM gn.nd (aI.l 7) (cB D_law_dot G_law_dot (hr.mono (by decide)) (af (bK (aI.nm 6) aq) (af (bK (aI.nm 6) aq) ao)) (aI.d 6) (aI.g 6)))
  (ak (gg (x9 (Ip (dW (lZ hr) (cW _) (aI.nm 7) aq) (Gh (FR (u7 (cB D_law_power_fits G_law_power_fits (hr.mono (by decide)) (af (aI.nm 7) (af (aI.nm 5) (af (bK (bK (aI.nm 4) aq) (jd aq)) ao))) (aI.d 7) (aI.g 7))))))) (aE (bF uf)) fA)
  (ak (aM gn.nd (aI.l 8) (cB D_law_left G_law_left (hr.mono (by decide)) (af (ay cD (iG (af (ay kv (cB D_law_at G_law_at (hr.mono (by decide)) (af (aI.nm 0) (af (aI.nm 1) ao)) (aI.d 8) (aI.g 8)) aq) ao)) (ay cP (aI.nm 1) aq)) (af (ay cP (aI.nm 1) aq) ao)) (aI.d 2) (aI.g 2)))
  (ak (eQ (jX (cB D_law_product G_law_product (hr.mono (by decide)) (af (cB D_law_weights G_law_weights (hr.mono (by decide)) (af (aI.nm 8) (af (aI.nm 5) ao)) (aI.d 9) (aI.g 9)) (af (aI.nm 3) ao)) (aI.d 10) (aI.g 10))) (el gn.nd (by first|exact Or.inl rfl|exact Or.inr rfl) (by first|exact .inl rfl|exact .inr rfl)) (ak (aM gn.nd (aI.l 10) (cB D_law_dot G_law_dot (hr.mono (by decide)) (af (aI.nm 9) (af (aI.nm 9) ao)) (aI.d 6) (aI.g 6)))
  (aE (gg (x9 (yq (dW Az (cW _) (aI.nm 10) aq) (v_ (dW Az (cW _) (aI.nm 7) (ay Cg (aI.nm 10) (ay dv (aI.nm 5) aq)))))) (aE (bF uf)) fA))))
  (ak (aM gn.nd (aI.l 11) (cB D_law_own G_law_own (hr.mono (by decide)) (af (aI.nm 6) ao) (aI.d 4) (aI.g 4)))
  (ak (gg (dW F_ (cW _) (aI.nm 11) yk) (aE (bF uf)) fA)
  (ak (aM gn.nd (aI.l 12) (bK (aI.nm 11) aq))
  (aE (gg (u7 (g9 (HD rfl) (af (fR (Nc:=["_law_j","_law_grown"]) (cc.look (ah ir) ["_law_script","_law_k","_law_left_here","_law_steps","_law_due","_law_n","_law_made","_law_least","_law_more","_law_row","_law_square","_law_found","_law_grown"] (by decide+kernel)) (mO (aI.g 1) B.dE (af aq (af (aI.nm 5) ao))) (fun _ _ _ _=>(el (show(["_law_j","_law_grown"]:List Str).Nodup by decide+kernel) (by first|exact Or.inl rfl|exact Or.inr rfl) (by first|exact .inl rfl|exact .inr rfl))) (fun _ _ _ _=>dF) (fun _ _ _ _=>(xn yn (cW _) (ay cD (ay cD aq (bK eS (ay cP eS aq))) (bK eS (ay dv eS aq))) (ay EK (bK eS eS) aq))) d8) ao) B.HS rfl EL (aI.d 11) (aI.g 11))) (aE (bF uf)) fA))))))))))))))))
  (aE (bF uf)))) Gk
end
theorem all_mk{l:PySem.W.OpenLaw}{w:World}{K:PySem.W.Frag}{h:Heap}{mg:Str→Option Value}{fa:Addr}(X:K.In h)(G:h.Ns mainGlobals mg)(hfa:mg "law"=some (.ref fa))
 {od0 an0:Option Addr} {sl0:Array (Option Value)} {oc0 kV0 dc0 pm0 cd0 ct0:Value} {f0:Addr}
 {od1 an1:Option Addr} {sl1:Array (Option Value)} {oc1 kV1 dc1 pm1 cd1 ct1:Value} {f1:Addr}
 {od2 an2:Option Addr} {sl2:Array (Option Value)} {oc2 kV2 dc2 pm2 cd2 ct2:Value} {f2:Addr}
 {od3 an3:Option Addr} {sl3:Array (Option Value)} {oc3 kV3 dc3 pm3 cd3 ct3:Value} {f3:Addr}
 {od4 an4:Option Addr} {sl4:Array (Option Value)} {oc4 kV4 dc4 pm4 cd4 ct4:Value} {f4:Addr}
 {od5 an5:Option Addr} {sl5:Array (Option Value)} {oc5 kV5 dc5 pm5 cd5 ct5:Value} {f5:Addr}
 {od6 an6:Option Addr} {sl6:Array (Option Value)} {oc6 kV6 dc6 pm6 cd6 ct6:Value} {f6:Addr}
 {od7 an7:Option Addr} {sl7:Array (Option Value)} {oc7 kV7 dc7 pm7 cd7 ct7:Value} {f7:Addr}
 {od8 an8:Option Addr} {sl8:Array (Option Value)} {oc8 kV8 dc8 pm8 cd8 ct8:Value} {f8:Addr}
 {od9 an9:Option Addr} {sl9:Array (Option Value)} {oc9 kV9 dc9 pm9 cd9 ct9:Value} {f9:Addr}
 {od10 an10:Option Addr} {sl10:Array (Option Value)} {oc10 kV10 dc10 pm10 cd10 ct10:Value} {f10:Addr}
 {od11 an11:Option Addr} {sl11:Array (Option Value)} {oc11 kV11 dc11 pm11 cd11 ct11:Value} {f11:Addr}
 {od12 an12:Option Addr} {sl12:Array (Option Value)} {oc12 kV12 dc12 pm12 cd12 ct12:Value} {f12:Addr}
 {od13 an13:Option Addr} {sl13:Array (Option Value)} {oc13 kV13 dc13 pm13 cd13 ct13:Value} {f13:Addr}
 {od14 an14:Option Addr} {sl14:Array (Option Value)} {oc14 kV14 dc14 pm14 cd14 ct14:Value} {f14:Addr}
 {od15 an15:Option Addr} {sl15:Array (Option Value)} {oc15 kV15 dc15 pm15 cd15 ct15:Value} {f15:Addr}
 {od16 an16:Option Addr} {sl16:Array (Option Value)} {oc16 kV16 dc16 pm16 cd16 ct16:Value} {f16:Addr}
 {od17 an17:Option Addr} {sl17:Array (Option Value)} {oc17 kV17 dc17 pm17 cd17 ct17:Value} {f17:Addr}
 {od18 an18:Option Addr} {sl18:Array (Option Value)} {oc18 kV18 dc18 pm18 cd18 ct18:Value} {f18:Addr}
 {od19 an19:Option Addr} {sl19:Array (Option Value)} {oc19 kV19 dc19 pm19 cd19 ct19:Value} {f19:Addr}
 {od20 an20:Option Addr} {sl20:Array (Option Value)} {oc20 kV20 dc20 pm20 cd20 ct20:Value} {f20:Addr}
 {od21 an21:Option Addr} {sl21:Array (Option Value)} {oc21 kV21 dc21 pm21 cd21 ct21:Value} {f21:Addr}
 {od22 an22:Option Addr} {sl22:Array (Option Value)} {oc22 kV22 dc22 pm22 cd22 ct22:Value} {f22:Addr}
 {od23 an23:Option Addr} {sl23:Array (Option Value)} {oc23 kV23 dc23 pm23 cd23 ct23:Value} {f23:Addr}
 {od24 an24:Option Addr} {sl24:Array (Option Value)} {oc24 kV24 dc24 pm24 cd24 ct24:Value} {f24:Addr}
 {od25 an25:Option Addr} {sl25:Array (Option Value)} {oc25 kV25 dc25 pm25 cd25 ct25:Value} {f25:Addr}
 {od26 an26:Option Addr} {sl26:Array (Option Value)} {oc26 kV26 dc26 pm26 cd26 ct26:Value} {f26:Addr}
 {od27 an27:Option Addr} {sl27:Array (Option Value)} {oc27 kV27 dc27 pm27 cd27 ct27:Value} {f27:Addr}
 {od28 an28:Option Addr} {sl28:Array (Option Value)} {oc28 kV28 dc28 pm28 cd28 ct28:Value} {f28:Addr}
 {od29 an29:Option Addr} {sl29:Array (Option Value)} {oc29 kV29 dc29 pm29 cd29 ct29:Value} {f29:Addr}
 {od30 an30:Option Addr} {sl30:Array (Option Value)} {oc30 kV30 dc30 pm30 cd30 ct30:Value} {f30:Addr}
 {od31 an31:Option Addr} {sl31:Array (Option Value)} {oc31 kV31 dc31 pm31 cd31 ct31:Value} {f31:Addr}
 {od32 an32:Option Addr} {sl32:Array (Option Value)} {oc32 kV32 dc32 pm32 cd32 ct32:Value} {f32:Addr}
 {od33 an33:Option Addr} {sl33:Array (Option Value)} {oc33 kV33 dc33 pm33 cd33 ct33:Value} {f33:Addr}
 (a0:PySem.W.nsIn K mainGlobals "as_rows"=some (some (.ref f0))) (l0:K.lookup f0=some ⟨oc0,od0,.func (PySem.W.fnOf "as_rows" "as_rows" (aY eR) (aV eR) (ah eR) .none kV0 dc0 pm0 an0 cd0 ct0),sl0⟩) (c0:PySem.W.codeIn K cd0 "as_rows"=true) (k0:PySem.W.keepIn K (.ref f0)=true)
 (a1:PySem.W.nsIn K mainGlobals "added"=some (some (.ref f1))) (l1:K.lookup f1=some ⟨oc1,od1,.func (PySem.W.fnOf "added" "added" (aY gq) (aV gq) (ah gq) .none kV1 dc1 pm1 an1 cd1 ct1),sl1⟩) (c1:PySem.W.codeIn K cd1 "added"=true) (k1:PySem.W.keepIn K (.ref f1)=true)
 (a2:PySem.W.nsIn K mainGlobals "column"=some (some (.ref f2))) (l2:K.lookup f2=some ⟨oc2,od2,.func (PySem.W.fnOf "column" "column" (aY fF) (aV fF) (ah fF) .none kV2 dc2 pm2 an2 cd2 ct2),sl2⟩) (c2:PySem.W.codeIn K cd2 "column"=true) (k2:PySem.W.keepIn K (.ref f2)=true)
 (a3:PySem.W.nsIn K mainGlobals "turned_over"=some (some (.ref f3))) (l3:K.lookup f3=some ⟨oc3,od3,.func (PySem.W.fnOf "turned_over" "turned_over" (aY cR) (aV cR) (ah cR) .none kV3 dc3 pm3 an3 cd3 ct3),sl3⟩) (c3:PySem.W.codeIn K cd3 "turned_over"=true) (k3:PySem.W.keepIn K (.ref f3)=true)
 (a4:PySem.W.nsIn K mainGlobals "unit_row"=some (some (.ref f4))) (l4:K.lookup f4=some ⟨oc4,od4,.func (PySem.W.fnOf "unit_row" "unit_row" (aY dR) (aV dR) (ah dR) .none kV4 dc4 pm4 an4 cd4 ct4),sl4⟩) (c4:PySem.W.codeIn K cd4 "unit_row"=true) (k4:PySem.W.keepIn K (.ref f4)=true)
 (a5:PySem.W.nsIn K mainGlobals "unit_rows"=some (some (.ref f5))) (l5:K.lookup f5=some ⟨oc5,od5,.func (PySem.W.fnOf "unit_rows" "unit_rows" (aY dG) (aV dG) (ah dG) .none kV5 dc5 pm5 an5 cd5 ct5),sl5⟩) (c5:PySem.W.codeIn K cd5 "unit_rows"=true) (k5:PySem.W.keepIn K (.ref f5)=true)
 (a6:PySem.W.nsIn K mainGlobals "dot"=some (some (.ref f6))) (l6:K.lookup f6=some ⟨oc6,od6,.func (PySem.W.fnOf "dot" "dot" (aY jw) (aV jw) (ah jw) .none kV6 dc6 pm6 an6 cd6 ct6),sl6⟩) (c6:PySem.W.codeIn K cd6 "dot"=true) (k6:PySem.W.keepIn K (.ref f6)=true)
 (a7:PySem.W.nsIn K mainGlobals "cleared"=some (some (.ref f7))) (l7:K.lookup f7=some ⟨oc7,od7,.func (PySem.W.fnOf "cleared" "cleared" (aY fh) (aV fh) (ah fh) .none kV7 dc7 pm7 an7 cd7 ct7),sl7⟩) (c7:PySem.W.codeIn K cd7 "cleared"=true) (k7:PySem.W.keepIn K (.ref f7)=true)
 (a8:PySem.W.nsIn K mainGlobals "line_of"=some (some (.ref f8))) (l8:K.lookup f8=some ⟨oc8,od8,.func (PySem.W.fnOf "line_of" "line_of" (aY fi) (aV fi) (ah fi) .none kV8 dc8 pm8 an8 cd8 ct8),sl8⟩) (c8:PySem.W.codeIn K cd8 "line_of"=true) (k8:PySem.W.keepIn K (.ref f8)=true)
 (a9:PySem.W.nsIn K mainGlobals "table_of"=some (some (.ref f9))) (l9:K.lookup f9=some ⟨oc9,od9,.func (PySem.W.fnOf "table_of" "table_of" (aY eN) (aV eN) (ah eN) .none kV9 dc9 pm9 an9 cd9 ct9),sl9⟩) (c9:PySem.W.codeIn K cd9 "table_of"=true) (k9:PySem.W.keepIn K (.ref f9)=true)
 (a10:PySem.W.nsIn K mainGlobals "nearest_quotient"=some (some (.ref f10))) (l10:K.lookup f10=some ⟨oc10,od10,.func (PySem.W.fnOf "nearest_quotient" "nearest_quotient" (aY bZ) (aV bZ) (ah bZ) .none kV10 dc10 pm10 an10 cd10 ct10),sl10⟩) (c10:PySem.W.codeIn K cd10 "nearest_quotient"=true) (k10:PySem.W.keepIn K (.ref f10)=true)
 (a11:PySem.W.nsIn K mainGlobals "exchanged"=some (some (.ref f11))) (l11:K.lookup f11=some ⟨oc11,od11,.func (PySem.W.fnOf "exchanged" "exchanged" (aY dQ) (aV dQ) (ah dQ) .none kV11 dc11 pm11 an11 cd11 ct11),sl11⟩) (c11:PySem.W.codeIn K cd11 "exchanged"=true) (k11:PySem.W.keepIn K (.ref f11)=true)
 (a12:PySem.W.findIn K (.ref az) "__init__"=some (some (.ref f12))) (i12:PySem.W.isFn K (.ref f12)=true) (l12:K.lookup f12=some ⟨oc12,od12,.func (PySem.W.fnOf "__init__" "Bench.__init__" (aY bI) (aV bI) (ah bI) .none kV12 dc12 pm12 an12 cd12 ct12),sl12⟩) (c12:PySem.W.codeIn K cd12 "Bench.__init__"=true) (k12:PySem.W.keepIn K (.ref f12)=true)
 (a13:PySem.W.findIn K (.ref az) "take"=some (some (.ref f13))) (i13:PySem.W.isFn K (.ref f13)=true) (l13:K.lookup f13=some ⟨oc13,od13,.func (PySem.W.fnOf "take" "Bench.take" (aY dH) (aV dH) (ah dH) .none kV13 dc13 pm13 an13 cd13 ct13),sl13⟩) (c13:PySem.W.codeIn K cd13 "Bench.take"=true) (k13:PySem.W.keepIn K (.ref f13)=true)
 (a14:PySem.W.findIn K (.ref az) "exchange"=some (some (.ref f14))) (i14:PySem.W.isFn K (.ref f14)=true) (l14:K.lookup f14=some ⟨oc14,od14,.func (PySem.W.fnOf "exchange" "Bench.exchange" (aY cG) (aV cG) (ah cG) .none kV14 dc14 pm14 an14 cd14 ct14),sl14⟩) (c14:PySem.W.codeIn K cd14 "Bench.exchange"=true) (k14:PySem.W.keepIn K (.ref f14)=true)
 (a15:PySem.W.findIn K (.ref av) "__init__"=some (some (.ref f15))) (i15:PySem.W.isFn K (.ref f15)=true) (l15:K.lookup f15=some ⟨oc15,od15,.func (PySem.W.fnOf "__init__" "Stairs.__init__" (aY cx) (aV cx) (ah cx) .none kV15 dc15 pm15 an15 cd15 ct15),sl15⟩) (c15:PySem.W.codeIn K cd15 "Stairs.__init__"=true) (k15:PySem.W.keepIn K (.ref f15)=true)
 (a16:PySem.W.findIn K (.ref av) "last_of"=some (some (.ref f16))) (i16:PySem.W.isFn K (.ref f16)=true) (l16:K.lookup f16=some ⟨oc16,od16,.func (PySem.W.fnOf "last_of" "Stairs.last_of" (aY cp) (aV cp) (ah cp) .none kV16 dc16 pm16 an16 cd16 ct16),sl16⟩) (c16:PySem.W.codeIn K cd16 "Stairs.last_of"=true) (k16:PySem.W.keepIn K (.ref f16)=true)
 (a17:PySem.W.findIn K (.ref av) "lessen"=some (some (.ref f17))) (i17:PySem.W.isFn K (.ref f17)=true) (l17:K.lookup f17=some ⟨oc17,od17,.func (PySem.W.fnOf "lessen" "Stairs.lessen" (aY cO) (aV cO) (ah cO) .none kV17 dc17 pm17 an17 cd17 ct17),sl17⟩) (c17:PySem.W.codeIn K cd17 "Stairs.lessen"=true) (k17:PySem.W.keepIn K (.ref f17)=true)
 (a18:PySem.W.findIn K (.ref av) "is_steep"=some (some (.ref f18))) (i18:PySem.W.isFn K (.ref f18)=true) (l18:K.lookup f18=some ⟨oc18,od18,.func (PySem.W.fnOf "is_steep" "Stairs.is_steep" (aY cy) (aV cy) (ah cy) .none kV18 dc18 pm18 an18 cd18 ct18),sl18⟩) (c18:PySem.W.codeIn K cd18 "Stairs.is_steep"=true) (k18:PySem.W.keepIn K (.ref f18)=true)
 (a19:PySem.W.findIn K (.ref av) "swap"=some (some (.ref f19))) (i19:PySem.W.isFn K (.ref f19)=true) (l19:K.lookup f19=some ⟨oc19,od19,.func (PySem.W.fnOf "swap" "Stairs.swap" (aY dn) (aV dn) (ah dn) .none kV19 dc19 pm19 an19 cd19 ct19),sl19⟩) (c19:PySem.W.codeIn K cd19 "Stairs.swap"=true) (k19:PySem.W.keepIn K (.ref f19)=true)
 (a20:PySem.W.findIn K (.ref av) "shorten"=some (some (.ref f20))) (i20:PySem.W.isFn K (.ref f20)=true) (l20:K.lookup f20=some ⟨oc20,od20,.func (PySem.W.fnOf "shorten" "Stairs.shorten" (aY cH) (aV cH) (ah cH) .none kV20 dc20 pm20 an20 cd20 ct20),sl20⟩) (c20:PySem.W.codeIn K cd20 "Stairs.shorten"=true) (k20:PySem.W.keepIn K (.ref f20)=true)
 (a21:PySem.W.nsIn K mainGlobals "short"=some (some (.ref f21))) (l21:K.lookup f21=some ⟨oc21,od21,.func (PySem.W.fnOf "short" "short" (aY gQ) (aV gQ) (ah gQ) .none kV21 dc21 pm21 an21 cd21 ct21),sl21⟩) (c21:PySem.W.codeIn K cd21 "short"=true) (k21:PySem.W.keepIn K (.ref f21)=true)
 (a22:PySem.W.nsIn K mainGlobals "_law_at"=some (some (.ref f22))) (l22:K.lookup f22=some ⟨oc22,od22,.func (PySem.W.fnOf "_law_at" "_law_at" (aY fC) (aV fC) (ah fC) .none kV22 dc22 pm22 an22 cd22 ct22),sl22⟩) (c22:PySem.W.codeIn K cd22 "_law_at"=true) (k22:PySem.W.keepIn K (.ref f22)=true)
 (a23:PySem.W.nsIn K mainGlobals "_law_left"=some (some (.ref f23))) (l23:K.lookup f23=some ⟨oc23,od23,.func (PySem.W.fnOf "_law_left" "_law_left" (aY eM) (aV eM) (ah eM) .none kV23 dc23 pm23 an23 cd23 ct23),sl23⟩) (c23:PySem.W.codeIn K cd23 "_law_left"=true) (k23:PySem.W.keepIn K (.ref f23)=true)
 (a24:PySem.W.nsIn K mainGlobals "_law_digit"=some (some (.ref f24))) (l24:K.lookup f24=some ⟨oc24,od24,.func (PySem.W.fnOf "_law_digit" "_law_digit" (aY dq) (aV dq) (ah dq) .none kV24 dc24 pm24 an24 cd24 ct24),sl24⟩) (c24:PySem.W.codeIn K cd24 "_law_digit"=true) (k24:PySem.W.keepIn K (.ref f24)=true)
 (a25:PySem.W.nsIn K mainGlobals "_law_number"=some (some (.ref f25))) (l25:K.lookup f25=some ⟨oc25,od25,.func (PySem.W.fnOf "_law_number" "_law_number" (aY dM) (aV dM) (ah dM) .none kV25 dc25 pm25 an25 cd25 ct25),sl25⟩) (c25:PySem.W.codeIn K cd25 "_law_number"=true) (k25:PySem.W.keepIn K (.ref f25)=true)
 (a26:PySem.W.nsIn K mainGlobals "_law_rows"=some (some (.ref f26))) (l26:K.lookup f26=some ⟨oc26,od26,.func (PySem.W.fnOf "_law_rows" "_law_rows" (aY dU) (aV dU) (ah dU) .none kV26 dc26 pm26 an26 cd26 ct26),sl26⟩) (c26:PySem.W.codeIn K cd26 "_law_rows"=true) (k26:PySem.W.keepIn K (.ref f26)=true)
 (a27:PySem.W.nsIn K mainGlobals "_law_drawn"=some (some (.ref f27))) (l27:K.lookup f27=some ⟨oc27,od27,.func (PySem.W.fnOf "_law_drawn" "_law_drawn" (aY du) (aV du) (ah du) .none kV27 dc27 pm27 an27 cd27 ct27),sl27⟩) (c27:PySem.W.codeIn K cd27 "_law_drawn"=true) (k27:PySem.W.keepIn K (.ref f27)=true)
 (a28:PySem.W.nsIn K mainGlobals "_law_dot"=some (some (.ref f28))) (l28:K.lookup f28=some ⟨oc28,od28,.func (PySem.W.fnOf "_law_dot" "_law_dot" (aY eh) (aV eh) (ah eh) .none kV28 dc28 pm28 an28 cd28 ct28),sl28⟩) (c28:PySem.W.codeIn K cd28 "_law_dot"=true) (k28:PySem.W.keepIn K (.ref f28)=true)
 (a29:PySem.W.nsIn K mainGlobals "_law_own"=some (some (.ref f29))) (l29:K.lookup f29=some ⟨oc29,od29,.func (PySem.W.fnOf "_law_own" "_law_own" (aY fj) (aV fj) (ah fj) .none kV29 dc29 pm29 an29 cd29 ct29),sl29⟩) (c29:PySem.W.codeIn K cd29 "_law_own"=true) (k29:PySem.W.keepIn K (.ref f29)=true)
 (a30:PySem.W.nsIn K mainGlobals "_law_product"=some (some (.ref f30))) (l30:K.lookup f30=some ⟨oc30,od30,.func (PySem.W.fnOf "_law_product" "_law_product" (aY cS) (aV cS) (ah cS) .none kV30 dc30 pm30 an30 cd30 ct30),sl30⟩) (c30:PySem.W.codeIn K cd30 "_law_product"=true) (k30:PySem.W.keepIn K (.ref f30)=true)
 (a31:PySem.W.nsIn K mainGlobals "_law_weights"=some (some (.ref f31))) (l31:K.lookup f31=some ⟨oc31,od31,.func (PySem.W.fnOf "_law_weights" "_law_weights" (aY cM) (aV cM) (ah cM) .none kV31 dc31 pm31 an31 cd31 ct31),sl31⟩) (c31:PySem.W.codeIn K cd31 "_law_weights"=true) (k31:PySem.W.keepIn K (.ref f31)=true)
 (a32:PySem.W.nsIn K mainGlobals "_law_power_fits"=some (some (.ref f32))) (l32:K.lookup f32=some ⟨oc32,od32,.func (PySem.W.fnOf "_law_power_fits" "_law_power_fits" (aY cE) (aV cE) (ah cE) .none kV32 dc32 pm32 an32 cd32 ct32),sl32⟩) (c32:PySem.W.codeIn K cd32 "_law_power_fits"=true) (k32:PySem.W.keepIn K (.ref f32)=true)
 (a33:PySem.W.nsIn K mainGlobals "law"=some (some (.ref f33))) (l33:K.lookup f33=some ⟨oc33,od33,.func (PySem.W.fnOf "law" "law" (aY ir) (aV ir) (ah ir) .none kV33 dc33 pm33 an33 cd33 ct33),sl33⟩) (c33:PySem.W.codeIn K cd33 "law"=true) (k33:PySem.W.keepIn K (.ref f33)=true)
 (z_tuple:PySem.W.nsIn K mainGlobals "tuple"=some none)
 (z_zip:PySem.W.nsIn K mainGlobals "zip"=some none)
 (z_range:PySem.W.nsIn K mainGlobals "range"=some none)
 (z_sum:PySem.W.nsIn K mainGlobals "sum"=some none)
 (z_list:PySem.W.nsIn K mainGlobals "list"=some none)
 (z_len:PySem.W.nsIn K mainGlobals "len"=some none)
 (z_max:PySem.W.nsIn K mainGlobals "max"=some none)
 (z_abs:PySem.W.nsIn K mainGlobals "abs"=some none)
 (z_any:PySem.W.nsIn K mainGlobals "any"=some none)
 (ca_Bench:PySem.W.nsIn K mainGlobals "Bench"=some (some (.ref az))) (cb_Bench:PySem.W.plainGet K az Str.empty=true) (cc_Bench:PySem.W.hasDictIn K az=true) (cd_Bench:PySem.W.plainOver K az=true) (ce_Bench:PySem.W.findIn K (.ref az) "__setattr__"=some (some (.builtin "object.__setattr__"))) (cf_Bench:PySem.W.makesIn K az=true) (cg_Bench:PySem.W.keepIn K (.ref az)=true)
 (ca_Stairs:PySem.W.nsIn K mainGlobals "Stairs"=some (some (.ref av))) (cb_Stairs:PySem.W.plainGet K av Str.empty=true) (cc_Stairs:PySem.W.hasDictIn K av=true) (cd_Stairs:PySem.W.plainOver K av=true) (ce_Stairs:PySem.W.findIn K (.ref av) "__setattr__"=some (some (.builtin "object.__setattr__"))) (cf_Stairs:PySem.W.makesIn K av=true) (cg_Stairs:PySem.W.keepIn K (.ref av)=true)
 (d4:PySem.W.findIn K (.ref az) "body"=some none)
 (dX:PySem.W.findIn K (.ref az) "turn"=some none)
 (bX:PySem.W.findIn K (.ref az) "back_columns"=some none)
 (ft:PySem.W.findIn K (.ref av) "bench"=some none)
 (bq:PySem.W.findIn K (.ref av) "table"=some none)
 (nl:vi K=true):
 ∃fd:FuncData,(∀(s:Shared) (v:Value),BindsTo s fd ⟨[v],[]⟩ [("_law_script",v)])∧∀base:Heap,K.In base→base.Ns mainGlobals mg→ax l.prog w K mg base aJ 8 fa fd ["_law_script"] (qz K []):=by
 have e:=hfa.symm.trans (PySem.W.mg_of X G a33)
 cases e
 have B:Bl mg:=⟨PySem.W.mg_none_of X G z_tuple,PySem.W.mg_none_of X G z_zip,PySem.W.mg_none_of X G z_range,PySem.W.mg_none_of X G z_sum,PySem.W.mg_none_of X G z_list,PySem.W.mg_none_of X G z_len,PySem.W.mg_none_of X G z_max,PySem.W.mg_none_of X G z_abs,PySem.W.mg_none_of X G z_any⟩
 have Q:Kl K mg:=⟨⟨⟨cb_Bench,cc_Bench,cd_Bench,ce_Bench⟩,PySem.W.mg_of X G ca_Bench,cf_Bench,cg_Bench⟩,⟨⟨cb_Stairs,cc_Stairs,cd_Stairs,ce_Stairs⟩,PySem.W.mg_of X G ca_Stairs,cf_Stairs,cg_Stairs⟩,d4,dX,bX,ft,bq⟩
 have F0:=bS (st:=eR) l0 c0 k0
 have D0:aF K mg "as_rows" "as_rows" eR ["rows"] f0 _:=⟨F0,PySem.W.mg_of X G a0,sG F0 fun _ _ _ _ _ _ _=>rfl⟩
 have F1:=bS (st:=gq) l1 c1 k1
 have D1:aF K mg "added" "added" gq ["row","times","other"] f1 _:=⟨F1,PySem.W.mg_of X G a1,wc F1 fun _ _ _ _ _ _ _ _ _=>rfl⟩
 have F2:=bS (st:=fF) l2 c2 k2
 have D2:aF K mg "column" "column" fF ["rows","place"] f2 _:=⟨F2,PySem.W.mg_of X G a2,kc F2 fun _ _ _ _ _ _ _ _=>rfl⟩
 have F3:=bS (st:=cR) l3 c3 k3
 have D3:aF K mg "turned_over" "turned_over" cR ["rows","wide"] f3 _:=⟨F3,PySem.W.mg_of X G a3,kc F3 fun _ _ _ _ _ _ _ _=>rfl⟩
 have F4:=bS (st:=dR) l4 c4 k4
 have D4:aF K mg "unit_row" "unit_row" dR ["n","place"] f4 _:=⟨F4,PySem.W.mg_of X G a4,kc F4 fun _ _ _ _ _ _ _ _=>rfl⟩
 have F5:=bS (st:=dG) l5 c5 k5
 have D5:aF K mg "unit_rows" "unit_rows" dG ["n"] f5 _:=⟨F5,PySem.W.mg_of X G a5,sG F5 fun _ _ _ _ _ _ _=>rfl⟩
 have F6:=bS (st:=jw) l6 c6 k6
 have D6:aF K mg "dot" "dot" jw ["one","other"] f6 _:=⟨F6,PySem.W.mg_of X G a6,kc F6 fun _ _ _ _ _ _ _ _=>rfl⟩
 have F7:=bS (st:=fh) l7 c7 k7
 have D7:aF K mg "cleared" "cleared" fh ["together","table","one","other"] f7 _:=⟨F7,PySem.W.mg_of X G a7,GI F7 fun _ _ _ _ _ _ _ _ _ _=>rfl⟩
 have F8:=bS (st:=fi) l8 c8 k8
 have D8:aF K mg "line_of" "line_of" fi ["table","steps","row"] f8 _:=⟨F8,PySem.W.mg_of X G a8,wc F8 fun _ _ _ _ _ _ _ _ _=>rfl⟩
 have F9:=bS (st:=eN) l9 c9 k9
 have D9:aF K mg "table_of" "table_of" eN ["steps"] f9 _:=⟨F9,PySem.W.mg_of X G a9,sG F9 fun _ _ _ _ _ _ _=>rfl⟩
 have F10:=bS (st:=bZ) l10 c10 k10
 have D10:aF K mg "nearest_quotient" "nearest_quotient" bZ ["top","bottom"] f10 _:=⟨F10,PySem.W.mg_of X G a10,kc F10 fun _ _ _ _ _ _ _ _=>rfl⟩
 have F11:=bS (st:=dQ) l11 c11 k11
 have D11:aF K mg "exchanged" "exchanged" dQ ["rows","k","other"] f11 _:=⟨F11,PySem.W.mg_of X G a11,wc F11 fun _ _ _ _ _ _ _ _ _=>rfl⟩
 have F12:=bS (st:=bI) l12 c12 k12
 have D12:MethAt K az "__init__" "Bench.__init__" bI ["self","rows"] f12 _:=⟨F12,⟨a12,i12,k12⟩,kc F12 fun _ _ _ _ _ _ _ _=>rfl⟩
 have F13:=bS (st:=dH) l13 c13 k13
 have D13:MethAt K az "take" "Bench.take" dH ["self","k","times","other"] f13 _:=⟨F13,⟨a13,i13,k13⟩,GI F13 fun _ _ _ _ _ _ _ _ _ _=>rfl⟩
 have F14:=bS (st:=cG) l14 c14 k14
 have D14:MethAt K az "exchange" "Bench.exchange" cG ["self","k","other"] f14 _:=⟨F14,⟨a14,i14,k14⟩,wc F14 fun _ _ _ _ _ _ _ _ _=>rfl⟩
 have F15:=bS (st:=cx) l15 c15 k15
 have D15:MethAt K av "__init__" "Stairs.__init__" cx ["self","steps"] f15 _:=⟨F15,⟨a15,i15,k15⟩,kc F15 fun _ _ _ _ _ _ _ _=>rfl⟩
 have F16:=bS (st:=cp) l16 c16 k16
 have D16:MethAt K av "last_of" "Stairs.last_of" cp ["self","k"] f16 _:=⟨F16,⟨a16,i16,k16⟩,kc F16 fun _ _ _ _ _ _ _ _=>rfl⟩
 have F17:=bS (st:=cO) l17 c17 k17
 have D17:MethAt K av "lessen" "Stairs.lessen" cO ["self","k","j"] f17 _:=⟨F17,⟨a17,i17,k17⟩,wc F17 fun _ _ _ _ _ _ _ _ _=>rfl⟩
 have F18:=bS (st:=cy) l18 c18 k18
 have D18:MethAt K av "is_steep" "Stairs.is_steep" cy ["self","k"] f18 _:=⟨F18,⟨a18,i18,k18⟩,kc F18 fun _ _ _ _ _ _ _ _=>rfl⟩
 have F19:=bS (st:=dn) l19 c19 k19
 have D19:MethAt K av "swap" "Stairs.swap" dn ["self","k"] f19 _:=⟨F19,⟨a19,i19,k19⟩,kc F19 fun _ _ _ _ _ _ _ _=>rfl⟩
 have F20:=bS (st:=cH) l20 c20 k20
 have D20:MethAt K av "shorten" "Stairs.shorten" cH ["self"] f20 _:=⟨F20,⟨a20,i20,k20⟩,sG F20 fun _ _ _ _ _ _ _=>rfl⟩
 have F21:=bS (st:=gQ) l21 c21 k21
 have D21:aF K mg "short" "short" gQ ["steps"] f21 _:=⟨F21,PySem.W.mg_of X G a21,sG F21 fun _ _ _ _ _ _ _=>rfl⟩
 have F22:=bS (st:=fC) l22 c22 k22
 have D22:aF K mg "_law_at" "_law_at" fC ["_law_script","_law_k"] f22 _:=⟨F22,PySem.W.mg_of X G a22,kc F22 fun _ _ _ _ _ _ _ _=>rfl⟩
 have F23:=bS (st:=eM) l23 c23 k23
 have D23:aF K mg "_law_left" "_law_left" eM ["_law_script","_law_k"] f23 _:=⟨F23,PySem.W.mg_of X G a23,kc F23 fun _ _ _ _ _ _ _ _=>rfl⟩
 have F24:=bS (st:=dq) l24 c24 k24
 have D24:aF K mg "_law_digit" "_law_digit" dq ["_law_left_here","_law_many"] f24 _:=⟨F24,PySem.W.mg_of X G a24,kc F24 fun _ _ _ _ _ _ _ _=>rfl⟩
 have F25:=bS (st:=dM) l25 c25 k25
 have D25:aF K mg "_law_number" "_law_number" dM ["_law_left_here","_law_kind"] f25 _:=⟨F25,PySem.W.mg_of X G a25,kc F25 fun _ _ _ _ _ _ _ _=>rfl⟩
 have F26:=bS (st:=dU) l26 c26 k26
 have D26:aF K mg "_law_rows" "_law_rows" dU ["_law_left_here","_law_many","_law_wide","_law_kind"] f26 _:=⟨F26,PySem.W.mg_of X G a26,GI F26 fun _ _ _ _ _ _ _ _ _ _=>rfl⟩
 have F27:=bS (st:=du) l27 c27 k27
 have D27:aF K mg "_law_drawn" "_law_drawn" du ["_law_left_here"] f27 _:=⟨F27,PySem.W.mg_of X G a27,sG F27 fun _ _ _ _ _ _ _=>rfl⟩
 have F28:=bS (st:=eh) l28 c28 k28
 have D28:aF K mg "_law_dot" "_law_dot" eh ["_law_one","_law_other"] f28 _:=⟨F28,PySem.W.mg_of X G a28,kc F28 fun _ _ _ _ _ _ _ _=>rfl⟩
 have F29:=bS (st:=fj) l29 c29 k29
 have D29:aF K mg "_law_own" "_law_own" fj ["_law_steps"] f29 _:=⟨F29,PySem.W.mg_of X G a29,sG F29 fun _ _ _ _ _ _ _=>rfl⟩
 have F30:=bS (st:=cS) l30 c30 k30
 have D30:aF K mg "_law_product" "_law_product" cS ["_law_one","_law_other"] f30 _:=⟨F30,PySem.W.mg_of X G a30,kc F30 fun _ _ _ _ _ _ _ _=>rfl⟩
 have F31:=bS (st:=cM) l31 c31 k31
 have D31:aF K mg "_law_weights" "_law_weights" cM ["_law_left_here","_law_n"] f31 _:=⟨F31,PySem.W.mg_of X G a31,kc F31 fun _ _ _ _ _ _ _ _=>rfl⟩
 have F32:=bS (st:=cE) l32 c32 k32
 have D32:aF K mg "_law_power_fits" "_law_power_fits" cE ["_law_number_here","_law_n","_law_other"] f32 _:=⟨F32,PySem.W.mg_of X G a32,wc F32 fun _ _ _ _ _ _ _ _ _=>rfl⟩
 have F33:=bS (st:=ir) l33 c33 k33
 have D33:aF K mg "law" "law" ir ["_law_script"] fa _:=⟨F33,PySem.W.mg_of X G a33,sG F33 fun _ _ _ _ _ _ _=>rfl⟩
 refine⟨PySem.W.fnOf "law" "law" (aY ir) (aV ir) (ah ir) .none kV33 dc33 pm33 an33 cd33 ct33,fun s v=> .of_eq rfl,fun base _ _=>?_⟩
 have G0:ax l.prog w K mg base aJ 1 f0 _ ["rows"] (aL iZ):=w4 B Q D0
 have G1:ax l.prog w K mg base aJ 1 f1 _ ["row","times","other"] (aL jD):=AJ B Q D1
 have G2:ax l.prog w K mg base aJ 1 f2 _ ["rows","place"] (aL kT):=yL B Q D2
 have G3:ax l.prog w K mg base aJ 2 f3 _ ["rows","wide"] (aL gJ):=rN B Q D3 D2 G2
 have G4:ax l.prog w K mg base aJ 1 f4 _ ["n","place"] (aL i9):=vx B Q D4
 have G5:ax l.prog w K mg base aJ 2 f5 _ ["n"] (aL gP):=vf B Q D5 D4 G4
 have G6:ax l.prog w K mg base aJ 1 f6 _ ["one","other"] (aL mV):=Fv B Q D6
 have G7:ax l.prog w K mg base aJ 1 f7 _ ["together","table","one","other"] (aL i5):=x_ B Q D7
 have G8:ax l.prog w K mg base aJ 2 f8 _ ["table","steps","row"] (aL ka):=xB B Q D8 D6 G6 D7 G7
 have G9:ax l.prog w K mg base aJ 3 f9 _ ["steps"] (aL ji):=vL B Q D9 D8 G8
 have G10:ax l.prog w K mg base aJ 1 f10 _ ["top","bottom"] (aL eW):=nr B Q D10
 have G11:ax l.prog w K mg base aJ 1 f11 _ ["rows","k","other"] (aL gc):=uZ B Q D11
 have G12:ax l.prog w K mg base aJ 3 f12 _ ["self","rows"] (aL fJ):=oZ B Q D12 D5 G5
 have G13:ax l.prog w K mg base aJ 2 f13 _ ["self","k","times","other"] (aL hX):=tm B Q D13 D1 G1
 have G14:ax l.prog w K mg base aJ 2 f14 _ ["self","k","other"] (aL fB):=o_ B Q D14 D11 G11
 have G15:ax l.prog w K mg base aJ 5 f15 _ ["self","steps"] (aL e7):=nR B Q D15 D12 G12 D9 G9
 have G16:ax l.prog w K mg base aJ 1 f16 _ ["self","k"] (aL cq):=pk B Q D16
 have G17:ax l.prog w K mg base aJ 3 f17 _ ["self","k","j"] (aL eY):=qd B Q D17 D10 G10 D13 G13
 have G18:ax l.prog w K mg base aJ 2 f18 _ ["self","k"] (aL fb):=nE B Q D18 D16 G16
 have G19:ax l.prog w K mg base aJ 3 f19 _ ["self","k"] (aL gM):=se B Q D19 D14 G14 D16 G16
 have G20:ax l.prog w K mg base aJ 4 f20 _ ["self"] (aL fI):=o9 B Q D20 D17 G17 D18 G18 D19 G19
 have G21:ax l.prog w K mg base aJ 7 f21 _ ["steps"] (aL ma):=Bc B Q D21 D15 G15 D20 G20 D3 G3 D0 G0
 have G22:ax l.prog w K mg base aJ 1 f22 _ ["_law_script","_law_k"] (aL iS):=yS B Q D22
 have G23:ax l.prog w K mg base aJ 2 f23 _ ["_law_script","_law_k"] (aL iu):=vO B Q D23 D22 G22
 have G24:ax l.prog w K mg base aJ 1 f24 _ ["_law_left_here","_law_many"] (aL bY):=uj B Q D24
 have G25:ax l.prog w K mg base aJ 2 f25 _ ["_law_left_here","_law_kind"] (aL gr):=sY B Q D25 D24 G24
 have G26:ax l.prog w K mg base aJ 3 f26 _ ["_law_left_here","_law_many","_law_wide","_law_kind"] (aL gE):=vI B Q D26 D25 G25
 have G27:ax l.prog w K mg base aJ 4 f27 _ ["_law_left_here"] (aL iB):=uu B Q D27 D24 G24 D26 G26
 have G28:ax l.prog w K mg base aJ 1 f28 _ ["_law_one","_law_other"] (aL fQ):=yb B Q D28
 have G29:ax l.prog w K mg base aJ 2 f29 _ ["_law_steps"] (aL iX):=xh B Q D29 D28 G28
 have G30:ax l.prog w K mg base aJ 1 f30 _ ["_law_one","_law_other"] (aL gL):=rR B Q D30
 have G31:ax l.prog w K mg base aJ 2 f31 _ ["_law_left_here","_law_n"] (aL gG):=r_ B Q D31 D24 G24
 have G32:ax l.prog w K mg base aJ 1 f32 _ ["_law_number_here","_law_n","_law_other"] (aL fx):=o8 B Q D32
 have G33:ax l.prog w K mg base aJ 8 fa _ ["_law_script"] (aL xw):=GC B Q D33 D23 G23 D27 G27 D29 G29 D21 G21 D28 G28 D32 G32 D22 G22 D31 G31 D30 G30
 exact G33.imp fun vs H Q E h=>yN (tl:=[]) nl rfl (by decide) h
theorem walk{l:PySem.W.OpenLaw}{q:Program}{loose:List Str}{XP:(Str→Option Value)→Heap→Prop}{YP:World→Heap→Prop}{d:DefRec}{K:Params→PySem.W.Frag}(hn:l.most=some 63)(hdf:d.params.defaults=[])(hq:importsNone q=true)(hgt:l.prog.given.tree=none)
 (hY:∀(w:World) (h:Heap),YP w h→(K w.params).In h∧AG (K w.params) [] h)
 (F:∀(w:World) (mg:Str→Option Value) (fa:Addr) (h:Heap),(K w.params).In h→h.Ns mainGlobals mg→mg d.name=some (.ref fa)→
   ∃fd:FuncData,(∀(s:Shared) (u:Value),BindsTo s fd ⟨[u],[]⟩ [("_law_script",u)])∧∀base:Heap,(K w.params).In base→base.Ns mainGlobals mg→ax l.prog w (K w.params) mg base aJ 8 fa fd ["_law_script"] (qz (K w.params) [])):
 PySem.W.WalkO q loose XP YP l.row.toRowW d [] (fun f vs=>PySem.call f vs):=
 L2.Iq (n:=63) (k:=8) (x:="_law_script") (ts:=[]) (sp:=fun w=>qz (K w.params) []) hn (by decide) hdf ⟨rfl,by decide,by decide⟩ hq hgt hY F fun _ _ a ns hl hE=>⟨a,ns,rfl,hE,hl,fun _=>rfl⟩
end Row
open PySem PySem.W PyProof.Rows
noncomputable def Row.KX(P:Params):PySem.W.Frag:=[Hd.k 3 (Hd.no P 39 [Hd.e "__name__" 165 (.str "law_latticeworks_k36_whole_short_they_are" 511),Hd.e "__doc__" 166 .none,Hd.e "__package__" 167 .none,Hd.e "__loader__" 168 (.builtin "__main__.__loader__#opaque"),Hd.e "__spec__" 169 .none,Hd.e "__annotations__" 170 (.ref 6),Hd.e "__builtins__" 171 (.ref 4),Hd.e "__file__" 173 (.str "/claim/cut.py" 172),Hd.e "__cached__" 174 .none,Hd.e "_wall" 193 (.ref 21),Hd.e "LatticeError" 213 (.ref 31),Hd.e "NoSteps" 229 (.ref 44),Hd.e "as_rows" 237 (.ref 51),Hd.e "added" 243 (.ref 56),Hd.e "column" 249 (.ref 61),Hd.e "turned_over" 255 (.ref 66),Hd.e "unit_row" 261 (.ref 71),Hd.e "unit_rows" 267 (.ref 76),Hd.e "dot" 273 (.ref 81),Hd.e "cleared" 289 (.ref 88),Hd.e "line_of" 301 (.ref 95),Hd.e "table_of" 311 (.ref 102),Hd.e "nearest_quotient" 321 (.ref 109),Hd.e "exchanged" 331 (.ref 116),Hd.e "Bench" 414 (.ref 173),Hd.e "Stairs" 501 (.ref 229),Hd.e "short" 510 (.ref 240),Hd.e "_law_at" 520 (.ref 247),Hd.e "_law_left" 532 (.ref 254),Hd.e "_law_digit" 541 (.ref 261),Hd.e "_law_number" 550 (.ref 268),Hd.e "_law_rows" 556 (.ref 273),Hd.e "_law_drawn" 566 (.ref 280),Hd.e "_law_dot" 572 (.ref 285),Hd.e "_law_own" 588 (.ref 292),Hd.e "_law_product" 594 (.ref 297),Hd.e "_law_weights" 600 (.ref 302),Hd.e "_law_power_fits" 611 (.ref 309),Hd.e "law" 617 (.ref 314)]),
 Hd.k 50 (⟨(.type "code"),none,(.fields #[(.str "as_rows" 232),(.str "as_rows" 233),(.str "/claim/cut.py" 234),(.int (10) 0),(.int (1) 0),(.int (0) 0),(.int (0) 0),(.int (3) 0),(.ref 47),(.bool true),(.int (181) 0),(.ref 48),.none,.none,.none,(.ref 49),(.int (235) 0),(.int (10) 0),(.str "/claim/cut.py" 236)]),#[]⟩),
 Hd.k 51 (Hd.fo Row.eR "as_rows" "as_rows" (.str "latticeworks.rows" 230) (.ref 50)),
 Hd.k 55 (⟨(.type "code"),none,(.fields #[(.str "added" 238),(.str "added" 239),(.str "/claim/cut.py" 240),(.int (12) 0),(.int (3) 0),(.int (0) 0),(.int (0) 0),(.int (3) 0),(.ref 52),(.bool true),(.int (181) 0),(.ref 53),.none,.none,.none,(.ref 54),(.int (241) 0),(.int (12) 0),(.str "/claim/cut.py" 242)]),#[]⟩),
 Hd.k 56 (Hd.fo Row.gq "added" "added" (.str "latticeworks.rows" 230) (.ref 55)),
 Hd.k 60 (⟨(.type "code"),none,(.fields #[(.str "column" 244),(.str "column" 245),(.str "/claim/cut.py" 246),(.int (14) 0),(.int (2) 0),(.int (0) 0),(.int (0) 0),(.int (3) 0),(.ref 57),(.bool true),(.int (181) 0),(.ref 58),.none,.none,.none,(.ref 59),(.int (247) 0),(.int (14) 0),(.str "/claim/cut.py" 248)]),#[]⟩),
 Hd.k 61 (Hd.fo Row.fF "column" "column" (.str "latticeworks.rows" 230) (.ref 60)),
 Hd.k 65 (⟨(.type "code"),none,(.fields #[(.str "turned_over" 250),(.str "turned_over" 251),(.str "/claim/cut.py" 252),(.int (16) 0),(.int (2) 0),(.int (0) 0),(.int (0) 0),(.int (3) 0),(.ref 62),(.bool true),(.int (181) 0),(.ref 63),.none,.none,.none,(.ref 64),(.int (253) 0),(.int (16) 0),(.str "/claim/cut.py" 254)]),#[]⟩),
 Hd.k 66 (Hd.fo Row.cR "turned_over" "turned_over" (.str "latticeworks.rows" 230) (.ref 65)),
 Hd.k 70 (⟨(.type "code"),none,(.fields #[(.str "unit_row" 256),(.str "unit_row" 257),(.str "/claim/cut.py" 258),(.int (18) 0),(.int (2) 0),(.int (0) 0),(.int (0) 0),(.int (3) 0),(.ref 67),(.bool true),(.int (181) 0),(.ref 68),.none,.none,.none,(.ref 69),(.int (259) 0),(.int (18) 0),(.str "/claim/cut.py" 260)]),#[]⟩),
 Hd.k 71 (Hd.fo Row.dR "unit_row" "unit_row" (.str "latticeworks.rows" 230) (.ref 70)),
 Hd.k 75 (⟨(.type "code"),none,(.fields #[(.str "unit_rows" 262),(.str "unit_rows" 263),(.str "/claim/cut.py" 264),(.int (20) 0),(.int (1) 0),(.int (0) 0),(.int (0) 0),(.int (3) 0),(.ref 72),(.bool true),(.int (181) 0),(.ref 73),.none,.none,.none,(.ref 74),(.int (265) 0),(.int (20) 0),(.str "/claim/cut.py" 266)]),#[]⟩),
 Hd.k 76 (Hd.fo Row.dG "unit_rows" "unit_rows" (.str "latticeworks.rows" 230) (.ref 75)),
 Hd.k 80 (⟨(.type "code"),none,(.fields #[(.str "dot" 268),(.str "dot" 269),(.str "/claim/cut.py" 270),(.int (22) 0),(.int (2) 0),(.int (0) 0),(.int (0) 0),(.int (3) 0),(.ref 77),(.bool true),(.int (181) 0),(.ref 78),.none,.none,.none,(.ref 79),(.int (271) 0),(.int (22) 0),(.str "/claim/cut.py" 272)]),#[]⟩),
 Hd.k 81 (Hd.fo Row.jw "dot" "dot" (.str "latticeworks.rows" 230) (.ref 80)),
 Hd.k 87 (⟨(.type "code"),none,(.fields #[(.str "cleared" 276),(.str "cleared" 277),(.str "/claim/cut.py" 278),(.int (25) 0),(.int (4) 0),(.int (0) 0),(.int (0) 0),(.int (3) 0),(.ref 82),(.bool true),(.int (181) 0),(.ref 83),.none,(.ref 84),(.ref 85),(.ref 86),(.int (287) 0),(.int (25) 0),(.str "/claim/cut.py" 288)]),#[]⟩),
 Hd.k 88 (Hd.fo Row.fh "cleared" "cleared" (.str "latticeworks.shares" 274) (.ref 87)),
 Hd.k 94 (⟨(.type "code"),none,(.fields #[(.str "line_of" 290),(.str "line_of" 291),(.str "/claim/cut.py" 292),(.int (31) 0),(.int (3) 0),(.int (0) 0),(.int (0) 0),(.int (3) 0),(.ref 89),(.bool true),(.int (181) 0),(.ref 90),.none,(.ref 91),(.ref 92),(.ref 93),(.int (299) 0),(.int (31) 0),(.str "/claim/cut.py" 300)]),#[]⟩),
 Hd.k 95 (Hd.fo Row.fi "line_of" "line_of" (.str "latticeworks.shares" 274) (.ref 94)),
 Hd.k 101 (⟨(.type "code"),none,(.fields #[(.str "table_of" 302),(.str "table_of" 303),(.str "/claim/cut.py" 304),(.int (37) 0),(.int (1) 0),(.int (0) 0),(.int (0) 0),(.int (3) 0),(.ref 96),(.bool true),(.int (181) 0),(.ref 97),.none,(.ref 98),(.ref 99),(.ref 100),(.int (309) 0),(.int (37) 0),(.str "/claim/cut.py" 310)]),#[]⟩),
 Hd.k 102 (Hd.fo Row.eN "table_of" "table_of" (.str "latticeworks.shares" 274) (.ref 101)),
 Hd.k 108 (⟨(.type "code"),none,(.fields #[(.str "nearest_quotient" 314),(.str "nearest_quotient" 315),(.str "/claim/cut.py" 316),(.int (46) 0),(.int (2) 0),(.int (0) 0),(.int (0) 0),(.int (3) 0),(.ref 103),(.bool true),(.int (181) 0),(.ref 104),.none,(.ref 105),(.ref 106),(.ref 107),(.int (319) 0),(.int (46) 0),(.str "/claim/cut.py" 320)]),#[]⟩),
 Hd.k 109 (Hd.fo Row.bZ "nearest_quotient" "nearest_quotient" (.str "latticeworks.standing" 312) (.ref 108)),
 Hd.k 115 (⟨(.type "code"),none,(.fields #[(.str "exchanged" 322),(.str "exchanged" 323),(.str "/claim/cut.py" 324),(.int (48) 0),(.int (3) 0),(.int (0) 0),(.int (0) 0),(.int (3) 0),(.ref 110),(.bool true),(.int (181) 0),(.ref 111),.none,(.ref 112),(.ref 113),(.ref 114),(.int (329) 0),(.int (48) 0),(.str "/claim/cut.py" 330)]),#[]⟩),
 Hd.k 116 (Hd.fo Row.dQ "exchanged" "exchanged" (.str "latticeworks.standing" 312) (.ref 115)),
 Hd.k 127 (⟨(.type "code"),none,(.fields #[(.str "__init__" 344),(.str "Bench.__init__" 345),(.str "/claim/cut.py" 346),(.int (55) 0),(.int (2) 0),(.int (0) 0),(.int (0) 0),(.int (3) 0),(.ref 124),(.bool true),(.int (181) 0),(.ref 125),.none,.none,.none,(.ref 126),(.int (347) 0),(.int (55) 0),(.str "/claim/cut.py" 348)]),#[]⟩),
 Hd.k 128 (Hd.fo Row.bI "__init__" "Bench.__init__" (.str "latticeworks.standing" 312) (.ref 127)),
 Hd.k 134 (⟨(.type "code"),none,(.fields #[(.str "take" 350),(.str "Bench.take" 351),(.str "/claim/cut.py" 352),(.int (60) 0),(.int (4) 0),(.int (0) 0),(.int (0) 0),(.int (3) 0),(.ref 129),(.bool true),(.int (181) 0),(.ref 130),.none,(.ref 131),(.ref 132),(.ref 133),(.int (357) 0),(.int (60) 0),(.str "/claim/cut.py" 358)]),#[]⟩),
 Hd.k 135 (Hd.fo Row.dH "take" "Bench.take" (.str "latticeworks.standing" 312) (.ref 134)),
 Hd.k 141 (⟨(.type "code"),none,(.fields #[(.str "exchange" 360),(.str "Bench.exchange" 361),(.str "/claim/cut.py" 362),(.int (65) 0),(.int (3) 0),(.int (0) 0),(.int (0) 0),(.int (3) 0),(.ref 136),(.bool true),(.int (181) 0),(.ref 137),.none,(.ref 138),(.ref 139),(.ref 140),(.int (366) 0),(.int (65) 0),(.str "/claim/cut.py" 367)]),#[]⟩),
 Hd.k 142 (Hd.fo Row.cG "exchange" "Bench.exchange" (.str "latticeworks.standing" 312) (.ref 141)),
 Hd.k 172 (Hd.no P 4 [Hd.e "__module__" 339 (.str "latticeworks.standing" 312),Hd.e "__firstlineno__" 343 (.int (53) 342),Hd.e "__init__" 349 (.ref 128),Hd.e "take" 359 (.ref 135),Hd.e "exchange" 368 (.ref 142),Hd.e "change_sign" 376 (.ref 149),Hd.e "live_rows" 385 (.ref 156),Hd.e "gather" 394 (.ref 163),Hd.e "lower_above" 403 (.ref 170),Hd.e "__static_attributes__" 407 (.ref 171),Hd.e "__dict__" 409 (.ref 174),Hd.e "__weakref__" 411 (.ref 175),Hd.e "__doc__" 412 .none]),
 Hd.k 173 (⟨(.type "type"),none,.cls {name:="Bench",bases:=[(.type "object")],mro:=[(.ref 173),(.type "object")],ns:=172,qualname:="Bench",hasDict:=true,subclasses:=[],abstract:=false,hasDel:=false},#[none,none,(some (.str "Bench" 332)),(some (.str "Bench" 340)),(some (.builtin "object.__new__")),(some (.bool true))]⟩),
 Hd.k 190 (⟨(.type "code"),none,(.fields #[(.str "__init__" 429),(.str "Stairs.__init__" 430),(.str "/claim/cut.py" 431),(.int (84) 0),(.int (2) 0),(.int (0) 0),(.int (0) 0),(.int (3) 0),(.ref 185),(.bool true),(.int (181) 0),(.ref 186),.none,(.ref 187),(.ref 188),(.ref 189),(.int (434) 0),(.int (84) 0),(.str "/claim/cut.py" 435)]),#[]⟩),
 Hd.k 191 (Hd.fo Row.cx "__init__" "Stairs.__init__" (.str "latticeworks.short" 415) (.ref 190)),
 Hd.k 197 (⟨(.type "code"),none,(.fields #[(.str "last_of" 437),(.str "Stairs.last_of" 438),(.str "/claim/cut.py" 439),(.int (88) 0),(.int (2) 0),(.int (0) 0),(.int (0) 0),(.int (3) 0),(.ref 192),(.bool true),(.int (181) 0),(.ref 193),.none,(.ref 194),(.ref 195),(.ref 196),(.int (442) 0),(.int (88) 0),(.str "/claim/cut.py" 443)]),#[]⟩),
 Hd.k 198 (Hd.fo Row.cp "last_of" "Stairs.last_of" (.str "latticeworks.short" 415) (.ref 197)),
 Hd.k 204 (⟨(.type "code"),none,(.fields #[(.str "lessen" 445),(.str "Stairs.lessen" 446),(.str "/claim/cut.py" 447),(.int (91) 0),(.int (3) 0),(.int (0) 0),(.int (0) 0),(.int (3) 0),(.ref 199),(.bool true),(.int (181) 0),(.ref 200),.none,(.ref 201),(.ref 202),(.ref 203),(.int (453) 0),(.int (91) 0),(.str "/claim/cut.py" 454)]),#[]⟩),
 Hd.k 205 (Hd.fo Row.cO "lessen" "Stairs.lessen" (.str "latticeworks.short" 415) (.ref 204)),
 Hd.k 211 (⟨(.type "code"),none,(.fields #[(.str "is_steep" 456),(.str "Stairs.is_steep" 457),(.str "/claim/cut.py" 458),(.int (99) 0),(.int (2) 0),(.int (0) 0),(.int (0) 0),(.int (3) 0),(.ref 206),(.bool true),(.int (181) 0),(.ref 207),.none,(.ref 208),(.ref 209),(.ref 210),(.int (463) 0),(.int (99) 0),(.str "/claim/cut.py" 464)]),#[]⟩),
 Hd.k 212 (Hd.fo Row.cy "is_steep" "Stairs.is_steep" (.str "latticeworks.short" 415) (.ref 211)),
 Hd.k 218 (⟨(.type "code"),none,(.fields #[(.str "swap" 466),(.str "Stairs.swap" 467),(.str "/claim/cut.py" 468),(.int (104) 0),(.int (2) 0),(.int (0) 0),(.int (0) 0),(.int (3) 0),(.ref 213),(.bool true),(.int (181) 0),(.ref 214),.none,(.ref 215),(.ref 216),(.ref 217),(.int (480) 0),(.int (104) 0),(.str "/claim/cut.py" 481)]),#[]⟩),
 Hd.k 219 (Hd.fo Row.dn "swap" "Stairs.swap" (.str "latticeworks.short" 415) (.ref 218)),
 Hd.k 225 (⟨(.type "code"),none,(.fields #[(.str "shorten" 483),(.str "Stairs.shorten" 484),(.str "/claim/cut.py" 485),(.int (119) 0),(.int (1) 0),(.int (0) 0),(.int (0) 0),(.int (3) 0),(.ref 220),(.bool true),(.int (181) 0),(.ref 221),.none,(.ref 222),(.ref 223),(.ref 224),(.int (489) 0),(.int (119) 0),(.str "/claim/cut.py" 490)]),#[]⟩),
 Hd.k 226 (Hd.fo Row.cH "shorten" "Stairs.shorten" (.str "latticeworks.short" 415) (.ref 225)),
 Hd.k 228 (Hd.no P 4 [Hd.e "__module__" 424 (.str "latticeworks.short" 415),Hd.e "__firstlineno__" 428 (.int (82) 427),Hd.e "__init__" 436 (.ref 191),Hd.e "last_of" 444 (.ref 198),Hd.e "lessen" 455 (.ref 205),Hd.e "is_steep" 465 (.ref 212),Hd.e "swap" 482 (.ref 219),Hd.e "shorten" 491 (.ref 226),Hd.e "__static_attributes__" 494 (.ref 227),Hd.e "__dict__" 496 (.ref 230),Hd.e "__weakref__" 498 (.ref 231),Hd.e "__doc__" 499 .none]),
 Hd.k 229 (⟨(.type "type"),none,.cls {name:="Stairs",bases:=[(.type "object")],mro:=[(.ref 229),(.type "object")],ns:=228,qualname:="Stairs",hasDict:=true,subclasses:=[],abstract:=false,hasDel:=false},#[none,none,(some (.str "Stairs" 417)),(some (.str "Stairs" 425)),(some (.builtin "object.__new__")),(some (.bool true))]⟩),
 Hd.k 239 (⟨(.type "code"),none,(.fields #[(.str "short" 502),(.str "short" 503),(.str "/claim/cut.py" 504),(.int (130) 0),(.int (1) 0),(.int (0) 0),(.int (0) 0),(.int (3) 0),(.ref 234),(.bool true),(.int (181) 0),(.ref 235),.none,(.ref 236),(.ref 237),(.ref 238),(.int (508) 0),(.int (130) 0),(.str "/claim/cut.py" 509)]),#[]⟩),
 Hd.k 240 (Hd.fo Row.gQ "short" "short" (.str "latticeworks.short" 415) (.ref 239)),
 Hd.k 246 (⟨(.type "code"),none,(.fields #[(.str "_law_at" 513),(.str "_law_at" 514),(.str "/claim/cut.py" 515),(.int (136) 0),(.int (2) 0),(.int (0) 0),(.int (0) 0),(.int (3) 0),(.ref 241),(.bool true),(.int (181) 0),(.ref 242),.none,(.ref 243),(.ref 244),(.ref 245),(.int (518) 0),(.int (136) 0),(.str "/claim/cut.py" 519)]),#[]⟩),
 Hd.k 247 (Hd.fo Row.fC "_law_at" "_law_at" (.str "law_latticeworks_k36_whole_short_they_are" 511) (.ref 246)),
 Hd.k 253 (⟨(.type "code"),none,(.fields #[(.str "_law_left" 521),(.str "_law_left" 522),(.str "/claim/cut.py" 523),(.int (140) 0),(.int (2) 0),(.int (0) 0),(.int (0) 0),(.int (3) 0),(.ref 248),(.bool true),(.int (181) 0),(.ref 249),.none,(.ref 250),(.ref 251),(.ref 252),(.int (530) 0),(.int (140) 0),(.str "/claim/cut.py" 531)]),#[]⟩),
 Hd.k 254 (Hd.fo Row.eM "_law_left" "_law_left" (.str "law_latticeworks_k36_whole_short_they_are" 511) (.ref 253)),
 Hd.k 260 (⟨(.type "code"),none,(.fields #[(.str "_law_digit" 533),(.str "_law_digit" 534),(.str "/claim/cut.py" 535),(.int (150) 0),(.int (2) 0),(.int (0) 0),(.int (0) 0),(.int (3) 0),(.ref 255),(.bool true),(.int (181) 0),(.ref 256),.none,(.ref 257),(.ref 258),(.ref 259),(.int (539) 0),(.int (150) 0),(.str "/claim/cut.py" 540)]),#[]⟩),
 Hd.k 261 (Hd.fo Row.dq "_law_digit" "_law_digit" (.str "law_latticeworks_k36_whole_short_they_are" 511) (.ref 260)),
 Hd.k 267 (⟨(.type "code"),none,(.fields #[(.str "_law_number" 542),(.str "_law_number" 543),(.str "/claim/cut.py" 544),(.int (154) 0),(.int (2) 0),(.int (0) 0),(.int (0) 0),(.int (3) 0),(.ref 262),(.bool true),(.int (181) 0),(.ref 263),.none,(.ref 264),(.ref 265),(.ref 266),(.int (548) 0),(.int (154) 0),(.str "/claim/cut.py" 549)]),#[]⟩),
 Hd.k 268 (Hd.fo Row.dM "_law_number" "_law_number" (.str "law_latticeworks_k36_whole_short_they_are" 511) (.ref 267)),
 Hd.k 272 (⟨(.type "code"),none,(.fields #[(.str "_law_rows" 551),(.str "_law_rows" 552),(.str "/claim/cut.py" 553),(.int (161) 0),(.int (4) 0),(.int (0) 0),(.int (0) 0),(.int (3) 0),(.ref 269),(.bool true),(.int (181) 0),(.ref 270),.none,.none,.none,(.ref 271),(.int (554) 0),(.int (161) 0),(.str "/claim/cut.py" 555)]),#[]⟩),
 Hd.k 273 (Hd.fo Row.dU "_law_rows" "_law_rows" (.str "law_latticeworks_k36_whole_short_they_are" 511) (.ref 272)),
 Hd.k 279 (⟨(.type "code"),none,(.fields #[(.str "_law_drawn" 557),(.str "_law_drawn" 558),(.str "/claim/cut.py" 559),(.int (163) 0),(.int (1) 0),(.int (0) 0),(.int (0) 0),(.int (3) 0),(.ref 274),(.bool true),(.int (181) 0),(.ref 275),.none,(.ref 276),(.ref 277),(.ref 278),(.int (564) 0),(.int (163) 0),(.str "/claim/cut.py" 565)]),#[]⟩),
 Hd.k 280 (Hd.fo Row.du "_law_drawn" "_law_drawn" (.str "law_latticeworks_k36_whole_short_they_are" 511) (.ref 279)),
 Hd.k 284 (⟨(.type "code"),none,(.fields #[(.str "_law_dot" 567),(.str "_law_dot" 568),(.str "/claim/cut.py" 569),(.int (173) 0),(.int (2) 0),(.int (0) 0),(.int (0) 0),(.int (3) 0),(.ref 281),(.bool true),(.int (181) 0),(.ref 282),.none,.none,.none,(.ref 283),(.int (570) 0),(.int (173) 0),(.str "/claim/cut.py" 571)]),#[]⟩),
 Hd.k 285 (Hd.fo Row.eh "_law_dot" "_law_dot" (.str "law_latticeworks_k36_whole_short_they_are" 511) (.ref 284)),
 Hd.k 291 (⟨(.type "code"),none,(.fields #[(.str "_law_own" 573),(.str "_law_own" 574),(.str "/claim/cut.py" 575),(.int (175) 0),(.int (1) 0),(.int (0) 0),(.int (0) 0),(.int (3) 0),(.ref 286),(.bool true),(.int (181) 0),(.ref 287),.none,(.ref 288),(.ref 289),(.ref 290),(.int (586) 0),(.int (175) 0),(.str "/claim/cut.py" 587)]),#[]⟩),
 Hd.k 292 (Hd.fo Row.fj "_law_own" "_law_own" (.str "law_latticeworks_k36_whole_short_they_are" 511) (.ref 291)),
 Hd.k 296 (⟨(.type "code"),none,(.fields #[(.str "_law_product" 589),(.str "_law_product" 590),(.str "/claim/cut.py" 591),(.int (192) 0),(.int (2) 0),(.int (0) 0),(.int (0) 0),(.int (3) 0),(.ref 293),(.bool true),(.int (181) 0),(.ref 294),.none,.none,.none,(.ref 295),(.int (592) 0),(.int (192) 0),(.str "/claim/cut.py" 593)]),#[]⟩),
 Hd.k 297 (Hd.fo Row.cS "_law_product" "_law_product" (.str "law_latticeworks_k36_whole_short_they_are" 511) (.ref 296)),
 Hd.k 301 (⟨(.type "code"),none,(.fields #[(.str "_law_weights" 595),(.str "_law_weights" 596),(.str "/claim/cut.py" 597),(.int (200) 0),(.int (2) 0),(.int (0) 0),(.int (0) 0),(.int (3) 0),(.ref 298),(.bool true),(.int (181) 0),(.ref 299),.none,.none,.none,(.ref 300),(.int (598) 0),(.int (200) 0),(.str "/claim/cut.py" 599)]),#[]⟩),
 Hd.k 302 (Hd.fo Row.cM "_law_weights" "_law_weights" (.str "law_latticeworks_k36_whole_short_they_are" 511) (.ref 301)),
 Hd.k 308 (⟨(.type "code"),none,(.fields #[(.str "_law_power_fits" 601),(.str "_law_power_fits" 602),(.str "/claim/cut.py" 603),(.int (210) 0),(.int (3) 0),(.int (0) 0),(.int (0) 0),(.int (3) 0),(.ref 303),(.bool true),(.int (181) 0),(.ref 304),.none,(.ref 305),(.ref 306),(.ref 307),(.int (609) 0),(.int (210) 0),(.str "/claim/cut.py" 610)]),#[]⟩),
 Hd.k 309 (Hd.fo Row.cE "_law_power_fits" "_law_power_fits" (.str "law_latticeworks_k36_whole_short_they_are" 511) (.ref 308)),
 Hd.k 313 (⟨(.type "code"),none,(.fields #[(.str "law" 612),(.str "law" 613),(.str "/claim/cut.py" 614),(.int (215) 0),(.int (1) 0),(.int (0) 0),(.int (0) 0),(.int (3) 0),(.ref 310),(.bool true),(.int (181) 0),(.ref 311),.none,.none,.none,(.ref 312),(.int (615) 0),(.int (215) 0),(.str "/claim/cut.py" 616)]),#[]⟩),
 Hd.k 314 (Hd.fo Row.ir "law" "law" (.str "law_latticeworks_k36_whole_short_they_are" 511) (.ref 313))]
noncomputable def Row.KA:List Addr:=[3,50,51,55,56,60,61,65,66,70,71,75,76,80,81,87,88,94,95,101,102,108,109,115,116,127,128,134,135,141,142,172,173,190,191,197,198,204,205,211,212,218,219,225,226,228,229,239,240,246,247,253,254,260,261,267,268,272,273,279,280,284,285,291,292,296,297,301,302,308,309,313,314]
noncomputable def Row.dL:DefRec:=match Row.top 35 with
 | .FunctionDef n a b _ _ _ sc _ _ pos=>⟨n,a,b,sc,pos⟩
 |_=>⟨"",L2.aY (.Pass ⟨0,0,0,0⟩),[],L2.ah (.Pass ⟨0,0,0,0⟩),⟨0,0,0,0⟩⟩
theorem Row.A8:PySem.Challenge.rw_latticeworks_k36_whole_short_they_are.wellSaid=true:=by decide+kernel
set_option maxRecDepth 100000 in
set_option maxHeartbeats 0 in
theorem Row.left:PySem.W.LeftO PySem.Challenge.pw_latticeworks_k36_whole_short_they_are (PySem.W.view PySem.Challenge.pw_latticeworks_k36_whole_short_they_are [0,2,3,5,6,7,8,9,10,11,13,14,15,17,18,19,21,22,24,25,26,27,28,29,30,31,32,33,34,35]) [] (fun _=>true) (PySem.W.kmHook Row.KX Row.KA (fun _=>rfl) []).obs (PySem.W.kmHook Row.KX Row.KA (fun _=>rfl) []).val 4194:=
 Hd.left (by kernel_rfl) (fun s=>by kernel_rfl) rfl fun w os=>by kernel_rfl
set_option maxRecDepth 100000 in
set_option maxHeartbeats 0 in
theorem PySem.Challenge.cw_latticeworks_k36_whole_short_they_are_holds : PySem.Challenge.rw_latticeworks_k36_whole_short_they_are.Holds := by
 refine PySem.W.holds_law Row.A8 fun A8=>?_
 refine PySem.W.holds_open (r:=PySem.Challenge.rw_latticeworks_k36_whole_short_they_are.row) (q:=PySem.W.view PySem.Challenge.pw_latticeworks_k36_whole_short_they_are [0,2,3,5,6,7,8,9,10,11,13,14,15,17,18,19,21,22,24,25,26,27,28,29,30,31,32,33,34,35]) (loose:=[]) (Xt:=fun _=>true) (XP:=fun _ _=>True) (YP:=(PySem.W.kmHook Row.KX Row.KA (fun _=>rfl) []).says) (d:=Row.dL) (kwd:=[]) Row.left ((PySem.W.kmHook Row.KX Row.KA (fun _=>rfl) []).of) ((PySem.W.kmHook Row.KX Row.KA (fun _=>rfl) []).keeps) (fun _ _=>trivial) (fun _ _ _ _ _=>trivial) (by kernel_rfl) (by kernel_rfl) (by kernel_rfl) (fun s _=>PySem.W.recFacts_of (R:=[]) rfl) (by kernel_rfl) A8 (by decide+kernel) ⟨rfl,rfl,rfl,rfl,rfl,by decide+kernel⟩ ?hw ?hc
 case hw=>w_witness2
 refine Row.walk (l:=PySem.Challenge.rw_latticeworks_k36_whole_short_they_are) (K:=Row.KX) rfl (by kernel_rfl) (by kernel_rfl) rfl (fun w h Y=>⟨PySem.W.km_in_of Y,⟨(fun q hq=>by cases hq),(fun q hq=>by cases hq),fun q hq=>by cases hq⟩⟩) ?F
 case F=>
  intro w mg fa h KX G hmg
  exact Row.all_mk (f0:=51) (oc0:= .type "function") (od0:=none) (sl0:= #[]) (kV0:= .none) (dc0:= .none) (pm0:=(.str "latticeworks.rows" 230)) (an0:=none) (cd0:=(.ref 50)) (ct0:= .none) (f1:=56) (oc1:= .type "function") (od1:=none) (sl1:= #[]) (kV1:= .none) (dc1:= .none) (pm1:=(.str "latticeworks.rows" 230)) (an1:=none) (cd1:=(.ref 55)) (ct1:= .none) (f2:=61) (oc2:= .type "function") (od2:=none) (sl2:= #[]) (kV2:= .none) (dc2:= .none) (pm2:=(.str "latticeworks.rows" 230)) (an2:=none) (cd2:=(.ref 60)) (ct2:= .none) (f3:=66) (oc3:= .type "function") (od3:=none) (sl3:= #[]) (kV3:= .none) (dc3:= .none) (pm3:=(.str "latticeworks.rows" 230)) (an3:=none) (cd3:=(.ref 65)) (ct3:= .none) (f4:=71) (oc4:= .type "function") (od4:=none) (sl4:= #[]) (kV4:= .none) (dc4:= .none) (pm4:=(.str "latticeworks.rows" 230)) (an4:=none) (cd4:=(.ref 70)) (ct4:= .none) (f5:=76) (oc5:= .type "function") (od5:=none) (sl5:= #[]) (kV5:= .none) (dc5:= .none) (pm5:=(.str "latticeworks.rows" 230)) (an5:=none) (cd5:=(.ref 75)) (ct5:= .none) (f6:=81) (oc6:= .type "function") (od6:=none) (sl6:= #[]) (kV6:= .none) (dc6:= .none) (pm6:=(.str "latticeworks.rows" 230)) (an6:=none) (cd6:=(.ref 80)) (ct6:= .none) (f7:=88) (oc7:= .type "function") (od7:=none) (sl7:= #[]) (kV7:= .none) (dc7:= .none) (pm7:=(.str "latticeworks.shares" 274)) (an7:=none) (cd7:=(.ref 87)) (ct7:= .none) (f8:=95) (oc8:= .type "function") (od8:=none) (sl8:= #[]) (kV8:= .none) (dc8:= .none) (pm8:=(.str "latticeworks.shares" 274)) (an8:=none) (cd8:=(.ref 94)) (ct8:= .none) (f9:=102) (oc9:= .type "function") (od9:=none) (sl9:= #[]) (kV9:= .none) (dc9:= .none) (pm9:=(.str "latticeworks.shares" 274)) (an9:=none) (cd9:=(.ref 101)) (ct9:= .none) (f10:=109) (oc10:= .type "function") (od10:=none) (sl10:= #[]) (kV10:= .none) (dc10:= .none) (pm10:=(.str "latticeworks.standing" 312)) (an10:=none) (cd10:=(.ref 108)) (ct10:= .none) (f11:=116) (oc11:= .type "function") (od11:=none) (sl11:= #[]) (kV11:= .none) (dc11:= .none) (pm11:=(.str "latticeworks.standing" 312)) (an11:=none) (cd11:=(.ref 115)) (ct11:= .none) (f12:=128) (oc12:= .type "function") (od12:=none) (sl12:= #[]) (kV12:= .none) (dc12:= .none) (pm12:=(.str "latticeworks.standing" 312)) (an12:=none) (cd12:=(.ref 127)) (ct12:= .none) (f13:=135) (oc13:= .type "function") (od13:=none) (sl13:= #[]) (kV13:= .none) (dc13:= .none) (pm13:=(.str "latticeworks.standing" 312)) (an13:=none) (cd13:=(.ref 134)) (ct13:= .none) (f14:=142) (oc14:= .type "function") (od14:=none) (sl14:= #[]) (kV14:= .none) (dc14:= .none) (pm14:=(.str "latticeworks.standing" 312)) (an14:=none) (cd14:=(.ref 141)) (ct14:= .none) (f15:=191) (oc15:= .type "function") (od15:=none) (sl15:= #[]) (kV15:= .none) (dc15:= .none) (pm15:=(.str "latticeworks.short" 415)) (an15:=none) (cd15:=(.ref 190)) (ct15:= .none) (f16:=198) (oc16:= .type "function") (od16:=none) (sl16:= #[]) (kV16:= .none) (dc16:= .none) (pm16:=(.str "latticeworks.short" 415)) (an16:=none) (cd16:=(.ref 197)) (ct16:= .none) (f17:=205) (oc17:= .type "function") (od17:=none) (sl17:= #[]) (kV17:= .none) (dc17:= .none) (pm17:=(.str "latticeworks.short" 415)) (an17:=none) (cd17:=(.ref 204)) (ct17:= .none) (f18:=212) (oc18:= .type "function") (od18:=none) (sl18:= #[]) (kV18:= .none) (dc18:= .none) (pm18:=(.str "latticeworks.short" 415)) (an18:=none) (cd18:=(.ref 211)) (ct18:= .none) (f19:=219) (oc19:= .type "function") (od19:=none) (sl19:= #[]) (kV19:= .none) (dc19:= .none) (pm19:=(.str "latticeworks.short" 415)) (an19:=none) (cd19:=(.ref 218)) (ct19:= .none) (f20:=226) (oc20:= .type "function") (od20:=none) (sl20:= #[]) (kV20:= .none) (dc20:= .none) (pm20:=(.str "latticeworks.short" 415)) (an20:=none) (cd20:=(.ref 225)) (ct20:= .none) (f21:=240) (oc21:= .type "function") (od21:=none) (sl21:= #[]) (kV21:= .none) (dc21:= .none) (pm21:=(.str "latticeworks.short" 415)) (an21:=none) (cd21:=(.ref 239)) (ct21:= .none) (f22:=247) (oc22:= .type "function") (od22:=none) (sl22:= #[]) (kV22:= .none) (dc22:= .none) (pm22:=(.str "law_latticeworks_k36_whole_short_they_are" 511)) (an22:=none) (cd22:=(.ref 246)) (ct22:= .none) (f23:=254) (oc23:= .type "function") (od23:=none) (sl23:= #[]) (kV23:= .none) (dc23:= .none) (pm23:=(.str "law_latticeworks_k36_whole_short_they_are" 511)) (an23:=none) (cd23:=(.ref 253)) (ct23:= .none) (f24:=261) (oc24:= .type "function") (od24:=none) (sl24:= #[]) (kV24:= .none) (dc24:= .none) (pm24:=(.str "law_latticeworks_k36_whole_short_they_are" 511)) (an24:=none) (cd24:=(.ref 260)) (ct24:= .none) (f25:=268) (oc25:= .type "function") (od25:=none) (sl25:= #[]) (kV25:= .none) (dc25:= .none) (pm25:=(.str "law_latticeworks_k36_whole_short_they_are" 511)) (an25:=none) (cd25:=(.ref 267)) (ct25:= .none) (f26:=273) (oc26:= .type "function") (od26:=none) (sl26:= #[]) (kV26:= .none) (dc26:= .none) (pm26:=(.str "law_latticeworks_k36_whole_short_they_are" 511)) (an26:=none) (cd26:=(.ref 272)) (ct26:= .none) (f27:=280) (oc27:= .type "function") (od27:=none) (sl27:= #[]) (kV27:= .none) (dc27:= .none) (pm27:=(.str "law_latticeworks_k36_whole_short_they_are" 511)) (an27:=none) (cd27:=(.ref 279)) (ct27:= .none) (f28:=285) (oc28:= .type "function") (od28:=none) (sl28:= #[]) (kV28:= .none) (dc28:= .none) (pm28:=(.str "law_latticeworks_k36_whole_short_they_are" 511)) (an28:=none) (cd28:=(.ref 284)) (ct28:= .none) (f29:=292) (oc29:= .type "function") (od29:=none) (sl29:= #[]) (kV29:= .none) (dc29:= .none) (pm29:=(.str "law_latticeworks_k36_whole_short_they_are" 511)) (an29:=none) (cd29:=(.ref 291)) (ct29:= .none) (f30:=297) (oc30:= .type "function") (od30:=none) (sl30:= #[]) (kV30:= .none) (dc30:= .none) (pm30:=(.str "law_latticeworks_k36_whole_short_they_are" 511)) (an30:=none) (cd30:=(.ref 296)) (ct30:= .none) (f31:=302) (oc31:= .type "function") (od31:=none) (sl31:= #[]) (kV31:= .none) (dc31:= .none) (pm31:=(.str "law_latticeworks_k36_whole_short_they_are" 511)) (an31:=none) (cd31:=(.ref 301)) (ct31:= .none) (f32:=309) (oc32:= .type "function") (od32:=none) (sl32:= #[]) (kV32:= .none) (dc32:= .none) (pm32:=(.str "law_latticeworks_k36_whole_short_they_are" 511)) (an32:=none) (cd32:=(.ref 308)) (ct32:= .none) (f33:=314) (oc33:= .type "function") (od33:=none) (sl33:= #[]) (kV33:= .none) (dc33:= .none) (pm33:=(.str "law_latticeworks_k36_whole_short_they_are" 511)) (an33:=none) (cd33:=(.ref 313)) (ct33:= .none) KX G hmg (by kernel_rfl) (by kernel_rfl) (by kernel_rfl) (by kernel_rfl) (by kernel_rfl) (by kernel_rfl) (by kernel_rfl) (by kernel_rfl) (by kernel_rfl) (by kernel_rfl) (by kernel_rfl) (by kernel_rfl) (by kernel_rfl) (by kernel_rfl) (by kernel_rfl) (by kernel_rfl) (by kernel_rfl) (by kernel_rfl) (by kernel_rfl) (by kernel_rfl) (by kernel_rfl) (by kernel_rfl) (by kernel_rfl) (by kernel_rfl) (by kernel_rfl) (by kernel_rfl) (by kernel_rfl) (by kernel_rfl) (by kernel_rfl) (by kernel_rfl) (by kernel_rfl) (by kernel_rfl) (by kernel_rfl) (by kernel_rfl) (by kernel_rfl) (by kernel_rfl) (by kernel_rfl) (by kernel_rfl) (by kernel_rfl) (by kernel_rfl) (by kernel_rfl) (by kernel_rfl) (by kernel_rfl) (by kernel_rfl) (by kernel_rfl) (by kernel_rfl) (by kernel_rfl) (by kernel_rfl) (by kernel_rfl) (by kernel_rfl) (by kernel_rfl) (by kernel_rfl) (by kernel_rfl) (by kernel_rfl) (by kernel_rfl) (by kernel_rfl) (by kernel_rfl) (by kernel_rfl) (by kernel_rfl) (by kernel_rfl) (by kernel_rfl) (by kernel_rfl) (by kernel_rfl) (by kernel_rfl) (by kernel_rfl) (by kernel_rfl) (by kernel_rfl) (by kernel_rfl) (by kernel_rfl) (by kernel_rfl) (by kernel_rfl) (by kernel_rfl) (by kernel_rfl) (by kernel_rfl) (by kernel_rfl) (by kernel_rfl) (by kernel_rfl) (by kernel_rfl) (by kernel_rfl) (by kernel_rfl) (by kernel_rfl) (by kernel_rfl) (by kernel_rfl) (by kernel_rfl) (by kernel_rfl) (by kernel_rfl) (by kernel_rfl) (by kernel_rfl) (by kernel_rfl) (by kernel_rfl) (by kernel_rfl) (by kernel_rfl) (by kernel_rfl) (by kernel_rfl) (by kernel_rfl) (by kernel_rfl) (by kernel_rfl) (by kernel_rfl) (by kernel_rfl) (by kernel_rfl) (by kernel_rfl) (by kernel_rfl) (by kernel_rfl) (by kernel_rfl) (by kernel_rfl) (by kernel_rfl) (by kernel_rfl) (by kernel_rfl) (by kernel_rfl) (by kernel_rfl) (by kernel_rfl) (by kernel_rfl) (by kernel_rfl) (by kernel_rfl) (by kernel_rfl) (by kernel_rfl) (by kernel_rfl) (by kernel_rfl) (by kernel_rfl) (by kernel_rfl) (by kernel_rfl) (by kernel_rfl) (by kernel_rfl) (by kernel_rfl) (by kernel_rfl) (by kernel_rfl) (by kernel_rfl) (by kernel_rfl) (by kernel_rfl) (by kernel_rfl) (by kernel_rfl) (by kernel_rfl) (by kernel_rfl) (by kernel_rfl) (by kernel_rfl) (by kernel_rfl) (by kernel_rfl) (by kernel_rfl) (by kernel_rfl) (by kernel_rfl) (by kernel_rfl) (by kernel_rfl) (by kernel_rfl) (by kernel_rfl) (by kernel_rfl) (by kernel_rfl) (by kernel_rfl) (by kernel_rfl) (by kernel_rfl) (by kernel_rfl) (by kernel_rfl) (by kernel_rfl) (by kernel_rfl) (by kernel_rfl) (by kernel_rfl) (by kernel_rfl) (by kernel_rfl) (by kernel_rfl) (by kernel_rfl) (by kernel_rfl) (by kernel_rfl) (by kernel_rfl) (by kernel_rfl) (by kernel_rfl) (by kernel_rfl) (by kernel_rfl) (by kernel_rfl) (by kernel_rfl) (by kernel_rfl) (by kernel_rfl) (by kernel_rfl) (by kernel_rfl) (by kernel_rfl) (by kernel_rfl)
