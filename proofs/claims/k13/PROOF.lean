import PyProof.Rows.All
import Wide.All
import OpenK.AllK
import Wide.FinOn
import Lean
import PyProof.EqAt
import PyProof.EqKinds
import PyProof.TupleCall
import PyProof.NeKinds
import PySem.Challenge.RW_latticeworks_k13_one_form
set_option Elab.async false
set_option linter.all false
set_option maxRecDepth 100000
namespace L2
open PySem PySem.Spec PyProof.Rows
abbrev Key:=Sum Int Str
def zF:Key→Value→Bool
 | .inl k,v=>Value.isInt k v
 | .inr x,v=>Value.isStrOf x v
def Gi(w:World):Key→Int
 | .inl k=>hashInt k
 | .inr x=>hashStr w x
theorem dY:∀ {k:Key} {v:Value},zF k v=true→(∃i t,k=Sum.inl i∧v=Value.int i t)∨(∃x t,k=Sum.inr x∧v=Value.str x t)
 | .inl i,v,h=>by
   obtain⟨t,e⟩:=Value.isInt_shape (k:=i) (v:=v) h
   exact .inl ⟨i,t,rfl,e⟩
 | .inr x,v,h=>by
   obtain⟨t,e⟩:=Value.isStrOf_shape (x:=x) (v:=v) h
   exact .inr ⟨x,t,rfl,e⟩
theorem Cp(a b:Int):decide ((Sum.inl a:Key)=Sum.inl b)=(a==b):=by
 by_cases e:a=b
 · subst e;simp
 · have h:¬(Sum.inl a:Key)=Sum.inl b:=fun q=>e (Sum.inl.inj q)
   rw[decide_eq_false h]
   exact(beq_eq_false_iff_ne.mpr e).symm
theorem Ca(a b:Str):decide ((Sum.inr a:Key)=Sum.inr b)=decide (a=b):=by
 by_cases e:a=b
 · subst e;simp
 · have h:¬(Sum.inr a:Key)=Sum.inr b:=fun q=>e (Sum.inr.inj q)
   rw[decide_eq_false h,decide_eq_false e]
theorem Dz(a:Int)(b:Str):decide ((Sum.inl a:Key)=Sum.inr b)=false:=decide_eq_false (fun q=>nomatch q)
theorem Cj(a:Str)(b:Int):decide ((Sum.inr a:Key)=Sum.inl b)=false:=decide_eq_false (fun q=>nomatch q)
def uU(prog:Program)(w:World):PySem.KeyKind prog w Key where
 is:=zF
 hash:=Gi w
 inj:=fun v a b ha hb=>by
  rcases dY ha with⟨i,t,rfl,rfl⟩|⟨x,t,rfl,rfl⟩
  · rcases dY hb with⟨j,u,rfl,e⟩|⟨y,u,rfl,e⟩
    · injection e with e1 _;rw[e1]
    · exact nomatch e
  · rcases dY hb with⟨j,u,rfl,e⟩|⟨y,u,rfl,e⟩
    · exact nomatch e
    · injection e with e1 _;rw[e1]
 byValue:=fun k v h=>by
  rcases dY h with⟨i,t,rfl,rfl⟩|⟨x,t,rfl,rfl⟩<;>rfl
 pyHash:=fun hv h=>by
  rcases dY hv with⟨i,t,rfl,rfl⟩|⟨x,t,rfl,rfl⟩
  · exact wpAny_pyHash_int h
  · exact wpAny_pyHash_str h
 eqBool:=fun hu hv h=>by
  rcases dY hu with⟨i,t,rfl,rfl⟩|⟨x,t,rfl,rfl⟩
  · rcases dY hv with⟨j,u,rfl,rfl⟩|⟨y,u,rfl,rfl⟩
    · rw[Cp]at h;exact wpAny_eqBool_int h
    · rw[Dz]at h;exact SeqAt.EqAt.int_str i t y u _ _ _ _ h
  · rcases dY hv with⟨j,u,rfl,rfl⟩|⟨y,u,rfl,rfl⟩
    · rw[Cj]at h;exact SeqAt.EqAt.str_int x t j u _ _ _ _ h
    · rw[Ca]at h;exact wpAny_eqBool_str h
 «strs» :=fun k x t v h=>by
  rcases dY h with⟨i,u,rfl,e⟩|⟨y,u,rfl,e⟩
  · exact nomatch e
  · injection e with e1 _
    subst e1
    cases v<;>rfl
end L2
namespace L2
open PySem PySem.Spec PyProof.Rows
inductive V where
 |aJ|bl (b:Bool)|int (i:Int)|str (x:Str)|oo (b:Array UInt8)|zS (b:UInt64)|ref (a:Addr)|ty (n:String)
 deriving DecidableEq
def RelV:V→Value→Prop
 | .aJ,u=>u=Value.none
 | .bl b,u=>u=Value.bool b
 | .int i,u=>∃t,u=Value.int i t
 | .str x,u=>∃t,u=Value.str x t
 | .oo b,u=>∃t,u=Value.bytes b t
 | .zS b,u=>∃t,u=Value.float b t
 | .ref a,u=>u=Value.ref a
 | .ty n,u=>u=Value.type n
abbrev Vals:List V→List Value→Prop:=Paired RelV
theorem Vals.length{xs:List V}{us:List Value}(r:Vals xs us):xs.length=us.length:=Paired.length r
theorem Vals.get:∀ {xs:List V} {us:List Value} {i:Nat} {x:V},Vals xs us→xs[i]?=some x→∃u,us[i]?=some u∧RelV x u
 |_,_,_,_,.nil,e=>by simp at e
 |_,_,0,_,.cons r _,e=>by simp at e;subst e;exact⟨_,rfl,r⟩
 |_,_,i+1,x,.cons _ t,e=>by
  obtain⟨u,h1,h2⟩:=Vals.get (i:=i) (x:=x) t (by simpa using e)
  exact⟨u,by simpa using h1,h2⟩
theorem Vals.set{x:V}{u:Value}(r:RelV x u):∀ {xs:List V} {us:List Value} (i:Nat),Vals xs us→Vals (xs.set i x) (us.set i u)
 |_,_,_,.nil=> .nil
 |_,_,0,.cons _ t=> .cons r t
 |_,_,i+1,.cons q t=> .cons q (Vals.set r i t)
theorem Vals.append:∀ {xs ys:List V} {us ws:List Value},Vals xs us→Vals ys ws→Vals (xs++ys) (us++ws)
 |_,_,_,_,.nil,s=>s
 |_,_,_,_,.cons r t,s=> .cons r (Vals.append t s)
theorem Vals.take:∀ {xs:List V} {us:List Value} (n:Nat),Vals xs us→Vals (xs.take n) (us.take n)
 |_,_,0,_=> .nil
 |_,_,_+1,.nil=> .nil
 |_,_,n+1,.cons r t=> .cons r (Vals.take n t)
theorem Vals.drop:∀ {xs:List V} {us:List Value} (n:Nat),Vals xs us→Vals (xs.drop n) (us.drop n)
 |_,_,0,r=>r
 |_,_,_+1,.nil=> .nil
 |_,_,n+1,.cons _ t=>Vals.drop n t
def kH:Option V→Option Value→Prop
 |some v,some u=>RelV v u
 |none,none=>True
 |_,_=>False
def KV{κ:Type}:List (κ×V)→List (κ×Value)→Prop:=Paired fun(p:κ×V) (q:κ×Value)=>p.1=q.1∧RelV p.2 q.2
def kV:Key→V
 | .inl i=> .int i
 | .inr x=> .str x
inductive HO where
 |lst (xs:List V)
 |tup (xs:List V)
 |dK (kvs:List (Key×V))|dT (kvs:List (List Key×V))
 |set (S:Int→Bool) (n:Nat)
 |ins (C dx:Addr) (fs:List (Str×V))
 |own (x:Addr)
 |xd (fs:List (Str×V))
 |met (f x:Addr)
 |Co (lo hi:Int)
 |ix (o:Obj) (u:HO)
 |ir (ps:Array Value)
 |ext (φ:Heap→Prop)
abbrev Hp:=Addr→Option HO
def upd(H:Hp)(a:Addr)(o:HO):Hp:=fun b=>if b=a then some o else H b
theorem aO{H:Hp}{a:Addr}{o:HO}:upd H a o a=some o:=by unfold upd;rw[if_pos rfl]
theorem aD{H:Hp}{a b:Addr}{o:HO}(h:b≠a):upd H a o b=H b:=by unfold upd;rw[if_neg h]
theorem Bu{H:Hp}{a:Addr}{o u:HO}:upd (upd H a o) a u=upd H a u:=by
 funext b;unfold upd;split<;>rfl
theorem cV{H:Hp}{a b:Addr}{o:HO}(h:H a=some o)(h':H b=none):a≠b:=by
 intro e;subst e;rw[h]at h';cases h'
section
variable (P:Program)(w:World)
def ft(H:Hp)(h:Heap)(a:Addr):HO→Prop
 | .lst xs=>xs.length≤sizeLine∧∃(its:List Value) (n:Nat),Vals xs its∧h.get? a=some {cls:= .type "list",data:= .seq its.toArray n}
 | .tup xs=>xs.length≤sizeLine∧∃its:List Value,Vals xs its∧IsTup h a its.toArray
 | .dK kvs=>kvs.length≤sizeLine∧(a==sysModules)=false∧∃vs,KV kvs vs∧h.DictOf (uU P w) a vs
 | .dT kvs=>kvs.length≤sizeLine∧(a==sysModules)=false∧∃xs:List (List Key×Addr×Value),
    Paired (fun(p:List Key×V) (q:List Key×Addr×Value)=>p.1=q.1∧H q.2.1=some (.tup (p.1.map kV))∧RelV p.2 q.2.2) kvs xs∧
    ∃o es ep,h.get? a=some o∧o.ExactDict∧o.data= .dict es ep∧es.toList=xs.map (entryOfKey (tupleKind (uU P w)))∧(xs.map (·.1)).Nodup
 | .set S n=>h.SetOf (intKind P w) a S n
 | .ins C dx fs=>H dx=some (.own a)∧fs.length≤1000∧dx≠a∧h.get? a=some (PySem.W.instObj C dx)∧
    ∃mA,h.Ns1 dx mA∧(∀f,kH (fs.lookup f) (mA f))∧PySem.Within mA (fs.map (·.1))
 | .own _=>∃o,h.get? a=some o
 | .xd fs=>∃mA,h.Ns1 a mA∧∀f,kH (fs.lookup f) (mA f)
 | .Co lo hi=>∃t u v,h.get? a=some {cls:= .type "range",data:= .fields #[.int lo t,.int hi u,.int 1 v]}
 | .ix o u=>h.get? a=some o∧ft H h a u
 | .ir ps=>h.get? a=some {cls:= .none,data:= .fields ps}
 | .met f x=>h.get? a=some (PySem.W.methodObj (.ref f) (.ref x))
 | .ext φ=>φ h∧(∃o,h.get? a=some o)∧∀h1 h2:Heap,φ h1→(∀o,h1.get? a=some o→h2.get? a=some o)→φ h2
def fT(H:Hp)(h:Heap):Prop:=∀a o,H a=some o→ft P w H h a o
end
section
variable {P:Program}{w:World}{H H':Hp}{h h':Heap}{a:Addr}{o:HO}
theorem ft.lt(x:ft P w H h a o):a<h.objs.size:=by
 cases o with
 |lst xs=>obtain⟨_,_,_,_,e⟩:=x;exact Heap.lt_size e
 |tup xs=>obtain⟨_,_,_,p⟩:=x;exact p.lt
 |dK kvs=>obtain⟨_,_,_,_,o,_,_,e,_⟩:=x;exact Heap.lt_size e
 |dT kvs=>obtain⟨_,_,_,_,o,_,_,e,_⟩:=x;exact Heap.lt_size e
 |set S n=>obtain⟨o,_,_,_,e,_⟩:=x;exact Heap.lt_size e
 |ins C dx fs=>obtain⟨_,_,_,e,_⟩:=x;exact Heap.lt_size e
 |own y=>obtain⟨_,e⟩:=x;exact Heap.lt_size e
 |xd fs=>obtain⟨_,⟨_,_,_,e,_⟩,_⟩:=x;exact Heap.lt_size e
 |Co lo hi=>obtain⟨_,_,_,e⟩:=x;exact Heap.lt_size e
 |ix ob u=>obtain⟨e,_⟩:=x;exact Heap.lt_size e
 |ir ps=>exact Heap.lt_size (show h.get? a=some _ from x)
 |met f y=>exact Heap.lt_size (show h.get? a=some _ from x)
 |ext φ=>obtain⟨_,⟨_,e⟩,_⟩:=x;exact Heap.lt_size e
theorem Paired.zy{α β:Type}{F G:α→β→Prop}:∀ {l₁:List α} {l₂:List β},Paired F l₁ l₂→(∀a b,F a b→G a b)→Paired G l₁ l₂
 |_,_,.nil,_=> .nil
 |_,_,.cons r t,f=> .cons (f _ _ r) (Paired.zy t f)
theorem ft.kI(x:ft P w H h a o)(k:∀b u,(b=a∨H b=some (.own a))→h.get? b=some u→h'.get? b=some u)
 (ho:∀b,H b=some (.own a)→H' b=some (.own a)) (ht:∀b xs,H b=some (.tup xs)→H' b=some (.tup xs)):ft P w H' h' a o:=by
 induction o with
 |lst xs=>obtain⟨z,its,n,r,e⟩:=x;exact⟨z,its,n,r,k _ _ (.inl rfl) e⟩
 |tup xs=>obtain⟨z,its,r,ob,e,c⟩:=x;exact⟨z,its,r,ob,k _ _ (.inl rfl) e,c⟩
 |dK kvs=>obtain⟨z,y,vs,r,ob,es,ep,e,c⟩:=x;exact⟨z,y,vs,r,ob,es,ep,k _ _ (.inl rfl) e,c⟩
 |dT kvs=>
  obtain⟨z,y,xs,r,ob,es,ep,e,c⟩:=x
  exact⟨z,y,xs,Paired.zy r fun p q z=>⟨z.1,ht _ _ z.2.1,z.2.2⟩,ob,es,ep,k _ _ (.inl rfl) e,c⟩
 |set S n=>obtain⟨ob,es,ep,t,e,c⟩:=x;exact⟨ob,es,ep,t,k _ _ (.inl rfl) e,c⟩
 |ins C dx fs=>
  obtain⟨d,z,ne,e,mA,⟨od,es,ep,e2,c⟩,r⟩:=x
  exact⟨ho _ d,z,ne,k _ _ (.inl rfl) e,mA,⟨od,es,ep,k _ _ (.inr d) e2,c⟩,r⟩
 |own y=>obtain⟨ob,e⟩:=x;exact⟨ob,k _ _ (.inl rfl) e⟩
 |xd fs=>obtain⟨mA,⟨od,es,ep,e,c⟩,r⟩:=x;exact⟨mA,⟨od,es,ep,k _ _ (.inl rfl) e,c⟩,r⟩
 |Co lo hi=>obtain⟨t,u,v,e⟩:=x;exact⟨t,u,v,k _ _ (.inl rfl) e⟩
 |ix ob u ih=>obtain⟨e,q⟩:=x;exact⟨k _ _ (.inl rfl) e,ih q⟩
 |ir ps=>
  have e:h.get? a=some {cls:= .none,data:= .fields ps}:=x
  show h'.get? a=some {cls:= .none,data:= .fields ps}
  exact k a _ (.inl rfl) e
 |met f y=>
  have e:h.get? a=some (PySem.W.methodObj (.ref f) (.ref y)):=x
  show h'.get? a=some (PySem.W.methodObj (.ref f) (.ref y))
  exact k a _ (.inl rfl) e
 |ext φ=>obtain⟨p,⟨o,e⟩,st⟩:=x;exact⟨st _ _ p fun o q=>k _ _ (.inl rfl) q,⟨o,k _ _ (.inl rfl) e⟩,st⟩
theorem fT.lt(x:fT P w H h)(e:H a=some o):a<h.objs.size:=(x a o e).lt
theorem fT.fresh(x:fT P w H h)(e:h.objs.size≤a):H a=none:=by
 cases q:H a with
 |none=>rfl
 |some u=>exact absurd (Nat.lt_of_lt_of_le (x.lt q) e) (Nat.lt_irrefl _)
theorem fT.kept(x:fT P w H h)(k:∀b u,h.get? b=some u→h'.get? b=some u):fT P w H h':=fun a o e=>
 (x a o e).kI (fun b u _ q=>k b u q) (fun _ q=>q) fun _ _ q=>q
theorem fT.laid(x:fT P w H h)(k:∀b u,h.get? b=some u→h'.get? b=some u)(hp:h.objs.size≤a)(new:ft P w (upd H a o) h' a o):fT P w (upd H a o) h':=fun b u e=>by
 have hn:=x.fresh hp
 by_cases hb:b=a
 · subst hb;rw[aO]at e;cases e;exact new
 · rw[aD hb]at e
   exact(x b u e).kI (fun c v _ q=>k c v q) (fun c q=>by rw[aD (cV q hn)];exact q) fun c xs q=>by rw[aD (cV q hn)];exact q
end
def Rd(H:Hp)(a:Addr)(u:HO):Prop:=H a=some u∨∃o,H a=some (.ix o u)
theorem Rd.of{H:Hp}{a:Addr}{u:HO}(h:H a=some u):Rd H a u:= .inl h
theorem Rd.ok{P:Program}{w:World}{H:Hp}{h:Heap}{a:Addr}{u:HO}(r:Rd H a u)(x:fT P w H h):ft P w H h a u:=by
 rcases r with r|⟨o,r⟩
 · exact x a u r
 · obtain⟨_,q⟩:=x a _ r
   exact q
def zQ:Option HO→Prop
 |some (.lst _)=>True
 |some (.dK _)=>True
 |some (.dT _)=>True
 |some (.set _ _)=>True
 |some (.ins _ _ _)=>True
 |some (.ext _)=>True
 |_=>False
section
variable {P:Program}{w:World}{H:Hp}{h h':Heap}{x e:Addr}{o':HO}
theorem fT.write(ok:fT P w H h)(mu:zQ (H x))(he:e=x∨H e=some (.own x))(k:∀b u,b≠e→h.get? b=some u→h'.get? b=some u)(heo:∃u,h'.get? e=some u)
 (new:ft P w (upd H x o') h' x o'):fT P w (upd H x o') h':=fun b u q=>by
 have nown:∀c y,H c=some (.own y)→c≠x:=fun c y r z=>by subst z;rw[r]at mu;exact mu
 have ntup:∀c xs,H c=some (.tup xs)→c≠x:=fun c xs r z=>by subst z;rw[r]at mu;exact mu
 by_cases hb:b=x
 · subst hb;rw[aO]at q;cases q;exact new
 · rw[aD hb]at q
   by_cases hbe:b=e
   · have q':H b=some (.own x):=by
      rcases he with z|z
      · exact absurd (hbe.trans z) hb
      · rw[hbe];exact z
     rw[q]at q';cases q'
     obtain⟨v,hv⟩:=heo
     exact⟨v,by rw[hbe];exact hv⟩
   · refine(ok b u q).kI (fun c v hc r=>k c v ?_ r) (fun c r=>by rw[aD (nown c b r)];exact r) fun c xs r=>by rw[aD (ntup c xs r)];exact r
     rcases hc with rfl|hc
     · exact hbe
     · rintro rfl
       rcases he with z|z
       · exact nown c b hc z
       · rw[hc]at z;cases z;exact hb rfl
end
structure Un(fs ex:List Addr)(H H':Hp)(h h':Heap):Prop where
 keep:∀b o,h.get? b=some o→H b=none→b∉fs→b∉ex→h'.get? b=some o
 slot:∀b o,h.get? b=some o→H b=none→b∈fs→b∉ex→∃sl,h'.get? b=some {o with slots:=sl}
 free:∀b o,h.get? b=some o→H b=none→b∉ex→H' b=none
 there:∀b o,h.get? b=some o→b∉ex→∃o',h'.get? b=some o'
 kK:∀b xs,H b=some (.tup xs)→H' b=some (.tup xs)
 jX:∀b o u,H b=some (.ix o u)→H' b=some (.ix o u)
 jY:∀b ps,H b=some (.ir ps)→∃more,H' b=some (.ir (ps++more))
section
variable {fs fs' ex ex':List Addr}{H H1 H2:Hp}{h h1 h2 h':Heap}{a x e:Addr}{o:HO}
theorem Un.any(u:Un fs ex H H1 h h1){b:Addr}{ob:Obj}(q:h.get? b=some ob)(n:H b=none)(hx:b∉ex):∃sl,h1.get? b=some {ob with slots:=sl}:=by
 by_cases hb:b∈fs
 · exact u.slot b ob q n hb hx
 · exact⟨ob.slots,u.keep b ob q n hb hx⟩
theorem Un.kept(k:∀b u,h.get? b=some u→h'.get? b=some u):Un fs ex H H h h':=
 ⟨fun b ob q _ _ _=>k b ob q,fun b ob q _ _ _=>⟨ob.slots,k b ob q⟩,fun _ _ _ n _=>n,fun b ob q _=>⟨ob,k b ob q⟩,fun _ _ q=>q,fun _ _ _ q=>q,fun _ ps q=>⟨#[],by rw[q];simp⟩⟩
theorem Un.refl:Un fs ex H H h h:=Un.kept fun _ _ q=>q
theorem Un.laid(k:∀b u,h.get? b=some u→h'.get? b=some u)(hp:h.objs.size≤a)(hn:H a=none):Un fs ex H (upd H a o) h h' where
 keep:=fun b u q _ _ _=>k b u q
 slot:=fun b u q _ _ _=>⟨u.slots,k b u q⟩
 free:=fun b u q n _=>by rw[aD (Nat.ne_of_lt (Nat.lt_of_lt_of_le (Heap.lt_size q) hp))];exact n
 there:=fun b u q _=>⟨u,k b u q⟩
 kK:=fun b xs q=>by rw[aD (cV q hn)];exact q
 jX:=fun b u xs q=>by rw[aD (cV q hn)];exact q
 jY:=fun b ps q=>⟨#[],by rw[aD (cV q hn),q];simp⟩
theorem Un.write(mu:zQ (H x))(he:e=x∨H e=some (.own x))(k:∀b u,b≠e→h.get? b=some u→h'.get? b=some u)(heo:∃u,h'.get? e=some u):Un fs ex H (upd H x o) h h':=by
 have hx:∀b,H b=none→b≠x:=fun b n z=>by subst z;rw[n]at mu;exact mu
 have hb:∀b,H b=none→b≠e:=fun b n z=>by
  subst z
  rcases he with r|r
  · exact hx b n r
  · rw[n]at r;cases r
 have hm:∀b u,H b=some u→¬zQ (some u)→b≠x:=fun b u q nm z=>by subst z;rw[q]at mu;exact nm mu
 refine⟨fun b u q n _ _=>k b u (hb b n) q,fun b u q n _ _=>⟨u.slots,k b u (hb b n) q⟩,fun b u q n _=>by rw[aD (hx b n)];exact n,fun b u q _=>?_,
  fun b xs q=>by rw[aD (hm b _ q fun z=>z)];exact q,fun b u xs q=>by rw[aD (hm b _ q fun z=>z)];exact q,fun b ps q=>⟨#[],by rw[aD (hm b _ q fun z=>z),q];simp⟩⟩
 by_cases hbe:b=e
 · subst hbe;exact heo
 · exact⟨u,k b u hbe q⟩
end
def Ah(h:Heap)(H:Hp):List Addr:=(List.range h.objs.size).filter fun a=>(H a).isSome
def kJ(h:Heap)(H:Hp):Heap:=PySem.W.hideAll h (Ah h H)
theorem yh(h:Heap)(H:Hp):(kJ h H).objs.size=h.objs.size:=PySem.W.hideAll_size _ _
theorem lZ{h:Heap}{H:Hp}{b:Addr}{o:Obj}(e:h.get? b=some o)(n:H b=none):(kJ h H).get? b=some o:=
 PySem.W.hideAll_get _ e fun hm=>by
  have q:(H b).isSome=true:=(List.mem_filter.mp hm).2
  rw[n]at q;simp at q
theorem BC{h:Heap}{H:Hp}{b:Addr}{o:Obj}(e:(kJ h H).get? b=some o):h.get? b=some o∧H b=none:=by
 have e':h.get? b=some o:=PySem.W.of_hideAll (Ah h H) e
 refine⟨e',?_⟩
 cases q:H b with
 |none=>rfl
 |some x=>
  have hm:b∈Ah h H:=List.mem_filter.mpr ⟨List.mem_range.mpr (Heap.lt_size e'),by simp[q]⟩
  have z:(kJ h H).get? b=none:=PySem.W.hideAll_none (Ah h H) hm
  rw[z]at e;cases e
def Aq(g h:Heap)(L:Addr):List (Addr×Obj):=(List.range h.objs.size).filterMap fun a=>if a=L∨(g.get? a).isSome=true then none else(h.get? a).map fun o=>(a,o)
def rest(g h:Heap)(L d:Addr):List (Addr×Obj):=(Aq g h L).filter fun p=>decide (p.1≠d)
end L2
namespace L2
open PySem PySem.Spec PyProof.Rows
structure Mod(K:PySem.W.Frag)(mg:Str→Option Value)(base:Heap):Prop where
 xJ:K.In base
 glob:base.Ns mainGlobals mg
 blt:∃mb,base.Ns builtinsNs mb∧∀x:Str,x≠"__name__"→mb x=bootBuiltins x
 nolimit:base.NoLimit
 seer:base.NoSeer
 bmain:∃bm ob,mg "__builtins__"=some (.ref bm)∧bm≠builtinsNs∧base.get? bm=some ob∧ob.cls= .type "module"∧ob.dict=some builtinsNs∧ob.data= .plain
structure Cx where
 prog:Program
 w:World
 K:PySem.W.Frag
 mg:Str→Option Value
 base:Heap
 A:Around
 N:List Str
 s₀:Shared
 H₀:Hp
 env:Env
 outer:List Env
 stack:List Env
 ex:List Addr
 fn:Str→Bool
 calm:Bool
 pn:List (Addr×Obj)
 xe:Value→Shared→Prop
def lh(l:List Env):List Addr:=l.filterMap (·.frame)
abbrev Cx.fs(X:Cx):List Addr:=lh X.outer
def sW(sc:Scope)(x:Str):Prop:=sc.names.lookup x=some .local∨sc.names.lookup x=some .cell∨sc.names.lookup x=some .free
def Loc(sc:Scope)(x:Str):Prop:=sc.names.lookup x=some .local∨sc.names.lookup x=some .cell
def Look(env:Env)(h:Heap)(m:Str→Option Value)(x:Str)(u:Value):Prop:=
 (env.kindOf x=some .local∧m x=some u)∨((env.kindOf x=some .cell∨env.kindOf x=some .free)∧∃c,env.cells.lookup x=some c∧h.IsCell c (some u))
structure Cx.Ok(X:Cx):Prop where
 mod:Mod X.K X.mg X.base
 kind:X.env.scope.kind= .function
 glob:X.env.globals=mainGlobals
 blt:X.env.builtins=builtinsNs
 above:X.s₀.heap.objs.size≤X.env.locals
 inj:∀x y c,X.env.cells.lookup x=some c→X.env.cells.lookup y=some c→x=y
 has:∀x,(X.env.kindOf x=some .cell∨X.env.kindOf x=some .free)→∃c,X.env.cells.lookup x=some c
 sH:∀x c,X.fn x=true→X.env.cells.lookup x=some c→X.s₀.heap.objs.size≤c
 hd:X.calm=true→X.A.handled=none
 frames:X.A.frames=some X.stack
 uQ:X.stack=X.outer∨(X.stack=X.env::X.outer∧X.env.frame=some X.env.locals)
 xn:∀b∈X.ex,b≠X.env.locals∧∀x c,X.env.cells.lookup x=some c→c≠b
 bs:∀b o,X.base.get? b=some o→X.s₀.heap.get? b=some o∧X.H₀ b=none
 nh:X.base.objs.size≤X.s₀.heap.objs.size
 oZ:∀b o,X.base.get? b=some o→b∉X.ex
 oK:∀b∈X.ex,b∉X.fs
 iy:X.s₀.heap.FunFrames X.base X.outer
 pX:∀b∈X.fs,X.H₀ b=none
 gt:X.prog.given.tree=none
structure Inv(X:Cx)(pins:List (Addr×Obj))(σ:List (Option V))(H:Hp)(s:Shared):Prop where
 ok:X.Ok
 os:s.os=X.s₀.os
 bare:AllBare s.gens
 base:Un X.fs X.ex X.H₀ H X.s₀.heap s.heap
 loc:∃m,s.heap.Ns X.env.locals m∧∀(i:Nat) (x:Str) (v:V),X.N[i]?=some x→σ[i]?=some (some v)→sW X.env.scope x→∃u,RelV v u∧Look X.env s.heap m x u
 cell:∀x c,X.env.cells.lookup x=some c→∃v,s.heap.IsCell c v
 free:H X.env.locals=none
 gj:∀x c,X.env.cells.lookup x=some c→H c=none
 pin:∀p∈X.pn++pins,s.heap.get? p.1=some p.2∧H p.1=none∧p.1≠X.env.locals∧p.1∉X.fs∧∀v,p.2.data≠ .cell v
 aL:fT X.prog X.w H s.heap
 len:σ.length=X.N.length
section
variable {X:Cx}{pins:List (Addr×Obj)}{σ:List (Option V)}{H H':Hp}{s:Shared}{h':Heap}
theorem Cx.Ok.FT(ok:X.Ok){b:Addr}{o:Obj}(e:X.base.get? b=some o):b∉X.fs:=fun hb=>by
 have:=(ok.iy.mem hb).1
 rw[e]at this;cases this
theorem Inv.bs(I:Inv X pins σ H s):∀b o,X.base.get? b=some o→s.heap.get? b=some o∧H b=none:=fun b o e=>
 ⟨I.base.keep b o (I.ok.bs b o e).1 (I.ok.bs b o e).2 (I.ok.FT e) (I.ok.oZ b o e),I.base.free b o (I.ok.bs b o e).1 (I.ok.bs b o e).2 (I.ok.oZ b o e)⟩
theorem Inv.bk(I:Inv X pins σ H s):∀b o,X.base.get? b=some o→s.heap.get? b=some o:=fun b o e=>(I.bs b o e).1
theorem Inv.mod(I:Inv X pins σ H s):Mod X.K X.mg X.base:=I.ok.mod
theorem Inv.kj(I:Inv X pins σ H s):X.K.In s.heap:=I.ok.mod.xJ.keeps I.bk
theorem Inv.nolimit(I:Inv X pins σ H s):s.heap.NoLimit:=I.ok.mod.nolimit.keeps I.bk
theorem Inv.lt(I:Inv X pins σ H s):X.env.locals<s.heap.objs.size:=let⟨_,hn,_⟩:=I.loc;hn.lt
theorem Inv.sz(I:Inv X pins σ H s):X.s₀.heap.objs.size≤s.heap.objs.size:=Nat.le_trans I.ok.above (Nat.le_of_lt I.lt)
theorem Inv.BO(I:Inv X pins σ H s){a:Addr}(h:s.heap.objs.size≤a):a∉X.fs:=fun hb=>by
 obtain⟨_,o,ho,_⟩:=I.ok.iy.mem hb
 exact absurd (Nat.lt_of_lt_of_le (Heap.lt_size ho) (Nat.le_trans I.sz h)) (Nat.lt_irrefl _)
theorem Inv.tQ(I:Inv X pins σ H s):∀x c,X.env.cells.lookup x=some c→c≠X.env.locals:=fun x c e z=>by
 obtain⟨v,o,ho,hd⟩:=I.cell x c e
 obtain⟨m,⟨o',es,ep,ho',hd',_⟩,_⟩:=I.loc
 rw[z,ho']at ho;cases ho;rw[hd']at hd;cases hd
theorem Inv.iy(I:Inv X pins σ H s):s.heap.FunFrames X.base X.outer:=by
 have all:∀(l:List Env),(∀b∈lh l,b∈X.fs)→X.s₀.heap.FunFrames X.base l→s.heap.FunFrames X.base l:=by
  intro l
  induction l with
  |nil=>intro _ _;trivial
  |cons env r ih=>
   intro hs hl
   obtain⟨hk,⟨L,o,hf,hn,ho,hd⟩,hr⟩:=hl
   have hL:L∈X.fs:=hs L (by unfold lh;rw[List.filterMap_cons,hf];exact List.mem_cons_self)
   obtain⟨sl,e⟩:=I.base.slot L o ho (I.ok.pX L hL) hL fun z=>I.ok.oK L z hL
   exact⟨hk,⟨L,_,hf,hn,e,hd⟩,ih (fun b hb=>hs b (by unfold lh;rw[List.filterMap_cons,hf];exact List.mem_cons_of_mem _ hb)) hr⟩
 exact all X.outer (fun _ hb=>hb) I.ok.iy
theorem Inv.stack(I:Inv X pins σ H s):s.heap.FunFrames X.base X.stack:=by
 rcases I.ok.uQ with e|⟨e,hf⟩
 · rw[e];exact I.iy
 · rw[e]
   obtain⟨m,hn,_⟩:=I.loc
   refine .cons (by rw[I.ok.kind];decide) hf hn ?_ I.iy
   exact Heap.get?_none_of_le (Nat.le_trans I.ok.nh I.ok.above)
theorem Inv.sL(I:Inv X pins σ H s):∀b∈lh X.stack,b∈X.env.locals::X.fs:=fun b hb=>by
 rcases I.ok.uQ with e|⟨e,hf⟩
 · rw[e]at hb;exact List.mem_cons_of_mem _ hb
 · rw[e]at hb
   unfold lh at hb
   rw[List.filterMap_cons,hf]at hb
   exact hb
theorem Inv.p_(I:Inv X pins σ H s):∀b∈lh X.stack,H b=none:=fun b hb=>by
 rcases List.mem_cons.mp (I.sL b hb)with e|hb
 · rw[e];exact I.free
 · obtain⟨_,o,ho,_⟩:=I.ok.iy.mem hb
   exact I.base.free b o ho (I.ok.pX b hb) fun z=>I.ok.oK b z hb
theorem Inv.step{g':Array GenState}{t':Nat}{d':Drawn}{ch:List Addr}(I:Inv X pins σ H s)
 (hch:∀b∈ch,(b∈X.ex∨X.s₀.heap.objs.size≤b)∧b≠X.env.locals∧(∀x c,X.env.cells.lookup x=some c→c≠b)∧∀p∈X.pn++pins,p.1≠b)
 (keep:∀b o,b≠X.env.locals→b∉X.fs→b∉ch→s.heap.get? b=some o→H b=none→h'.get? b=some o)
 (slot:∀b o,b≠X.env.locals→b∈X.fs→b∉ch→s.heap.get? b=some o→H b=none→∃sl,h'.get? b=some {o with slots:=sl}) (free:∀b o,b∉ch→s.heap.get? b=some o→H b=none→H' b=none)
 (there:∀b o,b∉ch→s.heap.get? b=some o→∃o',h'.get? b=some o')
 (kK:∀b xs,H b=some (.tup xs)→H' b=some (.tup xs)) (jX:∀b o u,H b=some (.ix o u)→H' b=some (.ix o u)) (jY:∀b ps,H b=some (.ir ps)→∃more,H' b=some (.ir (ps++more)))
 (ns:∀m,s.heap.Ns X.env.locals m→h'.Ns X.env.locals m) (aL:fT X.prog X.w H' h') (hg:AllBare g'):
 Inv X pins σ H' {s with heap:=h',gens:=g',drawn:=d',toks:=t'}:=by
 have neL:∀b o,X.s₀.heap.get? b=some o→b≠X.env.locals:=fun b o e=>Nat.ne_of_lt (Nat.lt_of_lt_of_le (Heap.lt_size e) I.ok.above)
 have neC:∀b o,X.s₀.heap.get? b=some o→b∉X.ex→b∉ch:=fun b o e hx hb=>by
  rcases(hch b hb).1 with z|z
  · exact hx z
  · exact absurd (Nat.lt_of_lt_of_le (Heap.lt_size e) z) (Nat.lt_irrefl _)
 have cellK:∀x c,X.env.cells.lookup x=some c→∀v,s.heap.IsCell c v→h'.IsCell c v:=fun x c e v ⟨o,ho,hd⟩=>by
  have nch:c∉ch:=fun z=>(hch c z).2.2.1 x c e rfl
  by_cases hc:c∈X.fs
  · obtain⟨sl,q⟩:=slot c o (I.tQ x c e) hc nch ho (I.gj x c e)
    exact⟨_,q,hd⟩
  · exact⟨o,keep c o (I.tQ x c e) hc nch ho (I.gj x c e),hd⟩
 refine⟨I.ok,I.os,hg,⟨fun b o e n hb hx=>?_,fun b o e n hb hx=>?_,fun b o e n hx=>?_,fun b o e hx=>?_,fun b xs e=>kK b xs (I.base.kK b xs e),fun b o xs e=>jX b o xs (I.base.jX b o xs e),fun b ps e=>?_⟩,?_,fun x c e=>?_,?_,fun x c e=>?_,fun p hp=>?_,aL,I.len⟩
 · exact keep b o (neL b o e) hb (neC b o e hx) (I.base.keep b o e n hb hx) (I.base.free b o e n hx)
 · obtain⟨sl,e1⟩:=I.base.slot b o e n hb hx
   obtain⟨sl',e2⟩:=slot b _ (neL b o e) hb (neC b o e hx) e1 (I.base.free b o e n hx)
   exact⟨sl',e2⟩
 · obtain⟨o',e1⟩:=I.base.there b o e hx
   exact free b o' (neC b o e hx) e1 (I.base.free b o e n hx)
 · obtain⟨o',e1⟩:=I.base.there b o e hx
   exact there b o' (neC b o e hx) e1
 · obtain⟨m1,e1⟩:=I.base.jY b ps e
   obtain⟨m2,e2⟩:=jY b _ e1
   exact⟨m1++m2,by rw[e2,Array.append_assoc]⟩
 · obtain⟨m,hn,hl⟩:=I.loc
   refine⟨m,ns m hn,fun i x v e1 e2 e3=>?_⟩
   obtain⟨u,r,l⟩:=hl i x v e1 e2 e3
   refine⟨u,r,?_⟩
   rcases l with l|⟨k,c,e,z⟩
   · exact .inl l
   · exact .inr ⟨k,c,e,cellK x c e _ z⟩
 · obtain⟨v,z⟩:=I.cell x c e
   exact⟨v,cellK x c e v z⟩
 · obtain⟨m,⟨o,_,_,ho,_⟩,_⟩:=I.loc
   exact free _ o (fun z=>(hch _ z).2.1 rfl) ho I.free
 · obtain⟨v,o,ho,hd⟩:=I.cell x c e
   exact free c o (fun z=>(hch c z).2.2.1 x c e rfl) ho (I.gj x c e)
 · obtain⟨e,n,ne,nf,d⟩:=I.pin p hp
   have nch:p.1∉ch:=fun z=>(hch p.1 z).2.2.2 p hp rfl
   exact⟨keep p.1 p.2 ne nf nch e n,free p.1 p.2 nch e n,ne,nf,d⟩
theorem Inv.un{t':Nat}(I:Inv X pins σ H s)(u:Un X.fs [] H H' s.heap h')(aL:fT X.prog X.w H' h'):Inv X pins σ H' {s with heap:=h',toks:=t'}:=by
 obtain⟨m,⟨o,es,ep,ho,r⟩,_⟩:=id I.loc
 obtain⟨sl,hL⟩:=u.any ho I.free (by simp)
 exact I.step (g':=s.gens) (d':=s.drawn) (ch:=[]) (fun _ z=>nomatch z) (fun b o _ hb _ e n=>u.keep b o e n hb (by simp)) (fun b o _ hb _ e n=>u.slot b o e n hb (by simp)) (fun b o _ e n=>u.free b o e n (by simp)) (fun b o _ e=>u.there b o e (by simp)) u.kK u.jX u.jY (fun m' hm=>by
  obtain⟨o',es',ep',ho',r'⟩:=hm
  rw[ho]at ho';cases ho'
  exact⟨_,es',ep',hL,r'⟩) aL I.bare
theorem Inv.call{g':Array GenState}{t':Nat}{d':Drawn}{ch:List Addr}(I:Inv X pins σ H s)(u:Un (lh X.stack) ch H H' s.heap h')(aL:fT X.prog X.w H' h')(hg:AllBare g')
 (hch:∀b∈ch,(b∈X.ex∨X.s₀.heap.objs.size≤b)∧b≠X.env.locals∧(∀x c,X.env.cells.lookup x=some c→c≠b)∧∀p∈X.pn++pins,p.1≠b):
 Inv X pins σ H' {s with heap:=h',gens:=g',drawn:=d',toks:=t'}:=by
 obtain⟨m,⟨o,es,ep,ho,r⟩,_⟩:=id I.loc
 obtain⟨sl,hL⟩:=u.any ho I.free fun z=>(hch _ z).2.1 rfl
 exact I.step (ch:=ch) hch (fun b o hL hb hc e n=>u.keep b o e n (fun z=>(List.mem_cons.mp (I.sL b z)).elim hL hb) hc) (fun b o _ _ hc e n=>u.any e n hc) (fun b o hc e n=>u.free b o e n hc) (fun b o hc e=>u.there b o e hc) u.kK u.jX u.jY (fun m' hm=>by
  obtain⟨o',es',ep',ho',r'⟩:=hm
  rw[ho]at ho';cases ho'
  exact⟨_,es',ep',hL,r'⟩) aL hg
theorem Inv.turned{t':Nat}{it:Addr}(I:Inv X pins σ H s)(k:∀b o,b≠it→s.heap.get? b=some o→h'.get? b=some o)(hn:H it=none)(hL:it≠X.env.locals)
 (h1:it∈X.ex∨X.s₀.heap.objs.size≤it) (h2:∀x c,X.env.cells.lookup x=some c→c≠it) (h3:∀p∈X.pn++pins,p.1≠it):Inv X pins σ H {s with heap:=h',toks:=t'}:=by
 have nit:∀b u,H b=some u→b≠it:=fun b u e z=>by rw[z,hn]at e;cases e
 refine I.step (g':=s.gens) (d':=s.drawn) (ch:=[it]) (fun b hb=>?_) (fun b o _ _ hc e _=>k b o (fun z=>hc (by simp[z])) e) (fun b o _ _ hc e _=>⟨o.slots,k b o (fun z=>hc (by simp[z])) e⟩) (fun _ _ _ _ n=>n)
  (fun b o hc e=>⟨o,k b o (fun z=>hc (by simp[z])) e⟩) (fun _ _ e=>e) (fun _ _ _ e=>e) (fun b ps e=>⟨#[],by rw[e];simp⟩) (fun m hm=>?_) (fun b u e=>?_) I.bare
 · have e:b=it:=by simpa using hb
   subst e
   exact⟨h1,hL,h2,h3⟩
 · obtain⟨o,es,ep,ho,r⟩:=hm
   exact⟨o,es,ep,k _ o (Ne.symm hL) ho,r⟩
 · refine(I.aL b u e).kI (fun c v hc q=>k c v ?_ q) (fun _ q=>q) fun _ _ q=>q
   rcases hc with z|z
   · rw[z];exact nit b u e
   · exact nit c _ z
theorem Inv.tok(I:Inv X pins σ H s)(t:Nat):Inv X pins σ H {s with toks:=t}:=I.un (h':=s.heap) (t':=t) Un.refl I.aL
theorem Inv.kept{t':Nat}(I:Inv X pins σ H s)(k:∀b u,s.heap.get? b=some u→h'.get? b=some u):Inv X pins σ H {s with heap:=h',toks:=t'}:=I.un (Un.kept k) (I.aL.kept k)
theorem Inv.laid{a:Addr}{o:HO}{t':Nat}(I:Inv X pins σ H s)(k:∀b u,s.heap.get? b=some u→h'.get? b=some u)(hp:s.heap.objs.size≤a)(new:ft X.prog X.w (upd H a o) h' a o):
 Inv X pins σ (upd H a o) {s with heap:=h',toks:=t'}:=I.un (Un.laid k hp (I.aL.fresh hp)) (I.aL.laid k hp new)
theorem Inv.write{x e:Addr}{o:HO}{t':Nat}(I:Inv X pins σ H s)(mu:zQ (H x))(he:e=x∨H e=some (.own x))(k:∀b u,b≠e→s.heap.get? b=some u→h'.get? b=some u)(heo:∃u,h'.get? e=some u)
 (new:ft X.prog X.w (upd H x o) h' x o):Inv X pins σ (upd H x o) {s with heap:=h',toks:=t'}:=I.un (Un.write mu he k heo) (I.aL.write mu he k heo new)
theorem Inv.nJ{pins':List (Addr×Obj)}(I:Inv X pins σ H s)(h:∀p∈pins',s.heap.get? p.1=some p.2∧H p.1=none∧p.1≠X.env.locals∧p.1∉X.fs∧∀v,p.2.data≠ .cell v):Inv X pins' σ H s:=
 ⟨I.ok,I.os,I.bare,I.base,I.loc,I.cell,I.free,I.gj,fun p hp=>(List.mem_append.mp hp).elim (fun z=>I.pin p (List.mem_append_left _ z)) (h p),I.aL,I.len⟩
theorem tW{N:List Str}(hN:N.Nodup){i j:Nat}{x:Str}(a:N[i]?=some x)(b:N[j]?=some x):i=j:=by
 obtain⟨h1,e1⟩:=List.getElem?_eq_some_iff.mp a
 obtain⟨h2,e2⟩:=List.getElem?_eq_some_iff.mp b
 exact(List.getElem_inj hN).mp (e1.trans e2.symm)
theorem qw{M:Model}{A:Around}{E:Value→Shared→Prop}{i:Nat}{x:Str}{v:V}{u:Value}{Q:Unit→Shared→Prop}(I:Inv X pins σ H s)(hN:X.N.Nodup)(hi:X.N[i]?=some x)(hx:Loc X.env.scope x)(r:RelV v u)
 (h:∀s',Inv X pins (σ.set i (some v)) H s'→(∃a,Heap.SameBut a s.heap s'.heap∧(a=X.env.locals∨X.env.cells.lookup x=some a))→Q () s') (hf:X.fn x=true∨X.env.scope.names.lookup x=some .local:=by first|exact .inl rfl|exact .inr rfl|assumption):wpAny M A (storeName X.env x u) Q E s:=by
 obtain⟨m,hn,hl⟩:=id I.loc
 have hcls:(X.env.scope.kind== .class||(X.env.scope.kind== .module&&X.env.locals != X.env.globals))=false:=by rw[I.ok.kind];rfl
 have hiσ:i<σ.length:=by rw[I.len];exact(List.getElem?_eq_some_iff.mp hi).1
 have tQ:=I.tQ
 have tracked:∀ {a:Addr} {h':Heap},(∃o,s.heap.get? a=some o∧H a=none)→Heap.SameBut a s.heap h'→fT X.prog X.w H h':=fun{a h'} ha hs b ob e=>by
  obtain⟨_,_,hfree⟩:=ha
  refine(I.aL b ob e).kI (fun c w' hc q=>(hs.2 c ?_).trans q) (fun _ q=>q) fun _ _ q=>q
  rintro rfl
  rcases hc with rfl|hc
  · rw[hfree]at e;cases e
  · rw[hfree]at hc;cases hc
 rcases hx with hk|hk
 · refine wpAny_storeName_local hk hn (fun h' hn' hs=>?_) hcls
   obtain⟨oL,_,_,hoL,_⟩:=id hn
   refine h _ ⟨I.ok,I.os,I.bare,⟨fun b o e n hb hx=>?_,fun b o e n hb hx=>?_,I.base.free,fun b o e hx=>?_,I.base.kK,I.base.jX,I.base.jY⟩,⟨_,hn',fun j y v' e1 e2 e3=>?_⟩,fun y c e=>?_,I.free,I.gj,fun p hp=>?_,tracked ⟨oL,hoL,I.free⟩ hs,by simpa using I.len⟩ ⟨_,hs,.inl rfl⟩
   · exact(hs.2 b (Nat.ne_of_lt (Nat.lt_of_lt_of_le (Heap.lt_size e) I.ok.above))).trans (I.base.keep b o e n hb hx)
   · obtain⟨sl,e1⟩:=I.base.slot b o e n hb hx
     exact⟨sl,(hs.2 b (Nat.ne_of_lt (Nat.lt_of_lt_of_le (Heap.lt_size e) I.ok.above))).trans e1⟩
   · obtain⟨o',e1⟩:=I.base.there b o e hx
     exact⟨o',(hs.2 b (Nat.ne_of_lt (Nat.lt_of_lt_of_le (Heap.lt_size e) I.ok.above))).trans e1⟩
   · by_cases hj:j=i
     · subst hj
       rw[hi]at e1;cases e1
       rw[List.getElem?_set_self hiσ]at e2
       cases e2
       exact⟨u,r,.inl ⟨hk,by simp⟩⟩
     · rw[List.getElem?_set_ne (Ne.symm hj)]at e2
       obtain⟨u',r',q⟩:=hl j y v' e1 e2 e3
       refine⟨u',r',?_⟩
       rcases q with⟨k,e⟩|⟨k,c,e,z⟩
       · refine .inl ⟨k,?_⟩
         have:y≠x:=fun e=>hj (tW hN e1 (e▸hi))
         simp[this,e]
       · exact .inr ⟨k,c,e,z.sameBut hs (tQ y c e)⟩
   · obtain⟨w',z⟩:=I.cell y c e
     exact⟨w',z.sameBut hs (tQ y c e)⟩
   · obtain⟨e,n,ne,nf,d⟩:=I.pin p hp
     exact⟨(hs.2 p.1 ne).trans e,n,ne,nf,d⟩
 · have hfn:X.fn x=true:=by
    rcases hf with z|z
    · exact z
    · rw[z]at hk;cases hk
   obtain⟨c,hc⟩:=I.ok.has x (.inl hk)
   obtain⟨w',z⟩:=I.cell x c hc
   refine wpAny_storeName_cell I.ok.kind hk hc z (fun h' hc' hs=>?_)
   obtain⟨oc,hoc,hocd⟩:=id z
   refine h {s with heap:=h'} ⟨I.ok,I.os,I.bare,⟨fun b o e n hb hx=>?_,fun b o e n hb hx=>?_,I.base.free,fun b o e hx=>?_,I.base.kK,I.base.jX,I.base.jY⟩,⟨m,hn.sameBut hs (Ne.symm (tQ x c hc)),fun j y v' e1 e2 e3=>?_⟩,fun y c' e=>?_,I.free,I.gj,fun p hp=>?_,tracked ⟨oc,hoc,I.gj x c hc⟩ hs,by simpa using I.len⟩ ⟨c,hs,.inr hc⟩
   · exact(hs.2 b (Nat.ne_of_lt (Nat.lt_of_lt_of_le (Heap.lt_size e) (I.ok.sH x c hfn hc)))).trans (I.base.keep b o e n hb hx)
   · obtain⟨sl,e1⟩:=I.base.slot b o e n hb hx
     exact⟨sl,(hs.2 b (Nat.ne_of_lt (Nat.lt_of_lt_of_le (Heap.lt_size e) (I.ok.sH x c hfn hc)))).trans e1⟩
   · obtain⟨o',e1⟩:=I.base.there b o e hx
     exact⟨o',(hs.2 b (Nat.ne_of_lt (Nat.lt_of_lt_of_le (Heap.lt_size e) (I.ok.sH x c hfn hc)))).trans e1⟩
   · by_cases hj:j=i
     · subst hj
       rw[hi]at e1;cases e1
       rw[List.getElem?_set_self hiσ]at e2
       cases e2
       exact⟨u,r,.inr ⟨.inl hk,c,hc,hc'⟩⟩
     · rw[List.getElem?_set_ne (Ne.symm hj)]at e2
       obtain⟨u',r',q⟩:=hl j y v' e1 e2 e3
       refine⟨u',r',?_⟩
       rcases q with q|⟨k,c',e,z'⟩
       · exact .inl q
       · refine .inr ⟨k,c',e,z'.sameBut hs ?_⟩
         rintro rfl
         exact hj (tW hN e1 (I.ok.inj _ _ _ e hc▸hi))
   · by_cases hcc:c'=c
     · subst hcc;exact⟨_,hc'⟩
     · obtain⟨w2,z2⟩:=I.cell y c' e
       exact⟨w2,z2.sameBut hs hcc⟩
   · obtain⟨e,n,ne,nf,d⟩:=I.pin p hp
     refine⟨(hs.2 p.1 ?_).trans e,n,ne,nf,d⟩
     intro q
     rw[q,hoc]at e
     have q':oc=p.2:=Option.some.inj e
     exact d w' (by rw[←q'];exact hocd)
theorem oF{M:Model}{A:Around}{E:Value→Shared→Prop}{i:Nat}{x:Str}{v:V}{u:Value}{Q:Unit→Shared→Prop}(I:Inv X pins σ H s)(hN:X.N.Nodup)(hi:X.N[i]?=some x)(hx:Loc X.env.scope x)(r:RelV v u)
 (h:∀s',Inv X pins (σ.set i (some v)) H s'→Q () s') (hf:X.fn x=true∨X.env.scope.names.lookup x=some .local:=by first|exact .inl rfl|exact .inr rfl|assumption):wpAny M A (storeName X.env x u) Q E s:=
 qw I hN hi hx r (fun s' I' _=>h s' I') hf
theorem Inv.vA{s':Shared}{ch:List Addr}(I:Inv X pins σ H s)(ho:s'.os=s.os)(u:Un (lh X.stack) ch H H' s.heap s'.heap)(aL:fT X.prog X.w H' s'.heap)(hg:AllBare s'.gens)
 (hch:∀b∈ch,(b∈X.ex∨X.s₀.heap.objs.size≤b)∧b≠X.env.locals∧(∀x c,X.env.cells.lookup x=some c→c≠b)∧∀p∈X.pn++pins,p.1≠b):Inv X pins σ H' s':=by
 obtain⟨h',g',d',t',o'⟩:=s'
 have e:o'=s.os:=ho
 subst e
 exact I.call (g':=g') (t':=t') (d':=d') u aL hg hch
end
abbrev XK:=Value→Option Addr→Hp→Prop
abbrev St:=List (Option V)
abbrev VK:=V→Hp→Prop
abbrev TE:=St→Hp→VK→Prop
abbrev TT:=St→Hp→(Bool→Hp→Prop)→Prop
abbrev TA:=St→Hp→(List V→Hp→Prop)→Prop
structure Ends where
 nx:St→Hp→Prop
 rt:VK
 bk:St→Hp→Prop:=fun _ _=>False
 ct:St→Hp→Prop:=fun _ _=>False
abbrev TS:=Ends→St→Hp→Prop
def EP(X:Cx)(pins:List (Addr×Obj))(σ:St)(Q:VK)(u:Value)(s':Shared):Prop:=∃v H',Inv X pins σ H' s'∧RelV v u∧Q v H'
def TP(X:Cx)(pins:List (Addr×Obj))(σ:St)(Q:Bool→Hp→Prop)(b:Bool)(s':Shared):Prop:=∃H',Inv X pins σ H' s'∧Q b H'
def AP(X:Cx)(pins:List (Addr×Obj))(σ:St)(Q:List V→Hp→Prop)(us:List Value)(s':Shared):Prop:=∃vs H',Inv X pins σ H' s'∧Vals vs us∧Q vs H'
def SP(X:Cx)(pins:List (Addr×Obj))(D:Ends)(f:Flow)(s':Shared):Prop:=
 match f with
 | .next=>∃σ' H',Inv X pins σ' H' s'∧D.nx σ' H'
 | .brk=>∃σ' H',Inv X pins σ' H' s'∧D.bk σ' H'
 | .cont=>∃σ' H',Inv X pins σ' H' s'∧D.ct σ' H'
 | .ret u=>∃v σ' H',Inv X pins σ' H' s'∧RelV v u∧D.rt v H'
def PE(X:Cx)(e:Expr)(t:TE):Prop:=
 ∀(pins:List (Addr×Obj)) (s:Shared) (σ:St) (H:Hp) (Q:VK),Inv X pins σ H s→t σ H Q→wpAny (model X.prog X.w) X.A (eval e X.env) (EP X pins σ Q) X.xe s
def PT(X:Cx)(e:Expr)(t:TT):Prop:=
 ∀(pins:List (Addr×Obj)) (s:Shared) (σ:St) (H:Hp) (Q:Bool→Hp→Prop),Inv X pins σ H s→t σ H Q→wpAny (model X.prog X.w) X.A (isTrue e X.env (eval e X.env)) (TP X pins σ Q) X.xe s
def PW(X:Cx)(e:Expr)(t:TT):Prop:=
 ∀(whole:Sem Value) (pins:List (Addr×Obj)) (s:Shared) (σ:St) (H:Hp) (Q:Bool→Hp→Prop),Inv X pins σ H s→t σ H Q→wpAny (model X.prog X.w) X.A (isTrue e X.env whole) (TP X pins σ Q) X.xe s
theorem PW.pt{X:Cx}{e:Expr}{t:TT}(h:PW X e t):PT X e t:=h _
def PA(X:Cx)(es:List Expr)(t:TA):Prop:=
 ∀(pos:Pos) (pins:List (Addr×Obj)) (s:Shared) (σ:St) (H:Hp) (Q:List V→Hp→Prop),Inv X pins σ H s→t σ H Q→wpAny (model X.prog X.w) X.A (spliced (backTo pos (starEach es X.env))) (AP X pins σ Q) X.xe s
def PS(X:Cx)(st:Stmt)(t:TS):Prop:=
 ∀(pins:List (Addr×Obj)) (s:Shared) (σ:St) (H:Hp) (D:Ends),Inv X pins σ H s→t D σ H→wpAny (model X.prog X.w) X.A (exec st X.env) (SP X pins D) X.xe s
def fK(X:Cx)(st:List Stmt)(t:TS):Prop:=
 ∀(pins:List (Addr×Obj)) (s:Shared) (σ:St) (H:Hp) (D:Ends),Inv X pins σ H s→t D σ H→wpAny (model X.prog X.w) X.A (execs st X.env) (SP X pins D) X.xe s
theorem bM{α:Type}{t:Sem α}{Q Q':α→Shared→Prop}{M:Model}{A:Around}{E:Value→Shared→Prop}{s:Shared}(h:wpAny M A t Q E s)(hQ:∀a s,Q a s→Q' a s):wpAny M A t Q' E s:=wpAny_mono h hQ fun _ _ x=>x
end L2
namespace L2
open PySem PySem.Spec PyProof.Rows
section
variable {X:Cx}
def CI(i:Nat):TE:=fun σ H Q=>∃v,σ[i]?=some (some v)∧Q v H
def tC(v:V):TE:=fun _ H Q=>Q v H
theorem C0{i:Nat}{x:Str}{pos:Pos}(hN:X.N[i]?=some x)(hv:sW X.env.scope x)(hd:(x==("__debug__":Str))=false:=by decide)(hcd:(x==("__classdict__":Str))=false:=by decide):PE X (.Name x pos) (CI i):=by
 intro pins s σ H Q I h
 obtain⟨v,e,h⟩:=h
 obtain⟨m,hn,hl⟩:=I.loc
 obtain⟨u,r,l⟩:=hl i x v hN e hv
 have fin:EP X pins σ Q u s:=⟨v,H,I,r,h⟩
 rcases l with⟨hk,hm⟩|⟨hk,c,hc,hcell⟩
 · exact wpAny_Name (wpAny_loadName_local I.ok.kind hk hn hm fin) hd
 · rcases hk with hk|hk
   · exact wpAny_Name (wpAny_loadName_cell I.ok.kind hk hc hcell fin) hd
   · exact wpAny_Name (wpAny_loadName_free I.ok.kind hk hc hcell fin hcd) hd
theorem Di{i j pos}:PE X (.Constant (.int i) j pos) (tC (.int i)):=fun _ _ _ H _ I h=>wpAny_Constant_int ⟨.int i,H,I.tok _,⟨_,rfl⟩,h⟩
theorem EX{b j pos}:PE X (.Constant (.bool b) j pos) (tC (.bl b)):=fun _ _ _ H _ I h=>Constant_bool ⟨.bl b,H,I,rfl,h⟩
def Gl(X:Cx)(x:Str):Prop:=X.env.kindOf x=some .globalImplicit
theorem uX{E:Value→Shared→Prop}{pins:List (Addr×Obj)}{s:Shared}{σ:St}{H:Hp}{x:Str}{u:Value}{pos:Pos}{Q:Value→Shared→Prop}(I:Inv X pins σ H s)(hg:Gl X x)(hm:X.mg x=some u)(h:Q u s)
 (hd:(x==("__debug__":Str))=false:=by decide):wpAny (model X.prog X.w) X.A (eval (.Name x pos) X.env) Q E s:=
 Calls.Name_function_global I.ok.kind hg (Calls.loadGlobal_global (by rw[I.ok.glob];exact I.mod.glob.keeps I.bk) hm h) hd
theorem kU{E:Value→Shared→Prop}{pins:List (Addr×Obj)}{s:Shared}{σ:St}{H:Hp}{x:Str}{u:Value}{pos:Pos}{Q:Value→Shared→Prop}(I:Inv X pins σ H s)(hg:Gl X x)(hm:X.mg x=none)(hv:bootBuiltins x=some u)(h:Q u s)
 (hn:x≠"__name__":=by decide) (hd:(x==("__debug__":Str))=false:=by decide):wpAny (model X.prog X.w) X.A (eval (.Name x pos) X.env) Q E s:=by
 obtain⟨mb,h1,h2⟩:=I.mod.blt
 exact Calls.Name_function_global I.ok.kind hg (Calls.loadGlobal_builtin (by rw[I.ok.glob];exact I.mod.glob.keeps I.bk) hm (by rw[I.ok.blt];exact h1.keeps I.bk) ((h2 x hn).trans hv) h) hd
variable {a b:Expr}{ta tb:TE}{pos:Pos}
def tB(t:TE):TT:=fun σ H Q=>t σ H fun x H1=>∃c,x= .bl c∧Q c H1
theorem CQ{e:Expr}{t:TE}(h:PE X e t)(he:∀whole,isTrue e X.env whole=(do let v ←whole;standAt e.pos;holding [v] (truthy v)):=by intro _;rfl):PT X e (tB t):=by
 intro pins s σ H Q I hw
 refine isTrue_plain (bM (h pins s σ H _ I hw) fun v s1 ⟨x,H1,I1,r1,q1⟩=>?_) (he _)
 obtain⟨d,rfl,q⟩:=q1
 cases r1
 exact wpAny_truthy_bool ⟨H1,I1,q⟩
variable {tA tB':TT}{rest:List Expr}
def BN(t u:TT):TT:=fun σ H Q=>t σ H fun c H1=>if c=true then u σ H1 Q else Q false H1
def FE(t u:TT):TT:=fun σ H Q=>t σ H fun c H1=>if c=true then Q true H1 else u σ H1 Q
def Gq(t:TT):TT:=fun σ H Q=>t σ H fun c H1=>Q (!c) H1
theorem pw_and1(ha:PT X a tA):PW X (.BoolOp .And [a] pos) tA:=by
 intro wh pins s σ H Q I h
 refine isTrue_and (bM (ha pins s σ H Q I h) fun c s1 e=>?_)
 cases c with
 |true=>exact isTrue_and_nil e
 |false=>exact e
theorem pw_or1(ha:PT X a tA):PW X (.BoolOp .Or [a] pos) tA:=by
 intro wh pins s σ H Q I h
 refine isTrue_or (bM (ha pins s σ H Q I h) fun c s1 e=>?_)
 cases c with
 |false=>exact isTrue_or_nil e
 |true=>exact e
theorem pw_and(ha:PT X a tA)(hb:PW X (.BoolOp .And (b::rest) pos) tB'):PW X (.BoolOp .And (a::b::rest) pos) (BN tA tB'):=by
 intro wh pins s σ H Q I h
 refine isTrue_and (bM (ha pins s σ H _ I h) fun c s1 ⟨H1,I1,q1⟩=>?_)
 cases c with
 |true=>exact hb wh pins s1 σ H1 Q I1 q1
 |false=>exact⟨H1,I1,q1⟩
theorem pw_or(ha:PT X a tA)(hb:PW X (.BoolOp .Or (b::rest) pos) tB'):PW X (.BoolOp .Or (a::b::rest) pos) (FE tA tB'):=by
 intro wh pins s σ H Q I h
 refine isTrue_or (bM (ha pins s σ H _ I h) fun c s1 ⟨H1,I1,q1⟩=>?_)
 cases c with
 |true=>exact⟨H1,I1,q1⟩
 |false=>exact hb wh pins s1 σ H1 Q I1 q1
theorem Dt(ha:PT X a tA):PT X (.UnaryOp .Not a pos) (Gq tA):=by
 intro pins s σ H Q I h
 exact isTrue_not (ha pins s σ H (fun c H1=>Q (!c) H1) I h)
def E8(ta tb:TE):TE:=fun σ H Q=>ta σ H fun x H1=>∃c,x= .bl c∧if c=true then tb σ H1 Q else Q (.bl false) H1
theorem Cf{op}{t:TE}(h:PE X a t):PE X (.BoolOp op [a] pos) t:=fun pins s σ H Q I hw=>BoolOp_one (h pins s σ H Q I hw)
theorem BZ(ha:PE X a ta)(hb:PE X (.BoolOp .And (b::rest) pos) tb):PE X (.BoolOp .And (a::b::rest) pos) (E8 ta tb):=by
 intro pins s σ H Q I h
 refine BoolOp_and (bM (ha pins s σ H _ I h) fun v s1 ⟨x,H1,I1,r1,q1⟩=>?_)
 obtain⟨c,rfl,q1⟩:=q1
 cases r1
 refine wpAny_truthy_bool ?_
 cases c with
 |true=>exact hb pins s1 σ H1 Q I1 q1
 |false=>exact⟨.bl false,H1,I1,rfl,q1⟩
def GQ(t:TT)(ta tb:TE):TE:=fun σ H Q=>t σ H fun c H1=>if c=true then ta σ H1 Q else tb σ H1 Q
theorem zz{c:Expr}(hc:PT X c tA)(ha:PE X a ta)(hb:PE X b tb):PE X (.IfExp c a b pos) (GQ tA ta tb):=by
 intro pins s σ H Q I h
 refine wpAny_IfExp (bM (hc pins s σ H _ I h) fun d s1 ⟨H1,I1,q1⟩=>?_)
 cases d with
 |true=>exact ha pins s1 σ H1 Q I1 q1
 |false=>exact hb pins s1 σ H1 Q I1 q1
end
end L2
namespace L2
open PySem PySem.Spec PyProof.Rows
def jf(K:PySem.W.Frag)(H:Hp)(a:Addr)(xs:List V):Prop:=
 Rd H a (.lst xs)∨
  ∃(o:Obj) (its:Array Value) (n:Nat),K.lookup a=some o∧o.cls= .type "list"∧o.dict=none∧o.data= .seq its n∧its.size≤sizeLine∧Vals xs its.toList
def gR(K:PySem.W.Frag)(H:Hp)(a:Addr)(xs:List V):Prop:=
 Rd H a (.tup xs)∨
  ∃(o:Obj) (its:Array Value) (n:Nat),K.lookup a=some o∧o.cls= .type "tuple"∧o.data= .seq its n∧its.size≤sizeLine∧Vals xs its.toList
def FO:Value→Option V
 | .none=>some .aJ
 | .bool b=>some (.bl b)
 | .int i _=>some (.int i)
 | .str x _=>some (.str x)
 | .bytes b _=>some (.oo b)
 | .float b _=>some (.zS b)
 | .ref a=>some (.ref a)
 | .type n=>some (.ty n)
 |_=>none
theorem RelV.abs{x:V}{u:Value}(r:RelV x u):FO u=some x:=by
 cases x with
 |aJ=>cases r;rfl
 |bl _=>cases r;rfl
 |int _=>obtain⟨t,rfl⟩:=r;rfl
 |str _=>obtain⟨t,rfl⟩:=r;rfl
 |oo _=>obtain⟨t,rfl⟩:=r;rfl
 |zS _=>obtain⟨t,rfl⟩:=r;rfl
 |ref _=>cases r;rfl
 |ty _=>cases r;rfl
theorem RelV.inj{x y:V}{u:Value}(r:RelV x u)(q:RelV y u):x=y:=Option.some.inj (r.abs.symm.trans q.abs)
theorem Vals.inj:∀ {xs ys:List V} {us:List Value},Vals xs us→Vals ys us→xs=ys
 |_,_,_,.nil,.nil=>rfl
 |_,_,_,.cons r t,.cons r' t'=>by rw[r.inj r',Vals.inj t t']
section
variable {X:Cx}{pins:List (Addr×Obj)}{σ:St}{H:Hp}{s:Shared}{a:Addr}{xs ys:List V}
theorem jf.of{K:PySem.W.Frag}(h:H a=some (.lst xs)):jf K H a xs:= .inl (.inl h)
theorem gR.of{K:PySem.W.Frag}(h:H a=some (.tup xs)):gR K H a xs:= .inl (.inl h)
theorem Inv.list(I:Inv X pins σ H s)(h:jf X.K H a xs):∃its:List Value,Vals xs its∧PlainL s.heap a its.toArray∧xs.length≤sizeLine:=by
 rcases h with h|⟨o,its,n,hk,hc,hd,hs,hz,r⟩
 · obtain⟨z,its,n,r,e⟩:=h.ok I.aL
   exact⟨its,r,⟨_,n,e,rfl,rfl,rfl⟩,z⟩
 · refine⟨its.toList,r,⟨o,n,I.kj a o hk,hc,hd,by simpa using hs⟩,?_⟩
   have e:=r.length
   simp only[Array.length_toList]at e
   omega
theorem Inv.tuple(I:Inv X pins σ H s)(h:gR X.K H a xs):∃its:List Value,Vals xs its∧IsTup s.heap a its.toArray∧xs.length≤sizeLine:=by
 rcases h with h|⟨o,its,n,hk,hc,hs,hz,r⟩
 · obtain⟨z,its,r,p⟩:=h.ok I.aL
   exact⟨its,r,p,z⟩
 · refine⟨its.toList,r,⟨o,I.kj a o hk,hc,n,by simpa using hs⟩,?_⟩
   have e:=r.length
   simp only[Array.length_toList]at e
   omega
theorem Inv.sT(I:Inv X pins σ H s)(h:jf X.K H a xs)(h':jf X.K H a ys):xs=ys:=by
 obtain⟨its,r,⟨o,n,e,_,_,d⟩,_⟩:=I.list h
 obtain⟨its',r',⟨o',n',e',_,_,d'⟩,_⟩:=I.list h'
 rw[e]at e';cases e'
 rw[d]at d'
 injection d' with d1 _
 have:its=its':=by simpa using congrArg Array.toList d1
 subst this
 exact r.inj r'
theorem Inv.qQ(I:Inv X pins σ H s)(h:gR X.K H a xs)(h':gR X.K H a ys):xs=ys:=by
 obtain⟨its,r,⟨o,e,_,n,d⟩,_⟩:=I.tuple h
 obtain⟨its',r',⟨o',e',_,n',d'⟩,_⟩:=I.tuple h'
 rw[e]at e';cases e'
 rw[d]at d'
 injection d' with d1 _
 have:its=its':=by simpa using congrArg Array.toList d1
 subst this
 exact r.inj r'
end
abbrev Cx.kE(X:Cx)(E:Value→Shared→Prop):Cx:={X with xe:=E}
abbrev Cx.qM(X:Cx):Cx:=X.kE fun _ _=>False
theorem Cx.Ok.kE{X:Cx}(ok:X.Ok)(E:Value→Shared→Prop):(X.kE E).Ok:=
 ⟨ok.mod,ok.kind,ok.glob,ok.blt,ok.above,ok.inj,ok.has,ok.sH,ok.hd,ok.frames,ok.uQ,ok.xn,ok.bs,ok.nh,ok.oZ,ok.oK,ok.iy,ok.pX,ok.gt⟩
theorem Cx.Ok.jd{X:Cx}{E:Value→Shared→Prop}(ok:(X.kE E).Ok):X.Ok:=
 ⟨ok.mod,ok.kind,ok.glob,ok.blt,ok.above,ok.inj,ok.has,ok.sH,ok.hd,ok.frames,ok.uQ,ok.xn,ok.bs,ok.nh,ok.oZ,ok.oK,ok.iy,ok.pX,ok.gt⟩
section
variable {X:Cx}{pins:List (Addr×Obj)}{σ:St}{H:Hp}{s:Shared}{E:Value→Shared→Prop}
theorem Inv.kE(I:Inv X pins σ H s)(E:Value→Shared→Prop):Inv (X.kE E) pins σ H s:=⟨I.ok.kE E,I.os,I.bare,I.base,I.loc,I.cell,I.free,I.gj,I.pin,I.aL,I.len⟩
theorem Inv.jd(I:Inv (X.kE E) pins σ H s):Inv X pins σ H s:=⟨I.ok.jd,I.os,I.bare,I.base,I.loc,I.cell,I.free,I.gj,I.pin,I.aL,I.len⟩
theorem SP.jd{D:Ends}{f:Flow}{s':Shared}(h:SP (X.kE E) pins D f s'):SP X pins D f s':=by
 cases f with
 |next=>obtain⟨σ',H',I,q⟩:=h;exact⟨σ',H',I.jd,q⟩
 |brk=>obtain⟨σ',H',I,q⟩:=h;exact⟨σ',H',I.jd,q⟩
 |cont=>obtain⟨σ',H',I,q⟩:=h;exact⟨σ',H',I.jd,q⟩
 |ret u=>obtain⟨v,σ',H',I,r,q⟩:=h;exact⟨v,σ',H',I.jd,r,q⟩
theorem fK.qM{st:List Stmt}{t:TS}(h:fK X.qM st t):fK X st t:=fun pins s σ H D I hw=>
 wpAny_mono (h pins s σ H D (I.kE _) hw) (fun _ _ q=>q.jd) fun _ _ z=>False.elim z
end
section
variable {X:Cx}{st:Stmt}{rest:List Stmt}{t u:TS}{e:Expr}{te:TE}{pos:Pos}
def Em:TS:=fun D σ H=>D.nx σ H
def Gr(t u:TS):TS:=fun D σ H=>t {D with nx:=u D} σ H
theorem Bd:fK X [] Em:=fun _ _ σ H _ I h=>wpAny_execs_nil ⟨σ,H,I,h⟩
theorem zj(h1:PS X st t)(h2:fK X rest u):fK X (st::rest) (Gr t u):=by
 intro pins s σ H D I h
 refine wpAny_execs_cons (bM (h1 pins s σ H {D with nx:=u D} I h) fun f s1 q=>?_)
 cases f with
 |next=>
  obtain⟨σ',H',I',q⟩:=q
  exact h2 pins s1 σ' H' D I' q
 |ret v=>exact q
 |brk=>exact q
 |cont=>exact q
theorem AD(h1:PS X st t):fK X [st] t:=by
 intro pins s σ H D I h
 refine wpAny_execs_cons (bM (h1 pins s σ H D I h) fun f s1 q=>?_)
 cases f with
 |next=>exact wpAny_execs_nil q
 |ret v=>exact q
 |brk=>exact q
 |cont=>exact q
theorem Inv.quiet{pins:List (Addr×Obj)}{σ:St}{H:Hp}{s:Shared}(I:Inv X pins σ H s):interactive X.env=false:=by simp[interactive,I.ok.kind]
def ED(te:TE):TS:=fun D σ H=>te σ H fun _ H1=>D.nx σ H1
theorem Bv(he:PE X e te)(hs:swapsWith e none pos.line X.env=pure false:=by rfl):PS X (.Expr e pos) (ED te):=by
 intro pins s σ H D I h
 exact wpAny_Expr_any (bM (he pins s σ H _ I h) fun v s1 ⟨x,H1,I1,r1,q1⟩=>⟨σ,H1,I1,q1⟩) I.quiet hs
def FN(te:TE):TS:=fun D σ H=>te σ H D.rt
theorem CC(he:PE X e te):PS X (.Return (some e) pos) (FN te):=by
 intro pins s σ H D I h
 exact wpAny_Return_some (bM (he pins s σ H _ I h) fun v s1 ⟨x,H1,I1,r1,q1⟩=>⟨x,σ,H1,I1,r1,q1⟩)
def Gp(c:TT)(t u:TS):TS:=fun D σ H=>c σ H fun b H1=>if b=true then t D σ H1 else u D σ H1
theorem Ed{c:Expr}{a b:List Stmt}{tc:TT}(hc:PT X c tc)(ha:fK X a t)(hb:fK X b u):PS X (.If c a b pos) (Gp tc t u):=by
 intro pins s σ H D I h
 refine wpAny_If (bM (hc pins s σ H _ I h) fun d s1 ⟨H1,I1,q1⟩=>?_)
 cases d with
 |true=>exact ha pins s1 σ H1 D I1 q1
 |false=>exact hb pins s1 σ H1 D I1 q1
end
abbrev TG:=V→St→Hp→(St→Hp→Prop)→Prop
abbrev sd:=List V→St→Hp→(St→Hp→Prop)→Prop
def PG(X:Cx)(target:Expr)(t:TG):Prop:=
 ∀(pins:List (Addr×Obj)) (s:Shared) (σ:St) (H:Hp) (v:V) (u:Value) (Q:St→Hp→Prop),Inv X pins σ H s→RelV v u→t v σ H Q→
  wpAny (model X.prog X.w) X.A (assign target X.env u) (fun _ s'=>∃σ' H',Inv X pins σ' H' s'∧Q σ' H') X.xe s
def xm(X:Cx)(ts:List Expr)(t:sd):Prop:=
 ∀(pins:List (Addr×Obj)) (s:Shared) (σ:St) (H:Hp) (vs:List V) (us:List Value) (Q:St→Hp→Prop),Inv X pins σ H s→Vals vs us→t vs σ H Q→
  wpAny (model X.prog X.w) X.A (assignInOrder ((assignEach ts X.env).map (·.2)) us) (fun _ s'=>∃σ' H',Inv X pins σ' H' s'∧Q σ' H') X.xe s
abbrev yM:=V→V→V→Hp→(Hp→Prop)→Prop
def Cw(X:Cx)(t:yM):Prop:=
 ∀(pins:List (Addr×Obj)) (s:Shared) (σ:St) (H:Hp) (o i v:V) (ov iv u:Value) (Q:Hp→Prop),Inv X pins σ H s→RelV o ov→RelV i iv→RelV v u→t o i v H Q→
  wpAny (model X.prog X.w) X.A (setItem ov iv u) (fun _ s'=>∃H',Inv X pins σ H' s'∧Q H') X.xe s
abbrev zP:=V→V→Hp→VK→Prop
def Cg(X:Cx)(op:Operator)(t:zP):Prop:=
 ∀(pins:List (Addr×Obj)) (s:Shared) (σ:St) (H:Hp) (x y:V) (v u:Value) (Q:VK),Inv X pins σ H s→RelV x v→RelV y u→t x y H Q→
  wpAny (model X.prog X.w) X.A (inplaceOp op v u) (EP X pins σ Q) X.xe s
section
variable {X:Cx}{pos:Pos}
def i4(i:Nat):TG:=fun v σ H Q=>Q (σ.set i (some v)) H
theorem p7{i:Nat}{x:Str}(hN:X.N.Nodup)(hi:X.N[i]?=some x)(hx:Loc X.env.scope x)(hf:X.fn x=true∨X.env.scope.names.lookup x=some .local:=by first|exact .inl rfl|exact .inr rfl|assumption):PG X (.Name x pos) (i4 i):=by
 intro pins s σ H v u Q I r h
 exact wpAny_assign_Name (oF I hN hi hx r (fun s' I'=>⟨_,H,I',h⟩) hf)
def zu:sd:=fun vs σ H Q=>vs=[]∧Q σ H
def pV(t:TG)(u:sd):sd:=fun vs σ H Q=>∃v r,vs=v::r∧t v σ H fun σ' H'=>u r σ' H' Q
theorem vh:xm X [] zu:=by
 intro pins s σ H vs us Q I r h
 obtain⟨e,h⟩:=h
 subst e
 cases r
 exact assignInOrder_nil ⟨σ,H,I,h⟩
theorem lE{e:Expr}{es:List Expr}{t:TG}{u:sd}(h1:PG X e t)(h2:xm X es u)
 (hs:(assignEach (e::es) X.env).map (·.2)=assign e X.env::(assignEach es X.env).map (·.2):=by rfl):xm X (e::es) (pV t u):=by
 intro pins s σ H vs us Q I r h
 obtain⟨v,vr,e1,h⟩:=h
 subst e1
 cases r with
 |cons r rr=>
  rw[hs]
  refine assignInOrder_cons (bM (h1 pins s σ H _ _ _ I r h) fun _ s1 ⟨σ1,H1,I1,q1⟩=>?_)
  exact h2 pins s1 σ1 H1 _ _ Q I1 rr q1
def Ck(K:PySem.W.Frag)(n:Nat)(t:sd):TG:=fun v σ H Q=>∃a xs,v= .ref a∧gR K H a xs∧xs.length=n∧t xs σ H Q
theorem w6{es:List Expr}{k:Nat}{t:sd}{n:Nat}(hc:X.calm=true)(h:xm X es t)
 (hn:(assignEach es X.env).length=n:=by rfl) (hst:(assignEach es X.env).findIdx? (·.1)=none:=by rfl):PG X (.Tuple es k pos) (Ck X.K n t):=by
 intro pins s σ H v u Q I r hw
 obtain⟨a,xs,e1,hq,hl,hw⟩:=hw
 subst e1
 cases r
 obtain⟨its,rv,ht,hz⟩:=I.tuple hq
 refine assign_Tuple_tuple (I.ok.hd hc) ht (by simp[hn,←hl,rv.length]) hst fun h' hx=>?_
 have I1:Inv X pins σ H {s with heap:=h'}:=I.kept (t':=s.toks) fun b o e=>hx b o (Nat.ne_of_lt (Heap.lt_size e)) e
 exact h pins _ σ H xs _ Q I1 (by simpa using rv) hw
def pZ(to ti:TE)(t:yM):TG:=fun v σ H Q=>to σ H fun o H1=>ti σ H1 fun i H2=>t o i v H2 fun H3=>Q σ H3
theorem pJ{o i:Expr}{to ti:TE}{t:yM}(ho:PE X o to)(hi:PE X i ti)(hs:Cw X t)
 (ha:∀v,assign (.Subscript o i pos) X.env v=(do
   let ov ←holding [v] (eval o X.env)
   let iv ←holding [v,ov] (eval i X.env)
   standAt pos
   holding [v,ov,iv] (setItem ov iv v)
   release [v,ov,iv] []):=by intro _;rfl):PG X (.Subscript o i pos) (pZ to ti t):=by
 intro pins s σ H v u Q I r h
 rw[ha]
 refine wpAny_bind (wpAny_holding (bM (ho pins s σ H _ I h) fun ov s1 ⟨x,H1,I1,r1,q1⟩=>?_))
 refine wpAny_bind (wpAny_holding (bM (hi pins s1 σ H1 _ I1 q1) fun iv s2 ⟨y,H2,I2,r2,q2⟩=>?_))
 refine wpAny_bind (wpAny_standAt (wpAny_bind (wpAny_holding (bM (hs pins s2 σ H2 x y v ov iv u _ I2 r1 r2 r q2) fun _ s3 ⟨H3,I3,q3⟩=>?_))))
 exact wpAny_release ⟨σ,H3,I3,q3⟩
def iR(te:TE)(g:TG):TS:=fun D σ H=>te σ H fun x H1=>g x σ H1 D.nx
theorem pM{tg e:Expr}{te:TE}{g:TG}(he:PE X e te)(hg:PG X tg g)(hs:swapsWithSole [tg] e pos.line X.env=pure false:=by rfl)(hw:swappedStores [tg] e X.env=pure none:=by rfl)
 (h1:(assignEach [tg] X.env).map (·.2)=[assign tg X.env]:=by rfl):PS X (.Assign [tg] e pos) (iR te g):=by
 intro pins s σ H D I h
 refine wpAny_Assign_stores (bM (he pins s σ H _ I h) fun v s1 ⟨x,H1,I1,r1,q1⟩=>?_) hs hw
 rw[h1]
 exact bM (hg pins s1 σ H1 x v _ I1 r1 q1) fun _ s2 q=>q
theorem DP{i:Nat}{x:Str}{e:Expr}{te:TE}{pos':Pos}(hN:X.N.Nodup)(hi:X.N[i]?=some x)(hx:Loc X.env.scope x)(he:PE X e te)(hs:swapsWith e (some (.Name x pos')) pos.line X.env=pure false:=by rfl)(hf:X.fn x=true∨X.env.scope.names.lookup x=some .local:=by first|exact .inl rfl|exact .inr rfl|assumption):
 PS X (.Assign [.Name x pos'] e pos) (iR te (i4 i)):=by
 intro pins s σ H D I h
 refine wpAny_Assign_Name (bM (he pins s σ H _ I h) fun v s1 ⟨y,H1,I1,r1,q1⟩=>?_) hs
 exact oF I1 hN hi hx r1 (fun s2 I2=>⟨_,H1,I2,q1⟩) hf
def DR(i:Nat)(te:TE)(ti:zP):TS:=fun D σ H=>∃x,σ[i]?=some (some x)∧te σ H fun y H1=>ti x y H1 fun z H2=>D.nx (σ.set i (some z)) H2
theorem DQ{i:Nat}{x:Str}{e:Expr}{te:TE}{op:Operator}{ti:zP}{pos':Pos}(hN:X.N.Nodup)(hi:X.N[i]?=some x)(hx:Loc X.env.scope x)(he:PE X e te)(ho:Cg X op ti)(hf:X.fn x=true∨X.env.scope.names.lookup x=some .local:=by first|exact .inl rfl|exact .inr rfl|assumption):
 PS X (.AugAssign (.Name x pos') op e pos) (DR i te ti):=by
 intro pins s σ H D I h
 obtain⟨v,e1,h⟩:=h
 obtain⟨m,hn,hl⟩:=I.loc
 have vis:sW X.env.scope x:=by rcases hx with k|k;exact .inl k;exact .inr (.inl k)
 obtain⟨u,r,l⟩:=hl i x v hi e1 vis
 refine wpAny_AugAssign_Name ?_
 have go:wpAny (model X.prog X.w) X.A (eval e X.env) (fun w s₂=>wpAny (model X.prog X.w) X.A (inplaceOp op u w) (fun r s₃=>wpAny (model X.prog X.w) X.A (storeName X.env x r) (fun _=>SP X pins D .next) X.xe s₃) X.xe s₂) X.xe s:=by
  refine bM (he pins s σ H _ I h) fun w s1 ⟨y,H1,I1,r1,q1⟩=>?_
  refine bM (ho pins s1 σ H1 v y u w _ I1 r r1 q1) fun z s2 ⟨zv,H2,I2,r2,q2⟩=>?_
  exact oF I2 hN hi hx r2 (fun s3 I3=>⟨_,H2,I3,q2⟩) hf
 rcases l with⟨hk,hm⟩|⟨hk,c,hc,hcell⟩
 · exact wpAny_loadName_local I.ok.kind hk hn hm go
 · rcases hk with hk|hk
   · exact wpAny_loadName_cell I.ok.kind hk hc hcell go
   · rcases hx with k|k
     · have:X.env.scope.names.lookup x=some .free:=hk
       rw[k]at this;cases this
     · have:X.env.scope.names.lookup x=some .free:=hk
       rw[k]at this;cases this
def DF(f:Int→Int→Int):zP:=fun x y H Q=>∃i j,x= .int i∧y= .int j∧Q (.int (f i j)) H
theorem Du:Cg X .Add (DF fun i j=>i+j):=by
 intro pins s σ H x y v u Q I r1 r2 h
 obtain⟨i,j,e1,e2,q⟩:=h
 subst e1;subst e2
 obtain⟨t,rfl⟩:=r1
 obtain⟨t',rfl⟩:=r2
 exact iadd_int ⟨.int _,H,I.tok _,⟨_,rfl⟩,q⟩
end
section
variable {X:Cx}{pos:Pos}
def yc(c:TT)(tb:TS):TS:=fun D σ H=>∃W:Nat→St→Hp→Prop,(∃m,W m σ H)∧∀m σ H,W m σ H→
 c σ H fun b H1=>if b=true then∃N:St→Hp→Prop,(∀σ' H',N σ' H'→∃m',m'<m∧W m' σ' H')∧tb {D with nx:=N,ct:=N,bk:=D.nx} σ H1 else D.nx σ H1
theorem yS{c:Expr}{body:List Stmt}{tc:TT}{tb:TS}(hp:PassesOwn (model X.prog X.w) X.A X.env X.xe)(hc:PT X c tc)(hb:fK X body tb):PS X (.While c body [] pos) (yc tc tb):=by
 intro pins s σ H D I h
 obtain⟨W,⟨m0,w0⟩,turn⟩:=h
 refine wpAny_While (codeAny_whileLoop (fun n s'=>∃σ' H',Inv X pins σ' H' s'∧W n σ' H') ?_ m0 ⟨σ,H,I,w0⟩)
 rintro n s1 ⟨σ1,H1,I1,w1⟩
 refine wpAny_passesOwn hp (bM (hc pins s1 σ1 H1 _ I1 (turn n σ1 H1 w1)) fun b s2 ⟨H2,I2,q2⟩=>?_)
 cases b with
 |true=>
  obtain⟨N,hN,q2⟩:=q2
  rw[if_pos rfl]
  refine wpAny_passesOwn hp (bM (hb pins s2 σ1 H2 _ I2 q2) fun f s3 q3=>?_)
  cases f with
  |next=>
   obtain⟨σ3,H3,I3,n3⟩:=q3
   obtain⟨m',hm,w3⟩:=hN σ3 H3 n3
   exact⟨m',hm,σ3,H3,I3,w3⟩
  |cont=>
   obtain⟨σ3,H3,I3,n3⟩:=q3
   obtain⟨m',hm,w3⟩:=hN σ3 H3 n3
   exact⟨m',hm,σ3,H3,I3,w3⟩
  |brk=>exact q3
  |ret v=>exact q3
 |false=>
  rw[if_neg Bool.false_ne_true]
  exact wpAny_execs_nil ⟨σ1,H2,I2,q2⟩
end
structure It where
 go:Nat→Hp→Prop
 mw:Nat→Hp→V→Hp→Prop
 stop:Nat→Hp→Prop
def iQ(X:Cx)(pins:List (Addr×Obj))(H:Hp)(b:Addr):Prop:=
 H b=none∧b≠X.env.locals∧b∉X.fs∧(b∈X.ex∨X.s₀.heap.objs.size≤b)∧(∀x c,X.env.cells.lookup x=some c→c≠b)∧∀p∈X.pn++pins,p.1≠b
theorem Inv.rV{X:Cx}{pins:List (Addr×Obj)}{σ:St}{H H':Hp}{s:Shared}{b:Addr}(I:Inv X pins σ H s)(hb:s.heap.objs.size≤b)(hn:H' b=none):iQ X pins H' b:=by
 refine⟨hn,Nat.ne_of_gt (Nat.lt_of_lt_of_le I.lt hb),I.BO hb,.inr (Nat.le_trans I.sz hb),fun x c e z=>?_,fun p hp z=>?_⟩
 · obtain⟨v,q⟩:=I.cell x c e
   exact absurd (Nat.lt_of_lt_of_le q.lt (by rw[z];exact hb)) (Nat.lt_irrefl _)
 · exact absurd (Nat.lt_of_lt_of_le (Heap.lt_size (I.pin p hp).1) (by rw[z];exact hb)) (Nat.lt_irrefl _)
structure Turn(P:Program)(w:World)(K:PySem.W.Frag)(tg:Expr)(J:It)(fp:List Addr)(it:Addr)(tn:Nat→Heap→Prop):Prop where
 mem:it∈fp
 obj:∀i h,tn i h→∀b∈fp,∃o,h.get? b=some o∧∀v,o.data≠ .cell v
 keep:∀i h h',tn i h→(∀b∈fp,∀o,h.get? b=some o→h'.get? b=some o)→tn i h'
 item:∀(X:Cx),X.prog=P→X.w=w→X.K=K→X.calm=true→∀(i:Nat) (pins:List (Addr×Obj)) (s:Shared) (σ:St) (H:Hp) (E:Value→Shared→Prop),Inv X pins σ H s→(∀b∈fp,iQ X pins H b)→tn i s.heap→J.go i H→
  wpAny (model P w) X.A (pyNext (.ref it)) (fun r s1=>∃u,r=some u∧
   wpAny (model P w) X.A (letOwnedTupleGo tg (.ref it) u) (fun _ s2=>∃x H',Inv X pins σ H' s2∧RelV x u∧J.mw i H x H'∧tn (i+1) s2.heap∧∀b∈fp,H' b=none) E s1) E s
 done:∀(X:Cx),X.prog=P→X.w=w→X.K=K→X.calm=true→∀(i:Nat) (pins:List (Addr×Obj)) (s:Shared) (σ:St) (H:Hp) (E:Value→Shared→Prop),Inv X pins σ H s→(∀b∈fp,iQ X pins H b)→tn i s.heap→J.stop i H→
  wpAny (model P w) X.A (pyNext (.ref it)) (fun r s1=>r=none∧Inv X pins σ H s1) E s
 self:∀(A:Around) (i:Nat) (s:Shared) (Q:Value→Shared→Prop) (E:Value→Shared→Prop),tn i s.heap→Q (.ref it) s→wpAny (model P w) A (pyIter (.ref it)) Q E s
abbrev TI:=St→Hp→(It→Hp→Prop)→Prop
def zE(X:Cx)(pins:List (Addr×Obj))(σ:St)(tg:Expr)(R:It→Hp→Prop)(itv:Value)(s2:Shared):Prop:=
 ∃(it:Addr) (fp:List Addr) (tn:Nat→Heap→Prop) (J:It) (H':Hp),itv= .ref it∧Inv X pins σ H' s2∧Turn X.prog X.w X.K tg J fp it tn∧tn 0 s2.heap∧(∀b∈fp,iQ X pins H' b)∧R J H'
def PI(X:Cx)(tg iter:Expr)(wi:TI):Prop:=
 ∀(pins:List (Addr×Obj)) (s:Shared) (σ:St) (H:Hp) (R:It→Hp→Prop),Inv X pins σ H s→wi σ H R→
  wpAny (model X.prog X.w) X.A (eval iter X.env) (fun v s1=>wpAny (model X.prog X.w) X.A (pyIter v) (zE X pins σ tg R) X.xe s1) X.xe s
theorem vC{M:Model}{A:Around}{E:Value→Shared→Prop}{s:Shared}{tg:Expr}{it:Addr}{u:Value}{o:Obj}{n:String}{vs:Array Value}{Q:Unit→Shared→Prop}(ho:s.heap.get? it=some o)(hc:o.cls= .type n)(hd:o.data= .fields vs)
 (hn: ["enumerate","zip","dict_itemiterator","dict_reverseitemiterator","odict_iterator","itertools.zip_longest","itertools.pairwise"].contains n=false) (hQ:Q () s):wpAny M A (letOwnedTupleGo tg (.ref it) u) Q E s:=by
 unfold letOwnedTupleGo
 cases tg<;>first
  |exact wpAny_pure hQ
  |(cases u<;>first
     |exact wpAny_pure hQ
     |(refine wpAny_bind (wpAny_load ho ?_)
       rw[hc,hd]
       show wpAny M A (if(["enumerate","zip","dict_itemiterator","dict_reverseitemiterator","odict_iterator","itertools.zip_longest","itertools.pairwise"].contains n&&vs[0]?==some (rawInt _))=true then _ else _) Q E s
       rw[if_neg (by intro h;rw[hn,Bool.false_and]at h;cases h)]
       exact wpAny_pure hQ))
def BQ(K:PySem.W.Frag)(a:Addr):It:=
 ⟨fun i H=>∃xs x,jf K H a xs∧xs[i]?=some x,fun i H x H'=>H'=H∧∀xs,jf K H a xs→xs[i]?=some x,fun i H=>∃xs,jf K H a xs∧xs.length≤i⟩
def BW(K:PySem.W.Frag)(a:Addr):It:=
 ⟨fun i H=>∃xs x,gR K H a xs∧xs[i]?=some x,fun i H x H'=>H'=H∧∀xs,gR K H a xs→xs[i]?=some x,fun i H=>∃xs,gR K H a xs∧xs.length≤i⟩
def qD(lo:Int)(n:Nat):It:=⟨fun i _=>i<n,fun i H x H'=>H'=H∧x= .int (lo+i),fun i _=>n≤i⟩
theorem xw{P:Program}{w:World}{K:PySem.W.Frag}{tg:Expr}(a it:Addr):Turn P w K tg (BQ K a) [it] it (fun i h=>h.IsListIter it a i) where
 mem:=by simp
 obj:=fun i h st b hb=>by
  have e:b=it:=by simpa using hb
  subst e
  obtain⟨o,e,c,d⟩:=st
  exact⟨o,e,fun v z=>by rw[d]at z;cases z⟩
 keep:=fun i h h' st k=>st.at fun o e=>k it (by simp) o e
 item:=by
  intro X hP hw hK hc i pins s σ H E I hf st hg
  subst hP hw hK
  obtain⟨xs,x,hq,hx⟩:=hg
  obtain⟨its,rv,p,hz⟩:=I.list hq
  obtain⟨u,hu,ru⟩:=rv.get hx
  obtain⟨f0,f1,f2,f3,f4,f5⟩:=hf it (by simp)
  refine wpAny_pyNext_list_item st p.isList (x:=u) (by simpa using hu) fun h' st' sb=>?_
  have I1:Inv X pins σ H {s with heap:=h'}:=I.turned (t':=s.toks) (fun b o hb e=>(sb.2 b hb).trans e) f0 f1 f3 f4 f5
  obtain⟨o,e,c,d⟩:=id st'
  exact⟨u,rfl,vC (s:={s with heap:=h'}) e c d (by decide) ⟨x,H,I1,ru,⟨rfl,fun ys hy=>by rw[I.sT hy hq];exact hx⟩,st',fun b hb=>(hf b hb).1⟩⟩
 done:=by
  intro X hP hw hK hc i pins s σ H E I hf st hg
  subst hP hw hK
  obtain⟨xs,hq,hx⟩:=hg
  obtain⟨its,rv,p,hz⟩:=I.list hq
  obtain⟨f0,f1,f2,f3,f4,f5⟩:=hf it (by simp)
  have hl:=rv.length
  exact wpAny_pyNext_list_end (I.ok.hd hc) st p.isList (by simp;omega) fun h' eb=>⟨rfl,I.turned (t':=s.toks) (fun b o hb e=>eb b o hb e) f0 f1 f3 f4 f5⟩
 self:=fun _ _ _ _ _ st h=>wpAny_pyIter_listiter st h
theorem vw{P:Program}{w:World}{K:PySem.W.Frag}{tg:Expr}(a it:Addr):Turn P w K tg (BW K a) [it] it (fun i h=>h.IsTupleIter it a i) where
 mem:=by simp
 obj:=fun i h st b hb=>by
  have e:b=it:=by simpa using hb
  subst e
  obtain⟨o,e,c,d⟩:=st
  exact⟨o,e,fun v z=>by rw[d]at z;cases z⟩
 keep:=fun i h h' st k=>st.at fun o e=>k it (by simp) o e
 item:=by
  intro X hP hw hK hc i pins s σ H E I hf st hg
  subst hP hw hK
  obtain⟨xs,x,hq,hx⟩:=hg
  obtain⟨its,rv,p,hz⟩:=I.tuple hq
  obtain⟨u,hu,ru⟩:=rv.get hx
  obtain⟨f0,f1,f2,f3,f4,f5⟩:=hf it (by simp)
  refine wpAny_pyNext_tuple_item st (show s.heap.IsTuple a its.toArray from p) (x:=u) (by simpa using hu) fun h' st' sb=>?_
  have I1:Inv X pins σ H {s with heap:=h'}:=I.turned (t':=s.toks) (fun b o hb e=>(sb.2 b hb).trans e) f0 f1 f3 f4 f5
  obtain⟨o,e,c,d⟩:=id st'
  exact⟨u,rfl,vC (s:={s with heap:=h'}) e c d (by decide) ⟨x,H,I1,ru,⟨rfl,fun ys hy=>by rw[I.qQ hy hq];exact hx⟩,st',fun b hb=>(hf b hb).1⟩⟩
 done:=by
  intro X hP hw hK hc i pins s σ H E I hf st hg
  subst hP hw hK
  obtain⟨xs,hq,hx⟩:=hg
  obtain⟨its,rv,p,hz⟩:=I.tuple hq
  obtain⟨f0,f1,f2,f3,f4,f5⟩:=hf it (by simp)
  have hl:=rv.length
  exact wpAny_pyNext_tuple_end (I.ok.hd hc) st (show s.heap.IsTuple a its.toArray from p) (by simp;omega) fun h' eb=>⟨rfl,I.turned (t':=s.toks) (fun b o hb e=>eb b o hb e) f0 f1 f3 f4 f5⟩
 self:=fun _ _ _ _ _ st h=>wpAny_pyIter_tupleiter st h
theorem wJ{P:Program}{w:World}{K:PySem.W.Frag}{tg:Expr}(it:Addr)(lo:Int)(n:Nat):Turn P w K tg (qD lo n) [it] it (fun i h=>IsRangeIter h it (lo+(i:Nat)*1) ((n:Int)-(i:Nat)) 1) where
 mem:=by simp
 obj:=fun i h st b hb=>by
  have e:b=it:=by simpa using hb
  subst e
  exact⟨_,st,fun v z=>by
   have z':Data.fields _=Data.cell v:=z
   cases z'⟩
 keep:=fun i h h' st k=>k it (by simp) _ st
 item:=by
  intro X hP hw hK hc i pins s σ H E I hf st hg
  subst hP hw hK
  obtain⟨f0,f1,f2,f3,f4,f5⟩:=hf it (by simp)
  have W:=Walks.range (prog:=X.prog) (w:=X.w) (I.ok.hd hc) it lo 1 n
  refine W.item i s _ _ hg st fun v h' tk hv st' kk=>?_
  obtain⟨t,rfl⟩:=hv
  have I1:Inv X pins σ H {s with heap:=h',toks:=tk}:=I.turned (fun b o hb e=>kk b o (by simpa using hb) e) f0 f1 f3 f4 f5
  refine⟨_,rfl,vC (s:={s with heap:=h',toks:=tk}) (n:="range_iterator") st' rfl rfl (by decide) ⟨.int (lo+i),H,I1,⟨t,?_⟩,⟨rfl,rfl⟩,st',fun b hb=>(hf b hb).1⟩⟩
  rw[Int.mul_one]
 done:=by
  intro X hP hw hK hc i pins s σ H E I hf st hg
  subst hP hw hK
  obtain⟨f0,f1,f2,f3,f4,f5⟩:=hf it (by simp)
  exact wpAny_pyNext_range_end (I.ok.hd hc) st (by have:n≤i:=hg;omega) fun h' eb=>⟨rfl,I.turned (t':=s.toks) (fun b o hb e=>eb b o hb e) f0 f1 f3 f4 f5⟩
 self:=fun _ _ _ _ _ st h=>wpAny_pyIter_rangeiter st h
end L2
namespace L2
open PySem PySem.Spec PyProof.Rows
section
variable {X:Cx}{tg:Expr}
theorem sN{pins:List (Addr×Obj)}{σ:St}{H:Hp}{s:Shared}{R:It→Hp→Prop}{E:Value→Shared→Prop}{lo hi:Int}{t u v:Tok}{tk:Nat}(I:Inv X pins σ H s)(h1: -(2^62)≤lo)(h2:lo<2^62)(h3: -(2^62)≤hi)(h4:hi<2^62)
 (q:R (qD lo (hi-lo).toNat) H):wpAny (model X.prog X.w) X.A (pyIter (.ref s.heap.objs.size)) (zE X pins σ tg R) E {s with heap:=s.heap.push {cls:= .type "range",data:= .fields #[.int lo t,.int hi u,.int 1 v]},toks:=tk}:=by
 refine wpAny_pyIter_range (IsRange.new ..) (small_one h1 h2 h3 h4) ?_
 have I1:Inv X pins σ H {s with heap:=s.heap.push {cls:= .type "range",data:= .fields #[.int lo t,.int hi u,.int 1 v]},toks:=tk}:=I.kept fun b o e=>Heap.get?_push_of_some _ e
 refine⟨(s.heap.push {cls:= .type "range",data:= .fields #[.int lo t,.int hi u,.int 1 v]}).objs.size,[(s.heap.push {cls:= .type "range",data:= .fields #[.int lo t,.int hi u,.int 1 v]}).objs.size],_,_,H,rfl,
  I1.kept (t':=tk) fun b o e=>Heap.get?_push_of_some _ e,wJ _ lo (hi-lo).toNat,?_,fun b hb=>?_,q⟩
 · have e1:lo+((0:Nat):Int)*1=lo:=by simp
   have e2:(((hi-lo).toNat:Nat):Int)-((0:Nat):Int)=Builtin.Range.rangeSize lo hi 1:=by rw[rangeSize_one];split<;>omega
   show IsRangeIter _ _ (lo+((0:Nat):Int)*1) ((((hi-lo).toNat:Nat):Int)-((0:Nat):Int)) 1
   rw[e1,e2]
   exact Heap.get?_push_size _ rfl
 · have e:b=(s.heap.push {cls:= .type "range",data:= .fields #[.int lo t,.int hi u,.int 1 v]}).objs.size:=by simpa using hb
   subst e
   exact I1.rV (Nat.le_refl _) (I1.aL.fresh (Nat.le_refl _))
def vX(ta:TA):TI:=fun σ H R=>ta σ H fun vs H1=>∃j:Int,vs=[.int j]∧ -(2^62)≤j∧j<2^62∧R (qD 0 j.toNat) H1
def v9(ta:TA):TI:=fun σ H R=>ta σ H fun vs H1=>∃i j:Int,vs=[.int i,.int j]∧(-(2^62)≤i∧i<2^62∧ -(2^62)≤j∧j<2^62)∧R (qD i (j-i).toNat) H1
theorem xy{a:Expr}{ta:TA}{p pos:Pos}(hg:Gl X "range")(hm:X.mg "range"=none)(ha:PA X [a] ta)(hs:starEach [a] X.env=[(false,eval a X.env)]:=by rfl):PI X tg (.Call (.Name "range" p) [a] [] pos) (vX ta):=by
 intro pins s σ H R I h
 refine Call_ (kU I hg hm boot_range (PyProof.Rows.callWith_type1 (bM (ha pos pins s σ H _ I h) fun us s1 ⟨vs,H1,I1,r1,q1⟩=>?_) hs rfl))
 obtain⟨j,e,q1,q2,q⟩:=q1
 subst e
 cases r1 with
 |cons r rr=>
  cases rr
  obtain⟨t,rfl⟩:=r
  exact call_range_1 (sN I1 (by omega) (by omega) q1 q2 (by simpa using q))
theorem xk{a b:Expr}{ta:TA}{p pos:Pos}(hg:Gl X "range")(hm:X.mg "range"=none)(ha:PA X [a,b] ta)(hs:starEach [a,b] X.env=[(false,eval a X.env),(false,eval b X.env)]:=by rfl)(hs2:starEach [b] X.env=[(false,eval b X.env)]:=by rfl):
 PI X tg (.Call (.Name "range" p) [a,b] [] pos) (v9 ta):=by
 intro pins s σ H R I h
 refine Call_ (kU I hg hm boot_range (PyProof.Rows.callWith_type1 (bM (ha pos pins s σ H _ I h) fun us s1 ⟨vs,H1,I1,r1,q1⟩=>?_) (by rw[hs,hs2]) (by rw[hs2];rfl)))
 obtain⟨i,j,e,⟨q1,q2,q3,q4⟩,q⟩:=q1
 subst e
 cases r1 with
 |cons r rr=>
  cases rr with
  |cons r' rr=>
   cases rr
   obtain⟨t,rfl⟩:=r
   obtain⟨t',rfl⟩:=r'
   exact call_range_2 (sN I1 q1 q2 q3 q4 q)
def Dp(wi:TI)(g:TG)(tb:TS):TS:=fun D σ H=>wi σ H fun J H1=>∃W:Nat→Nat→St→Hp→Prop,(∃m,W 0 m σ H1)∧∀i m σ H,W i m σ H→
 (J.stop i H∧D.nx σ H)∨(J.go i H∧∃N:St→Hp→Prop,(∀σ' H',N σ' H'→∃m',m'<m∧W (i+1) m' σ' H')∧∀x H',J.mw i H x H'→g x σ H' fun σ2 H2=>tb {D with nx:=N,ct:=N,bk:=D.nx} σ2 H2)
def mZ(fp:List Addr)(h:Heap):List (Addr×Obj):=fp.filterMap fun b=>(h.get? b).map fun o=>(b,o)
theorem jD{fp:List Addr}{h:Heap}{b:Addr}{o:Obj}(hb:b∈fp)(e:h.get? b=some o):(b,o)∈mZ fp h:=List.mem_filterMap.mpr ⟨b,hb,by rw[e];rfl⟩
theorem yl{fp:List Addr}{h:Heap}{p:Addr×Obj}(hp:p∈mZ fp h):p.1∈fp∧h.get? p.1=some p.2:=by
 obtain⟨b,hb,e⟩:=List.mem_filterMap.mp hp
 cases q:h.get? b with
 |none=>rw[q]at e;cases e
 |some o=>
  rw[q]at e
  have e':(b,o)=p:=Option.some.inj e
  subst e'
  exact⟨hb,q⟩
theorem Inv.pinned{pins:List (Addr×Obj)}{σ:St}{H:Hp}{s:Shared}{fp:List Addr}(I:Inv X pins σ H s)(hf:∀b∈fp,iQ X pins H b)(ho:∀b∈fp,∃o,s.heap.get? b=some o∧∀v,o.data≠ .cell v):Inv X (pins++mZ fp s.heap) σ H s:=
 I.nJ fun p hp=>(List.mem_append.mp hp).elim (fun z=>I.pin p (List.mem_append_right _ z)) fun z=>by
  obtain⟨hb,e⟩:=yl z
  obtain⟨f0,f1,f2,_⟩:=hf p.1 hb
  obtain⟨o,e',d⟩:=ho p.1 hb
  rw[e]at e';cases e'
  exact⟨e,f0,f1,f2,d⟩
theorem Inv.fQ{pins pl:List (Addr×Obj)}{σ:St}{H:Hp}{s:Shared}(I:Inv X (pins++pl) σ H s):Inv X pins σ H s:=I.nJ fun p hp=>I.pin p (List.mem_append_right _ (List.mem_append_left _ hp))
theorem Cm{iter:Expr}{body:List Stmt}{wi:TI}{g:TG}{tb:TS}{pos:Pos}(hp:PassesOwn (model X.prog X.w) X.A X.env X.xe)(hc:X.calm=true)(hi:PI X tg iter wi)(hg:PG X tg g)(hb:fK X body tb)
 (hs:∀x,foldedSetIterable iter X.env x=pure x:=by intro _;rfl):PS X (.For tg iter body [] pos) (Dp wi g tb):=by
 intro pins s σ H D I h
 refine wpAny_For (bM (hi pins s σ H _ I h) fun v s1 h1=>bM h1 fun itv s2 h2=>?_) hs
 obtain⟨it,fp,tn,J,H2,e,I2,T,st2,f2,W,⟨m0,w0⟩,turn⟩:=h2
 subst e
 have stat:∀ {H':Hp},(∀b∈fp,H' b=none)→∀b∈fp,iQ X pins H' b:=fun hn b hb=>⟨hn b hb,(f2 b hb).2⟩
 refine codeAny_forLoop_any (fun n s'=>∃i σ' H',Inv X pins σ' H' s'∧tn i s'.heap∧(∀b∈fp,H' b=none)∧W i n σ' H') ?_ m0 ⟨0,σ,H2,I2,st2,fun b hb=>(f2 b hb).1,w0⟩
 rintro n s3 ⟨i,σ3,H3,I3,st3,fr3,w3⟩
 rcases turn i n σ3 H3 w3 with⟨stop,qn⟩|⟨go,N,hN,step⟩
 · refine wpAny_passesOwn hp (bM (T.done X rfl rfl rfl hc i pins s3 σ3 H3 X.xe I3 (stat fr3) st3 stop) fun r s4 ⟨hr,I4⟩=>?_)
   subst hr
   exact wpAny_execs_nil ⟨σ3,H3,I4,qn⟩
 · refine wpAny_passesOwn hp (bM (T.item X rfl rfl rfl hc i pins s3 σ3 H3 X.xe I3 (stat fr3) st3 go) fun r s4 ⟨u,hr,h4⟩=>?_)
   subst hr
   refine wpAny_passesOwn hp (bM h4 fun _ s5 ⟨x,H5,I5,r5,y5,st5,fr5⟩=>?_)
   have I5':=I5.pinned (stat fr5) (T.obj _ _ st5)
   refine wpAny_passesOwn hp (bM (hg _ s5 σ3 H5 x u _ I5' r5 (step x H5 y5)) fun _ s6 ⟨σ6,H6,I6,q6⟩=>?_)
   refine wpAny_passesOwn hp (bM (hb _ s6 σ6 H6 _ I6 q6) fun f s7 q7=>?_)
   have again:∀ {σ7:St} {H7:Hp},Inv X (pins++mZ fp s5.heap) σ7 H7 s7→N σ7 H7→∃m,m<n∧∃i σ' H',Inv X pins σ' H' s7∧tn i s7.heap∧(∀b∈fp,H' b=none)∧W i m σ' H':=fun{σ7 H7} I7 n7=>by
    obtain⟨m',hm,w7⟩:=hN σ7 H7 n7
    refine⟨m',hm,i+1,σ7,H7,I7.fQ,T.keep _ _ _ st5 fun b hb o e=>(I7.pin (b,o) (List.mem_append_right _ (List.mem_append_right _ (jD hb e)))).1,fun b hb=>?_,w7⟩
    obtain⟨o,e,d⟩:=T.obj _ _ st5 b hb
    exact(I7.pin (b,o) (List.mem_append_right _ (List.mem_append_right _ (jD hb e)))).2.1
   cases f with
   |next=>obtain⟨σ7,H7,I7,n7⟩:=q7;exact again I7 n7
   |cont=>obtain⟨σ7,H7,I7,n7⟩:=q7;exact again I7 n7
   |brk=>obtain⟨σ7,H7,I7,q7⟩:=q7;exact⟨σ7,H7,I7.fQ,q7⟩
   |ret v=>obtain⟨x7,σ7,H7,I7,r7,q7⟩:=q7;exact⟨x7,σ7,H7,I7.fQ,r7,q7⟩
end
theorem jh{lo:Int}{n:Nat}{g:TG}{tb:TS}{D:Ends}{σ:St}{H:Hp}(Pv:Nat→St→Hp→Prop)(h0:Pv 0 σ H)
 (hs:∀i σ H,i<n→Pv i σ H→g (.int (lo+i)) σ H fun σ2 H2=>tb {D with nx:=Pv (i+1),ct:=Pv (i+1),bk:=D.nx} σ2 H2) (hd:∀σ H,Pv n σ H→D.nx σ H):
 ∃W:Nat→Nat→St→Hp→Prop,(∃m,W 0 m σ H)∧∀i m σ H,W i m σ H→
  ((qD lo n).stop i H∧D.nx σ H)∨((qD lo n).go i H∧∃N:St→Hp→Prop,(∀σ' H',N σ' H'→∃m',m'<m∧W (i+1) m' σ' H')∧∀x H',(qD lo n).mw i H x H'→g x σ H' fun σ2 H2=>tb {D with nx:=N,ct:=N,bk:=D.nx} σ2 H2):=by
 refine⟨fun i m σ H=>m=n-i∧i≤n∧Pv i σ H,⟨n,by simp,Nat.zero_le _,h0⟩,?_⟩
 rintro i m σ H ⟨rfl,hi,p⟩
 by_cases hlt:i<n
 · refine .inr ⟨hlt,Pv (i+1),fun σ' H' p'=>⟨n-(i+1),by omega,rfl,hlt,p'⟩,fun x H' y=>?_⟩
   obtain⟨e,y⟩:=y
   subst e y
   exact hs i σ _ hlt p
 · have e:i=n:=by omega
   subst e
   exact .inl ⟨Nat.le_refl _,hd σ H p⟩
end L2
namespace L2
open PySem PySem.Spec PyProof.Rows
abbrev R2:=V→V→Hp→VK→Prop
def cm(X:Cx)(f:Value→Value→Sem Value)(r:R2):Prop:=
 ∀(pins:List (Addr×Obj)) (s:Shared) (σ:St) (H:Hp) (x y:V) (v u:Value) (Q:VK),Inv X pins σ H s→RelV x v→RelV y u→r x y H Q→
  wpAny (model X.prog X.w) X.A (f v u) (EP X pins σ Q) X.xe s
def u4(X:Cx)(f:Value→Sem Value)(r:V→Hp→VK→Prop):Prop:=
 ∀(pins:List (Addr×Obj)) (s:Shared) (σ:St) (H:Hp) (x:V) (v:Value) (Q:VK),Inv X pins σ H s→RelV x v→r x H Q→
  wpAny (model X.prog X.w) X.A (f v) (EP X pins σ Q) X.xe s
def cH(X:Cx)(f:Value)(r:List V→Hp→VK→Prop):Prop:=
 ∀(pins:List (Addr×Obj)) (s:Shared) (σ:St) (H:Hp) (xs:List V) (us:List Value) (Q:VK),Inv X pins σ H s→Vals xs us→r xs H Q→
  wpAny (model X.prog X.w) X.A (call f us) (EP X pins σ Q) X.xe s
def xj(r:R2)(ta tb:TE):TE:=fun σ H Q=>ta σ H fun x H1=>tb σ H1 fun y H2=>r x y H2 Q
def Fj(r:V→Hp→VK→Prop)(ta:TE):TE:=fun σ H Q=>ta σ H fun x H1=>r x H1 Q
def rI(C:Int→Int→Prop)(g:Int→Int→V):R2:=fun x y H Q=>∃i j,x= .int i∧y= .int j∧C i j∧Q (g i j) H
def tU(g:Int→Int→V):R2:=fun x y H Q=>∃i j,x= .int i∧y= .int j∧Q (g i j) H
def rU(g:Int→V):V→Hp→VK→Prop:=fun x H Q=>∃i,x= .int i∧Q (g i) H
section
variable {X:Cx}{a b c:Expr}{ta tb tc:TE}{pos:Pos}
theorem zf(ha:PE X a ta)(hb:PE X b tb){pins:List (Addr×Obj)}{s:Shared}{σ:St}{H:Hp}{R:V→V→Hp→Prop}(I:Inv X pins σ H s)
 (h:ta σ H fun x H1=>tb σ H1 fun y H2=>R x y H2) {Q:Value→Shared→Prop} {f:Value→Value→Sem Value}
 (hf:∀v u s2 x y H2,Inv X pins σ H2 s2→RelV x v→RelV y u→R x y H2→wpAny (model X.prog X.w) X.A (f v u) Q X.xe s2):
 wpAny (model X.prog X.w) X.A (eval a X.env) (fun v s₁=>wpAny (model X.prog X.w) X.A (eval b X.env) (fun u s₂=>wpAny (model X.prog X.w) X.A (f v u) Q X.xe s₂) X.xe s₁) X.xe s:=by
 refine bM (ha pins s σ H _ I h) fun v s1 ⟨x,H1,I1,r1,q1⟩=>?_
 refine bM (hb pins s1 σ H1 _ I1 q1) fun u s2 ⟨y,H2,I2,r2,q2⟩=>?_
 exact hf v u s2 x y H2 I2 r1 r2 q2
theorem ET{op:Operator}{r:R2}(ho:cm X (binaryOp op) r)(ha:PE X a ta)(hb:PE X b tb):PE X (.BinOp a op b pos) (xj r ta tb):=by
 intro pins s σ H Q I h
 exact wpAny_BinOp (zf ha hb I h fun v u s2 x y H2 I2 rx ry q=>ho pins s2 σ H2 x y v u Q I2 rx ry q)
theorem D_{op:UnaryOp}{r:V→Hp→VK→Prop}(ho:u4 X (unaryOp op) r)(ha:PE X a ta):PE X (.UnaryOp op a pos) (Fj r ta):=by
 intro pins s σ H Q I h
 exact UnaryOp_ (bM (ha pins s σ H _ I h) fun v s1 ⟨x,H1,I1,r1,q1⟩=>ho pins s1 σ H1 x v Q I1 r1 q1)
theorem Ad{f:Value→Value→Sem Value}{C:Int→Int→Prop}{g:Int→Int→Int}
 (rule:∀(i j:Int) (t u:Tok) (s:Shared) (Q:Value→Shared→Prop) (E:Value→Shared→Prop),C i j→Q (.int (g i j) s.toks) {s with toks:=s.toks+1}→wpAny (model X.prog X.w) X.A (f (.int i t) (.int j u)) Q E s):
 cm X f (rI C fun i j=> .int (g i j)):=by
 intro pins s σ H x y v u Q I rx ry h
 obtain⟨i,j,rfl,rfl,hc,q⟩:=h
 obtain⟨t,rfl⟩:=rx
 obtain⟨t',rfl⟩:=ry
 exact rule i j t t' s _ _ hc ⟨.int (g i j),H,I.tok _,⟨_,rfl⟩,q⟩
theorem Cb{f:Value→Value→Sem Value}{g:Int→Int→Int}
 (rule:∀(i j:Int) (t u:Tok) (s:Shared) (Q:Value→Shared→Prop) (E:Value→Shared→Prop),Q (.int (g i j) s.toks) {s with toks:=s.toks+1}→wpAny (model X.prog X.w) X.A (f (.int i t) (.int j u)) Q E s):
 cm X f (tU fun i j=> .int (g i j)):=by
 intro pins s σ H x y v u Q I rx ry h
 obtain⟨i,j,rfl,rfl,q⟩:=h
 obtain⟨t,rfl⟩:=rx
 obtain⟨t',rfl⟩:=ry
 exact rule i j t t' s _ _ ⟨.int (g i j),H,I.tok _,⟨_,rfl⟩,q⟩
theorem Dy{f:Value→Value→Sem Value}{g:Int→Int→Bool}
 (rule:∀(i j:Int) (t u:Tok) (s:Shared) (Q:Value→Shared→Prop) (E:Value→Shared→Prop),Q (.bool (g i j)) s→wpAny (model X.prog X.w) X.A (f (.int i t) (.int j u)) Q E s):
 cm X f (tU fun i j=> .bl (g i j)):=by
 intro pins s σ H x y v u Q I rx ry h
 obtain⟨i,j,rfl,rfl,q⟩:=h
 obtain⟨t,rfl⟩:=rx
 obtain⟨t',rfl⟩:=ry
 exact rule i j t t' s _ _ ⟨.bl (g i j),H,I,rfl,q⟩
def yL(i j:Int):Prop:=0≤j∧j≤1000000∧i.natAbs<2^64
theorem Dr:cm X (binaryOp .Add) (tU fun i j=> .int (i+j)):=Cb fun _ _ _ _ _ _ _ q=>add_int q
theorem Cq:cm X (binaryOp .Sub) (tU fun i j=> .int (i-j)):=Cb fun _ _ _ _ _ _ _ q=>sub_int q
theorem BD:cm X (binaryOp .Mod) (rI (fun _ j=>j≠0) fun i j=> .int (i.fmod j)):=Ad fun _ _ _ _ _ _ _ hc q=>mod_int' hc q
theorem Dn:cm X (binaryOp .Pow) (rI yL fun i j=> .int (i^j.toNat)):=Ad fun _ _ _ _ _ _ _ hc q=>pow_int_small hc.1 hc.2.1 hc.2.2 q
theorem GB{f:Value→Sem Value}{g:Int→Int}
 (rule:∀(i:Int) (t:Tok) (s:Shared) (Q:Value→Shared→Prop) (E:Value→Shared→Prop),Q (.int (g i) s.toks) {s with toks:=s.toks+1}→wpAny (model X.prog X.w) X.A (f (.int i t)) Q E s):
 u4 X f (rU fun i=> .int (g i)):=by
 intro pins s σ H x v Q I rx h
 obtain⟨i,rfl,q⟩:=h
 obtain⟨t,rfl⟩:=rx
 exact rule i t s _ _ ⟨.int (g i),H,I.tok _,⟨_,rfl⟩,q⟩
theorem CK:u4 X (unaryOp .USub) (rU fun i=> .int (-i)):=GB fun _ _ _ _ _ q=>neg_int q
end
def Ga:V→V→Bool
 | .aJ,.aJ=>true| .aJ,.int _=>true| .int _,.aJ=>true| .aJ,.bl _=>true| .bl _,.aJ=>true| .aJ,.str _=>true| .str _,.aJ=>true
 | .int _,.int _=>true| .bl _,.bl _=>true| .str _,.str _=>true| .oo _,.oo _=>true
 | .int _,.str _=>true| .str _,.int _=>true| .bl _,.str _=>true| .str _,.bl _=>true
 |_,_=>false
def GF:R2:=fun x y H Q=>Ga x y=true∧Q (.bl (!decide (x=y))) H
theorem BK{i j:Int}:decide (V.int i=V.int j)=(i==j):=by
 rw[Bool.eq_iff_iff]
 simp
theorem DN{i j:Bool}:decide (V.bl i=V.bl j)=(i==j):=by
 rw[Bool.eq_iff_iff]
 simp
theorem AX{i j:Str}:decide (V.str i=V.str j)=(i==j):=by
 rw[Bool.eq_iff_iff]
 simp
theorem AR{i j:Array UInt8}:decide (V.oo i=V.oo j)=(i.toList==j.toList):=by
 rw[Bool.eq_iff_iff]
 cases i
 cases j
 simp
section
variable {X:Cx}{a b c:Expr}{ta tb tc:TE}{pos:Pos}
theorem eZ{pins:List (Addr×Obj)}{σ:St}{H:Hp}{s:Shared}{Q:VK}{k k':Bool}(I:Inv X pins σ H s)(q:Q (.bl k) H)(e:k=k'):EP X pins σ Q (.bool k') s:=by
 subst e
 exact⟨.bl k,H,I,rfl,q⟩
theorem ER:cm X (compareOp .NotEq) GF:=by
 intro pins s σ H x y v u Q I rx ry h
 obtain⟨hs,q⟩:=h
 cases x with
 |aJ=>
  cases rx
  cases y with
  |aJ=>cases ry;exact PySem.EqNone.ne_none_none (eZ I q (by simp))
  |bl j=>cases ry;exact PySem.EqNone.ne_none_bool (eZ I q (by simp))
  |int j=>obtain⟨t',rfl⟩:=ry;exact PySem.EqNone.ne_none_int (eZ I q (by simp))
  |str j=>obtain⟨t',rfl⟩:=ry;exact PySem.EqNone.ne_none_str (eZ I q (by simp))
  |_=>exact absurd (show false=true from hs) Bool.false_ne_true
 |bl i=>
  cases rx
  cases y with
  |aJ=>cases ry;exact PySem.EqNone.ne_bool_none (eZ I q (by simp))
  |bl j=>cases ry;exact ne_bool (eZ I q (congrArg not DN))
  |str j=>obtain⟨t',rfl⟩:=ry;exact PySem.EqMixed.ne_bool_str (eZ I q (by simp))
  |_=>exact absurd (show false=true from hs) Bool.false_ne_true
 |int i=>
  obtain⟨t,rfl⟩:=rx
  cases y with
  |aJ=>cases ry;exact PySem.EqNone.ne_int_none (eZ I q (by simp))
  |int j=>obtain⟨t',rfl⟩:=ry;exact ne_int (eZ I q (congrArg not BK))
  |str j=>obtain⟨t',rfl⟩:=ry;exact PySem.EqMixed.ne_int_str (eZ I q (by simp))
  |_=>exact absurd (show false=true from hs) Bool.false_ne_true
 |str i=>
  obtain⟨t,rfl⟩:=rx
  cases y with
  |aJ=>cases ry;exact PySem.EqNone.ne_str_none (eZ I q (by simp))
  |bl j=>cases ry;exact PySem.EqMixed.ne_str_bool (eZ I q (by simp))
  |int j=>obtain⟨t',rfl⟩:=ry;exact PySem.EqMixed.ne_str_int (eZ I q (by simp))
  |str j=>obtain⟨t',rfl⟩:=ry;exact ne_str (eZ I q (congrArg not AX))
  |_=>exact absurd (show false=true from hs) Bool.false_ne_true
 |oo i=>
  obtain⟨t,rfl⟩:=rx
  cases y with
  |oo j=>obtain⟨t',rfl⟩:=ry;exact PySem.W.ne_bytes (eZ I q (congrArg not AR))
  |_=>exact absurd (show false=true from hs) Bool.false_ne_true
 |_=>cases y<;>exact absurd (show false=true from hs) Bool.false_ne_true
theorem EW:cm X (compareOp .Lt) (tU fun i j=> .bl (decide (i<j))):=Dy fun _ _ _ _ _ _ _ q=>lt_int q
theorem E2:cm X (compareOp .Gt) (tU fun i j=> .bl (decide (j<i))):=Dy fun _ _ _ _ _ _ _ q=>gt_int q
theorem bB(b:Expr){op:CmpOp}(h:op≠ .In:=by decide)(h2:op≠ .NotIn:=by decide):behindInMarks op b=false:=by
 have e1:(op==CmpOp.In)=false:=by cases op<;>first|rfl|exact absurd rfl h
 have e2:(op==CmpOp.NotIn)=false:=by cases op<;>first|rfl|exact absurd rfl h2
 cases b<;>simp[behindInMarks,e1,e2]
theorem A8{op:CmpOp}{r:R2}(ho:cm X (compareOp op) r)(ha:PE X a ta)(hb:PE X b tb)(hm:behindInMarks op b=false):PE X (.Compare a [op] [b] pos) (xj r ta tb):=by
 intro pins s σ H Q I h
 exact wpAny_Compare1 (zf ha hb I h fun v u s2 x y H2 I2 rx ry q=>ho pins s2 σ H2 x y v u Q I2 rx ry q) hm
def En(t:TE):TT:=fun σ H Q=>t σ H fun x H'=>∃k,x= .bl k∧Q k H'
theorem A9{op:CmpOp}{r:R2}(ho:cm X (compareOp op) r)(ha:PE X a ta)(hb:PE X b tb)(hm:behindInMarks op b=false):PT X (.Compare a [op] [b] pos) (En (xj r ta tb)):=by
 intro pins s σ H Q I h
 refine wpAny_isTrue_Compare1 (bM (ha pins s σ H _ I h) fun v s1 ⟨x,H1,I1,r1,q1⟩=>bM (hb pins s1 σ H1 _ I1 q1) fun u s2 ⟨y,H2,I2,r2,q2⟩=>
  bM (ho pins s2 σ H2 x y v u _ I2 r1 r2 q2) fun c s3 ⟨z,H3,I3,r3,k,e,q3⟩=>?_) hm
 subst e
 cases r3
 exact wpAny_truthy_bool ⟨H3,I3,q3⟩
theorem mP:(sizeLine:Nat)<2^63:=by rw[sizeLine_eq];decide
theorem vW:cm X (binaryOp .Add) (fun x y H Q=>∃i j,x= .str i∧y= .str j∧i.length+j.length≤sizeLine∧Q (.str (i++j)) H):=by
 intro pins s σ H x y v u Q I rx ry h
 obtain⟨i,j,rfl,rfl,hz,q⟩:=h
 obtain⟨t,rfl⟩:=rx
 obtain⟨t',rfl⟩:=ry
 exact add_str (fun t' tk=>⟨.str (i++j),H,I.tok _,⟨_,rfl⟩,q⟩) hz
theorem vals1{x:V}{us:List Value}(r:Vals [x] us):∃u,us=[u]∧RelV x u:=by
 cases r with
 |cons r1 r2=>cases r2;exact⟨_,rfl,r1⟩
theorem vals2{x y:V}{us:List Value}(r:Vals [x,y] us):∃u w',us=[u,w']∧RelV x u∧RelV y w':=by
 cases r with
 |cons r1 r2=>
  cases r2 with
  |cons r3 r4=>cases r4;exact⟨_,_,rfl,r1,r3⟩
theorem yV:cH X (.builtin "abs") (fun xs H Q=>∃i,xs=[.int i]∧Q (.int (if i<0 then-i else i)) H):=by
 intro pins s σ H xs us Q I r h
 obtain⟨i,rfl,q⟩:=h
 obtain⟨u,rfl,t,rfl⟩:=vals1 r
 exact call_abs_int fun u tk=>⟨.int (if i<0 then-i else i),H,I.tok _,⟨_,rfl⟩,q⟩
end
end L2
namespace L2
open PySem PySem.Spec PyProof.Rows
structure oQ(h:Heap)(x dx C:Addr)(mA:Str→Option Value):Prop where
 obj:h.get? x=some (PySem.W.instObj C dx)
 ns:h.Ns1 dx mA
 ne:dx≠x
theorem xD{h:Heap}{dx:Addr}{mA:Str→Option Value}(n:h.Ns1 dx mA):∃od,h.get? dx=some od∧∀name,PySem.W.lookIn name od=some (mA name):=by
 obtain⟨o,es,ep,ho,hd,hk,_,hm⟩:=n
 refine⟨o,ho,fun name=>?_⟩
 have e:=hm name
 unfold nsFind findBy at e
 rw[←Array.find?_toList]at e
 unfold PySem.W.lookIn
 rw[hd]
 dsimp only
 split
 · rename_i y q
   rw[q]at e
   exact congrArg some e
 · rename_i q
   rw[q]at e
   have a:es.toList.any (·.refKey)=false:=by
    rw[List.any_eq_false]
    intro y hy
    obtain⟨z,t,hkey⟩:=hk y (Array.mem_toList_iff.mp hy)
    simp[DictEntry.refKey,hkey]
   have a':¬es.toList.any (·.refKey)=true:=by rw[a];exact Bool.false_ne_true
   rw[if_neg a']
   exact congrArg some e
theorem oQ.look{h:Heap}{x dx C:Addr}{mA:Str→Option Value}(I:oQ h x dx C mA):∃od,PySem.W.InstAt h x (PySem.W.instObj C dx) C (some od)∧∀name,PySem.W.lookIn name od=some (mA name):=
 let⟨od,ho,hl⟩:=xD I.ns
 ⟨od,⟨I.obj,rfl,rfl,ho⟩,hl⟩
section
variable {prog:Program}{w:World}{A:Around}{E:Value→Shared→Prop}{s:Shared}{K:PySem.W.Frag}{x dx C f:Addr}{mA:Str→Option Value}{name:Str}{v:Value}
theorem get_map{expr:Bool}{Q:Value→Shared→Prop}(X:K.In s.heap)(I:oQ s.heap x dx C mA)(hg:PySem.W.plainGet K C name=true)(hh:PySem.W.hasDictIn K C=true)
 (ha:PySem.W.findIn K (.ref C) name=some none) (hv:mA name=some v) (hv':PySem.W.handedIn v=true) (h:Q v {s with toks:=s.toks+1}):
 wpAny (model prog w) A (getAttr (.ref x) name expr) Q E s:=by
 obtain⟨od,J,hl⟩:=I.look
 exact PySem.W.get_value X J (PySem.W.plainGet_of hg).1 (PySem.W.findObj_own hh ha rfl (by rw[hl,hv])) hv' h
theorem yz{pl:Sem Bool}{Q:Value×List Value→Shared→Prop}(X:K.In s.heap)(I:oQ s.heap x dx C mA)(hg:PySem.W.plainGet K C name=true)
 (hf:PySem.W.findIn K (.ref C) name=some (some (.ref f))) (ht:PySem.W.isFn K (.ref f)=true) (hv:mA name=none) (h:Q (.ref f,[.ref x]) s):
 wpAny (model prog w) A (getMethod (.ref x) name pl) Q E s:=by
 obtain⟨od,J,hl⟩:=I.look
 exact PySem.W.method_fn X J (PySem.W.plainGet_of hg).1 (PySem.W.plainGet_of hg).2 hf (beq_iff_eq.mp ht) (by show(PySem.W.lookIn name od).map (·.isSome)=some false;rw[hl,hv];rfl) h
theorem fU{ns:List Str}{Q:Unit→Shared→Prop}(X:K.In s.heap)(I:oQ s.heap x dx C mA)
 (hs:PySem.W.findIn K (.ref C) "__setattr__"=some (some (.builtin "object.__setattr__"))) (hp:PySem.W.plainOver K C=true) (ht:PySem.W.takerIn K C name=some none) (hh:PySem.W.hasDictIn K C=true)
 (hw:PySem.Within mA ns) (hsz:ns.length≤sizeLine)
 (h:∀h',oQ h' x dx C (fun y=>if y=name then some v else mA y)→Heap.SameBut dx s.heap h'→Q () {s with heap:=h',toks:=s.toks+2}):
 wpAny (model prog w) A (setAttr (.ref x) name v) Q E s:=by
 obtain⟨od,J,hl⟩:=I.look
 refine PySem.W.set_plain X J hs (PySem.W.osa_open (s:={s with toks:=s.toks+1}) (r:=none) X J hp ht fun b=>?_)
 obtain⟨cd,hc,hd'⟩:=PySem.W.any_some hh
 have hx:s.heap.get? x=some ⟨.ref C,some dx,.plain,#[]⟩:=I.obj
 refine wpAny_bind (wpAny_pure (wpAny_bind (wpAny_bind (wpAny_loadPart hx (wpAny_bind (PySem.W.Looks.here (s:={s with toks:=s.toks+1}) (PySem.W.looks_clsIn X hc) ?_))))))
 rw[hd']
 refine wpAny_pure (a:=some dx) (wpAny_bind (wpAny_pure (wpAny_bind ?_)))
 refine wpAny_nsSet1 (s:={s with toks:=s.toks+1}) I.ns fun h' hn2 hs2=>?_
 obtain⟨oD,esD,epD,hoD,hdD,hcD⟩:=hn2.count (PySem.Within.cons name v hw)
 refine wpAny_bind (wpAny_lookBehind hoD (by rw[hdD];exact pastItsLine_dict (Nat.le_trans hcD (by rw[List.length_cons];omega))) ?_)
 exact wpAny_pure (h _ ⟨(hs2.2 _ (Ne.symm I.ne)).trans I.obj,hn2,I.ne⟩ hs2)
theorem zh{R:Result→Shared→Prop}{vs:List Value}{kw:List (Str×Value)}(X:K.In s.heap)(hm:PySem.W.makesIn K C=true)
 (hi:PySem.W.findIn K (.ref C) "__init__"=some (some (.ref f))) (hf:PySem.W.typeIn K (.ref f)=some (.type "function"))
 (h:codeAny (model prog w) (A.under (.builtin "type.__call__" ⟨.ref C::vs,kw⟩)) (.call (.ref f) ⟨.ref (s.heap.objs.size+1)::vs,kw⟩) (PySem.W.InitBack (s.heap.objs.size+1) R)
   {s with heap:=(s.heap.push PySem.W.emptyDict).push (PySem.W.instObj C s.heap.objs.size)}):
 codeAny (model prog w) A (.call (.ref C) ⟨vs,kw⟩) R s:=by
 obtain⟨hh,g,d,t,os⟩:=s
 exact PySem.W.make_core (PySem.W.makes_of X hm) (PySem.W.looks_findIn X hi) (fun self=>PySem.W.bind_fn X self hf) (.inl rfl) h
end
def fJ(f:Str)(v:V):List (Str×V)→List (Str×V)
 | []=>[(f,v)]
 |(g,x)::r=>if g=f then(g,v)::r else(g,x)::fJ f v r
theorem oi(f g:Str)(v:V):∀fs:List (Str×V),(fJ f v fs).lookup g=if g=f then some v else fs.lookup g
 | []=>by
   show List.lookup g [(f,v)]=_
   by_cases h:g=f
   · have hb:(g==f)=true:=beq_iff_eq.mpr h
     simp only[List.lookup,hb,if_pos h]
   · have hb:(g==f)=false:=beq_eq_false_iff_ne.mpr h
     simp only[List.lookup,hb,if_neg h]
 |(k,x)::r=>by
  have ih:=oi f g v r
  rw[show fJ f v ((k,x)::r)=(if k=f then(k,v)::r else(k,x)::fJ f v r)from rfl]
  by_cases hk:k=f
  · rw[if_pos hk]
    by_cases h:g=k
    · have hb:(g==k)=true:=beq_iff_eq.mpr h
      simp only[List.lookup,hb,if_pos (h.trans hk)]
    · have hb:(g==k)=false:=beq_eq_false_iff_ne.mpr h
      simp only[List.lookup,hb,if_neg (fun e:g=f=>h (e.trans hk.symm))]
  · rw[if_neg hk]
    by_cases h:g=k
    · have hb:(g==k)=true:=beq_iff_eq.mpr h
      simp only[List.lookup,hb,if_neg (fun e:g=f=>hk (h.symm.trans e))]
    · have hb:(g==k)=false:=beq_eq_false_iff_ne.mpr h
      simp only[List.lookup,hb]
      exact ih
theorem mQ(f:Str)(v:V):∀fs:List (Str×V),f∈(fJ f v fs).map (·.1)∧∀g,g∈fs.map (·.1)→g∈(fJ f v fs).map (·.1)
 | []=>⟨by simp[fJ],fun g h=>by simp at h⟩
 |(k,x)::r=>by
  obtain⟨i1,i2⟩:=mQ f v r
  rw[show fJ f v ((k,x)::r)=(if k=f then(k,v)::r else(k,x)::fJ f v r)from rfl]
  by_cases hk:k=f
  · rw[if_pos hk]
    subst hk
    exact⟨by simp,fun g h=>by simpa using h⟩
  · rw[if_neg hk]
    refine⟨?_,fun g h=>?_⟩
    · rw[List.map_cons]
      exact List.mem_cons_of_mem _ i1
    · rw[List.map_cons]at h⊢
      rcases List.mem_cons.mp h with e|e
      · exact List.mem_cons.mpr (.inl e)
      · exact List.mem_cons_of_mem _ (i2 g e)
theorem oz(f:Str)(v:V):∀fs:List (Str×V),(fJ f v fs).length≤fs.length+1
 | []=>by simp[fJ]
 |(k,x)::r=>by
  have ih:=oz f v r
  rw[show fJ f v ((k,x)::r)=(if k=f then(k,v)::r else(k,x)::fJ f v r)from rfl]
  by_cases hk:k=f
  · rw[if_pos hk,List.length_cons,List.length_cons];omega
  · rw[if_neg hk,List.length_cons,List.length_cons];omega
theorem kH.some_of{v:V}{o:Option Value}(r:kH (some v) o):∃u,o=some u∧RelV v u:=by
 cases o with
 |none=>exact(show False from r).elim
 |some u=>exact⟨u,rfl,r⟩
theorem kH.none_of{o:Option Value}(r:kH none o):o=none:=by
 cases o with
 |none=>rfl
 |some u=>exact(show False from r).elim
theorem xZ{v:V}{u:Value}(r:RelV v u):PySem.W.handedIn u=true:=by
 cases v with
 |aJ=>cases (show u=Value.none from r);rfl
 |bl b=>cases (show u=Value.bool b from r);rfl
 |int i=>obtain⟨t,e⟩:=(show∃t,u=Value.int i t from r);cases e;rfl
 |str x=>obtain⟨t,e⟩:=(show∃t,u=Value.str x t from r);cases e;rfl
 |oo b=>obtain⟨t,e⟩:=(show∃t,u=Value.bytes b t from r);cases e;rfl
 |zS b=>obtain⟨t,e⟩:=(show∃t,u=Value.float b t from r);cases e;rfl
 |ref a=>cases (show u=Value.ref a from r);rfl
 |ty n=>cases (show u=Value.type n from r);rfl
section
variable {P:Program}{w:World}{H H':Hp}{h h':Heap}{a C dx:Addr}{fs fs':List (Str×V)}
theorem iS(aL:fT P w H h)(e:H a=some (.ins C dx fs)):∃mA,oQ h a dx C mA∧(∀f,kH (fs.lookup f) (mA f))∧PySem.Within mA (fs.map (·.1))∧fs.length≤1000∧H dx=some (.own a):=by
 obtain⟨d,z,ne,ob,mA,n,r,q⟩:=(show ft P w H h a (.ins C dx fs)from aL a _ e)
 exact⟨mA,⟨ob,n,ne⟩,r,q,z,d⟩
end
structure kr(K:PySem.W.Frag)(C:Addr):Prop where
 pg:PySem.W.plainGet K C Str.empty=true
 hd:PySem.W.hasDictIn K C=true
 po:PySem.W.plainOver K C=true
 sa:PySem.W.findIn K (.ref C) "__setattr__"=some (some (.builtin "object.__setattr__"))
theorem kr.get{K:PySem.W.Frag}{C:Addr}(c:kr K C)(f:Str):PySem.W.plainGet K C f=true:=c.pg
def fF(K:PySem.W.Frag)(C:Addr)(f:Str):Prop:=PySem.W.findIn K (.ref C) f=some none
theorem fF.Fc{K:PySem.W.Frag}{C:Addr}{f:Str}(n:fF K C f):PySem.W.takerIn K C f=some none:=by
 unfold PySem.W.takerIn
 rw[show PySem.W.findIn K (.ref C) f=some none from n]
 rfl
structure Meth(K:PySem.W.Frag)(C:Addr)(m:Str)(f:Addr):Prop where
 at_:PySem.W.findIn K (.ref C) m=some (some (.ref f))
 fn:PySem.W.isFn K (.ref f)=true
 kp:PySem.W.keepIn K (.ref f)=true
section
variable {X:Cx}{pins:List (Addr×Obj)}{σ:St}{H:Hp}{s:Shared}{a C dx:Addr}{fs:List (Str×V)}{f:Str}{v:V}{A:Around}{E:Value→Shared→Prop}
theorem wq{b:Bool}{Q:Value→Shared→Prop}(I:Inv X pins σ H s)(e:H a=some (.ins C dx fs))(c:kr X.K C)(n:fF X.K C f)(l:fs.lookup f=some v)
 (h:∀u s',Inv X pins σ H s'→RelV v u→Q u s'):wpAny (model X.prog X.w) A (getAttr (.ref a) f b) Q E s:=by
 obtain⟨mA,O,r,_,_,_⟩:=iS I.aL e
 obtain⟨u,hu,ru⟩:=kH.some_of (v:=v) (o:=mA f) (by rw[←l];exact r f)
 exact get_map I.kj O (c.get f) c.hd n hu (xZ ru) (h u _ (I.tok _) ru)
theorem vJ{m:Str}{g:Addr}{pl:Sem Bool}{Q:Value×List Value→Shared→Prop}(I:Inv X pins σ H s)(e:H a=some (.ins C dx fs))(c:kr X.K C)(k:Meth X.K C m g)(l:fs.lookup m=none)
 (h:Q (.ref g,[.ref a]) s):wpAny (model X.prog X.w) A (getMethod (.ref a) m pl) Q E s:=by
 obtain⟨mA,O,r,_,_,_⟩:=iS I.aL e
 have hn:mA m=none:=kH.none_of (by rw[←l];exact r m)
 exact yz I.kj O (c.get m) k.at_ k.fn hn h
theorem vY{y:V}{u:Value}{Q:Unit→Shared→Prop}(I:Inv X pins σ H s)(e:H a=some (.ins C dx fs))(c:kr X.K C)(n:fF X.K C f)(hl:fs.length<1000)(ry:RelV y u)
 (h:∀s',Inv X pins σ (upd H a (.ins C dx (fJ f y fs))) s'→Q () s'):wpAny (model X.prog X.w) A (setAttr (.ref a) f u) Q E s:=by
 obtain⟨mA,O,r,wi,_,ho⟩:=iS I.aL e
 have hz:(fs.map (·.1)).length≤sizeLine:=by rw[List.length_map,sizeLine_eq];omega
 refine fU I.kj O c.sa c.po n.Fc c.hd wi hz fun h' O' sb=>h _ ?_
 have hd:∃o,h'.get? dx=some o:=let⟨o,_,_,e',_⟩:=O'.ns;⟨o,e'⟩
 refine I.write (x:=a) (e:=dx) (by rw[e];exact True.intro) (.inr ho) (fun b q hb z=>(sb.2 b hb).trans z) hd ?_
 refine⟨by rw[aD O.ne];exact ho,?_,O.ne,O'.obj,_,O'.ns,fun g=>?_,fun g hg=>?_⟩
 · have:=oz f y fs;omega
 · show kH ((fJ f y fs).lookup g) (if g=f then some u else mA g)
   rw[oi]
   by_cases q:g=f
   · rw[if_pos q,if_pos q];exact ry
   · rw[if_neg q,if_neg q];exact r g
 · by_cases q:g=f
   · rw[q];exact(mQ f y fs).1
   · refine(mQ f y fs).2 g (wi g fun z=>hg ?_)
     show(if g=f then some u else mA g)=none
     rw[if_neg q];exact z
theorem Inv.made(I:Inv X pins σ H s):Inv X pins σ (upd (upd H s.heap.objs.size (.own (s.heap.objs.size+1))) (s.heap.objs.size+1) (.ins C s.heap.objs.size []))
 {s with heap:=(s.heap.push PySem.W.emptyDict).push (PySem.W.instObj C s.heap.objs.size)}:=by
 have e1:(s.heap.push PySem.W.emptyDict).get? s.heap.objs.size=some PySem.W.emptyDict:=Heap.get?_push_size s.heap rfl
 have e2:((s.heap.push PySem.W.emptyDict).push (PySem.W.instObj C s.heap.objs.size)).get? (s.heap.objs.size+1)=some (PySem.W.instObj C s.heap.objs.size):=by
  have:=Heap.get?_push_size (s.heap.push PySem.W.emptyDict) (o:=PySem.W.instObj C s.heap.objs.size) rfl
  rwa [Heap.size_push]at this
 have e3:(s.heap.push PySem.W.emptyDict).Ns s.heap.objs.size (fun _=>none):=⟨PySem.W.emptyDict,#[],_,e1,rfl,(fun e he=>absurd he (by simp)),fun _=>rfl⟩
 have I1:=I.laid (a:=s.heap.objs.size) (o:= .own (s.heap.objs.size+1)) (h':=s.heap.push PySem.W.emptyDict) (t':=s.toks) (fun b u q=>Heap.get?_push_of_some _ q) (Nat.le_refl _) ⟨_,e1⟩
 refine I1.laid (a:=s.heap.objs.size+1) (o:= .ins C s.heap.objs.size []) (t':=s.toks) (fun b u q=>Heap.get?_push_of_some _ q) (Nat.le_of_eq (Heap.size_push _ _)) ?_
 have ne:s.heap.objs.size≠s.heap.objs.size+1:=Nat.ne_of_lt (Nat.lt_succ_self _)
 refine⟨by rw[aD ne,aO],Nat.zero_le _,ne,e2,fun _=>none,(Heap.Ns1.of_empty e3).at fun o q=>Heap.get?_push_of_some _ q,fun _=>True.intro,fun y hy=>absurd rfl hy⟩
theorem A6{prog:Program}{w:World}{env:Env}{e:Expr}{f:Str}{pos:Pos}{s:Shared}{Q:Value→Shared→Prop}(hb:attributeBase e f env (eval e env)=eval e env)
 (h:wpAny (model prog w) A (eval e env) (fun o s₁=>wpAny (model prog w) A (getAttr o f true) Q E s₁) E s):wpAny (model prog w) A (eval (.Attribute e f pos) env) Q E s:=
 Attribute_any_ h (by rw[arm_eval_Attribute,hb])
end
def FL(K:PySem.W.Frag)(ta:TE)(f:Str):TE:=fun σ H Q=>ta σ H fun x H1=>∃a C dx fs v,x= .ref a∧H1 a=some (.ins C dx fs)∧kr K C∧fF K C f∧fs.lookup f=some v∧Q v H1
def FQ(K:PySem.W.Frag)(ta tv:TE)(f:Str):TS:=fun D σ H=>tv σ H fun y H1=>ta σ H1 fun x H2=>∃a C dx fs,x= .ref a∧H2 a=some (.ins C dx fs)∧kr K C∧fF K C f∧fs.length<1000∧
 D.nx σ (upd H2 a (.ins C dx (fJ f y fs)))
section
variable {X:Cx}{o e value:Expr}{f:Str}{pos pos' tpos:Pos}{ta tv:TE}
theorem DU(he:PE X e ta)(hb:attributeBase e f X.env (eval e X.env)=eval e X.env):PE X (.Attribute e f pos) (FL X.K ta f):=by
 intro pins s σ H Q I h
 refine A6 hb (bM (he pins s σ H _ I h) fun u s1 ⟨x,H1,I1,rx,a,C,dx,fs,v,ex,ea,c,n,l,q⟩=>?_)
 subst ex
 obtain rfl:u=Value.ref a:=rx
 exact wq I1 ea c n l fun u' s2 I2 ru=>⟨v,H1,I2,ru,q⟩
theorem Dq(ha:PE X o ta)(hv:PE X value tv)(hs:swapsWith value (some (.Attribute o f pos')) pos.line X.env=pure false):PS X (.Assign [.Attribute o f pos'] value pos) (FQ X.K ta tv f):=by
 intro pins s σ H D I h
 refine plainObj_wpAny_Assign_Attribute (bM (hv pins s σ H _ I h) fun u s1 ⟨y,H1,I1,ry,q⟩=>bM (ha pins s1 σ H1 _ I1 q) fun ov s2 ⟨x,H2,I2,rx,a,C,dx,fs,ex,ea,c,n,l,q2⟩=>?_) hs
 subst ex
 obtain rfl:ov=Value.ref a:=rx
 exact vY I2 ea c n l ry fun s3 I3=>⟨σ,_,I3,q2⟩
end
section
variable {X:Cx}{pins:List (Addr×Obj)}{σ:St}{H:Hp}{s:Shared}{A:Around}{E:Value→Shared→Prop}{Q:Value→Shared→Prop}{c:Value}{b:Bool}
end
end L2
namespace L2
open PySem PySem.Spec PyProof.Rows
structure cC(k:Nat)(A:Around):Prop where
 hd:A.handled=none
 dp:A.depth+3*k+105<recursionLimit
 un:A.units+16*k+200<cLine
theorem cC.mono{j k:Nat}{A:Around}(r:cC k A)(h:j≤k):cC j A:=⟨r.hd,by have:=r.dp;omega,by have:=r.un;omega⟩
theorem cC.deeper{k:Nat}{A:Around}(r:cC (k+1) A)(env:Env):cC k (A.deeper env):=
 ⟨r.hd,by have:=r.dp;show A.depth+1+3*k+105<_;omega,by have:=r.un;show A.units+3+16*k+200<_;omega⟩
theorem vH{A:Around}{C:Addr}{us:List Value}{kw:List (Str×Value)}:(A.under (.builtin "type.__call__" ⟨.ref C::us,kw⟩)).depth=A.depth+1:=by
 first|rfl|simp[Around.under,Code.weight,Code.isCreation,Code.isGuard,Code.isCaller,Code.frames,Code.isFrame,guardIds]
theorem v8{A:Around}{C:Addr}{us:List Value}{kw:List (Str×Value)}:(A.under (.builtin "type.__call__" ⟨.ref C::us,kw⟩)).units=A.units+1:=by
 first|rfl|simp[Around.under,Code.cUnits,Code.frames,Code.isFrame]
theorem cC.make{k:Nat}{A:Around}(r:cC (k+1) A)(C:Addr)(us:List Value)(kw:List (Str×Value)):cC k (A.under (.builtin "type.__call__" ⟨.ref C::us,kw⟩)):=
 ⟨r.hd,by have:=r.dp;rw[vH];omega,by have:=r.un;rw[v8];omega⟩
theorem cC.depth{k:Nat}{A:Around}(r:cC k A):A.depth<recursionLimit:=by have:=r.dp;omega
theorem cC.units{k:Nat}{A:Around}(r:cC k A):A.units+64<cLine:=by have:=r.un;omega
def FW:TA:=fun _ H Q=>Q [] H
def E9(ta:TE)(tr:TA):TA:=fun σ H Q=>ta σ H fun x H1=>tr σ H1 fun xs H2=>Q (x::xs) H2
section
variable {X:Cx}{e:Expr}{es:List Expr}{te:TE}{t:TA}{pos:Pos}
theorem DC:PA X [] FW:=fun _ _ _ _ H Q I h=>Calls.spliced_nil ⟨[],H,I,.nil,h⟩
theorem AL(ha:PE X e te)(hr:PA X es t)(hs:starEach (e::es) X.env=(false,eval e X.env)::starEach es X.env:=by rfl):PA X (e::es) (E9 te t):=by
 intro pos pins s σ H Q I h
 rw[hs]
 show wpAny _ _ (spliced ((false,eval e X.env)::backTo pos (starEach es X.env))) _ _ s
 refine Calls.spliced_cons (bM (ha pins s σ H _ I h) fun u s1 ⟨x,H1,I1,r1,q1⟩=>?_)
 exact bM (hr pos pins s1 σ H1 _ I1 q1) fun us s2 ⟨xs,H2,I2,r2,q2⟩=>⟨x::xs,H2,I2,.cons r1 r2,q2⟩
def FJ(t:TA):TE:=fun σ H Q=>t σ H fun xs H1=>xs.length≤sizeLine∧∀p,H1 p=none→Q (.ref p) (upd H1 p (.tup xs))
def Gj(t:TA):TE:=fun σ H Q=>t σ H fun xs H1=>xs.length≤sizeLine∧∀p,H1 p=none→Q (.ref p) (upd H1 p (.lst xs))
theorem BR{x1}(h:PA X es t):PE X (.Tuple es x1 pos) (FJ t):=by
 intro pins s σ H Q I hq
 refine wpAny_Tuple_spliced (bM (h pos pins s σ H _ I hq) fun us s1 ⟨xs,H1,I1,r,z,q⟩=>⟨by rw[←r.length];exact z,?_⟩)
 have hf:H1 s1.heap.objs.size=none:=I1.aL.fresh (Nat.le_refl _)
 refine⟨.ref s1.heap.objs.size,upd H1 s1.heap.objs.size (.tup xs),I1.laid (t':=s1.toks) (fun b u e=>Heap.get?_push_of_some _ e) (Nat.le_refl _) ?_,rfl,q _ hf⟩
 exact⟨z,us,r,⟨_,Heap.get?_push_size _ rfl,rfl,_,rfl⟩⟩
theorem xq(h:PA X es t):PE X (.List es pos) (Gj t):=by
 intro pins s σ H Q I hq
 refine wpAny_List_spliced (bM (h pos pins s σ H _ I hq) fun us s1 ⟨xs,H1,I1,r,z,q⟩=>⟨by rw[←r.length];exact z,?_⟩)
 have hf:H1 s1.heap.objs.size=none:=I1.aL.fresh (Nat.le_refl _)
 refine⟨.ref s1.heap.objs.size,upd H1 s1.heap.objs.size (.lst xs),I1.laid (t':=s1.toks) (fun b u e=>Heap.get?_push_of_some _ e) (Nat.le_refl _) ?_,rfl,q _ hf⟩
 exact⟨z,us,0,r,Heap.get?_push_size _ rfl⟩
end
abbrev Sp:=List V→Hp→VK→XK→Prop
abbrev oa:=List Env→Hp→Shared→XK→Value→Shared→Prop
structure oP(P:Program)(w:World)(K:PySem.W.Frag)(mg:Str→Option Value)(base:Heap)(A:Around)(outer:List Env)(s:Shared)(H:Hp):Prop where
 frames:A.frames=some outer
 mod:Mod K mg base
 bs:∀b o,base.get? b=some o→s.heap.get? b=some o∧H b=none
 nh:base.objs.size≤s.heap.objs.size
 iy:s.heap.FunFrames base outer
 pX:∀b∈lh outer,H b=none
 aL:fT P w H s.heap
 bare:AllBare s.gens
 gt:P.given.tree=none
def CE(outer:List Env)(P:Program)(w:World)(H:Hp)(s:Shared)(Q:VK)(u:Value)(s':Shared):Prop:=
 ∃v H',s'.os=s.os∧AllBare s'.gens∧Un (lh outer) [] H H' s.heap s'.heap∧fT P w H' s'.heap∧RelV v u∧Q v H'
def CR(CX:oa)(outer:List Env)(P:Program)(w:World)(H:Hp)(s:Shared)(Q:VK)(E:XK)(r:Result)(s':Shared):Prop:=
 match r with
 | .ok (.ret u)=>CE outer P w H s Q u s'
 | .ok _=>False
 | .error e=>CX outer H s E e s'
structure aB(P:Program)(w:World)(K:PySem.W.Frag)(mg:Str→Option Value)(base:Heap)(CX:oa)(k:Nat)(f:Addr)(fd:FuncData)(ps:List Str)(sp:Sp):Prop where
 len:∀vs H Q E,sp vs H Q E→vs.length=ps.length
 run:∀(A:Around) (outer:List Env) (s:Shared) (H:Hp) (args:Args) (us:List Value) (vs:List V) (Q:VK) (E:XK),cC k A→oP P w K mg base A outer s H→BindsTo s fd args (ps.zip us)→Vals vs us→sp vs H Q E→
  codeAny (model P w) A (.call (.ref f) args) (CR CX outer P w H s Q E) s
theorem aB.imp{P:Program}{w:World}{K:PySem.W.Frag}{mg:Str→Option Value}{base:Heap}{CX:oa}{k:Nat}{f:Addr}{fd:FuncData}{ps:List Str}{sp sp':Sp}(F:aB P w K mg base CX k f fd ps sp)
 (h:∀vs H Q E,sp' vs H Q E→sp vs H Q E):aB P w K mg base CX k f fd ps sp':=
 ⟨fun vs H Q E q=>F.len vs H Q E (h _ _ _ _ q),fun A outer s H args us vs Q E hr he hb hv hs=>F.run A outer s H args us vs Q E hr he hb hv (h _ _ _ _ hs)⟩
theorem oP.make{P:Program}{w:World}{K:PySem.W.Frag}{mg:Str→Option Value}{base:Heap}{A:Around}{outer:List Env}{s:Shared}{H:Hp}(e:oP P w K mg base A outer s H)(C:Addr)(us:List Value)(kw:List (Str×Value)):
 oP P w K mg base (A.under (.builtin "type.__call__" ⟨.ref C::us,kw⟩)) outer s H:=⟨by first|exact e.frames|(simpa[Around.under,Code.envs,Code.isFrame,pushEnvs]using e.frames),e.mod,e.bs,e.nh,e.iy,e.pX,e.aL,e.bare,e.gt⟩
section
variable {X:Cx}{pins:List (Addr×Obj)}{σ:St}{H:Hp}{s s':Shared}
theorem Inv.CM(I:Inv X pins σ H s):oP X.prog X.w X.K X.mg X.base X.A X.stack s H:=
 ⟨I.ok.frames,I.ok.mod,I.bs,Nat.le_trans I.ok.nh I.sz,I.stack,I.p_,I.aL,I.bare,I.ok.gt⟩
theorem Inv.after{Q:VK}{u:Value}(I:Inv X pins σ H s)(h:CE X.stack X.prog X.w H s Q u s'):EP X pins σ Q u s':=by
 obtain⟨v,H',os,bare,un,aL,r,q⟩:=h
 obtain⟨hh,g,d,t,os'⟩:=s'
 obtain rfl:os'=s.os:=os
 exact⟨v,H',I.call (h':=hh) (g':=g) (d':=d) (t':=t) (ch:=[]) un aL bare (fun b z=>absurd z (by simp)),r,q⟩
end
def Aj(sp:Sp)(dvs:List V)(E:XK)(t:TA):TE:=fun σ H Q=>t σ H fun vs H1=>sp (vs++dvs) H1 Q E
def Ak(C:Addr)(m:Str)(sp:Sp)(dvs:List V)(E:XK)(ta:TE)(t:TA):TE:=fun σ H Q=>ta σ H fun x H1=>∃a dx fs,x= .ref a∧H1 a=some (.ins C dx fs)∧fs.lookup m=none∧
 t σ H1 fun vs H2=>sp (x::(vs++dvs)) H2 Q E
def zX(C:Addr)(sp:Sp)(dvs:List V)(E:XK)(t:TA):TE:=fun σ H Q=>t σ H fun vs H1=>∀x dx,H1 x=none→H1 dx=none→dx≠x→
 sp (.ref x::(vs++dvs)) (upd (upd H1 dx (.own x)) x (.ins C dx [])) (fun v H2=>v= .aJ∧Q (.ref x) H2) E
def Binds(K:PySem.W.Frag)(fd:FuncData)(ps:List Str)(ds:List Value):Prop:=
 ∀(s:Shared) (us:List Value),K.In s.heap→(us++ds).length=ps.length→BindsTo s fd ⟨us,[]⟩ (ps.zip (us++ds))
theorem Binds.all{K:PySem.W.Frag}{fd:FuncData}{ps:List Str}(h:∀us:List Value,us.length=ps.length→bindArgs fd ⟨us,[]⟩=pure (ps.zip us)):Binds K fd ps []:=fun s us _ hl=>by
 rw[List.append_nil]at hl⊢
 exact .of_eq (h us hl)
def Passes(CX:oa)(X:Cx)(E:XK):Prop:=∀(pins:List (Addr×Obj)) (σ:St) (H:Hp) (s:Shared) (e:Value) (s':Shared),Inv X pins σ H s→CX X.stack H s E e s'→X.xe e s'
section
variable {X:Cx}{CX:oa}{k:Nat}{f C:Addr}{fd:FuncData}{ps:List Str}{sp:Sp}{dvs:List V}{ds:List Value}{E:XK}{x m:Str}{p pos apos:Pos}{e o:Expr}{es:List Expr}{ta:TE}{t:TA}
theorem xf{pins:List (Addr×Obj)}{σ:St}{H:Hp}{s:Shared}{Q:VK}{us:List Value}{vs:List V}(F:aB X.prog X.w X.K X.mg X.base CX k f fd ps sp)(hr:cC k X.A)(hb:Binds X.K fd ps ds)(hd:Vals dvs ds)(hx:Passes CX X E)
 (I:Inv X pins σ H s) (r:Vals vs us) (h:sp (vs++dvs) H Q E):wpAny (model X.prog X.w) X.A (call (.ref f) us) (EP X pins σ Q) X.xe s:=by
 have r2:Vals (vs++dvs) (us++ds):=r.append hd
 have hl:(us++ds).length=ps.length:=by rw[←r2.length];exact F.len _ _ _ _ h
 refine wpAny_call (codeAny_mono (F.run X.A X.stack s H ⟨us,[]⟩ (us++ds) (vs++dvs) Q E hr I.CM (hb s us I.kj hl) r2 h) fun r s' hq=>?_)
 cases r with
 |error e=>exact hx pins σ H s e s' I hq
 |ok fl=>
  cases fl with
  |ret u=>exact I.after hq
  |next=>exact False.elim hq
  |brk=>exact False.elim hq
  |cont=>exact False.elim hq
theorem Bz(F:aB X.prog X.w X.K X.mg X.base CX k f fd ps sp)(hr:cC k X.A)(hg:Gl X x)(hm:X.mg x=some (.ref f))(hk:PySem.W.keepIn X.K (.ref f)=true)(hb:Binds X.K fd ps ds)(hd:Vals dvs ds)(hx:Passes CX X E)
 (ha:PA X (e::es) t) (hdb:(x==("__debug__":Str))=false:=by decide) (he:starEach (e::es) X.env=(false,eval e X.env)::starEach es X.env:=by rfl) (hpl:(backTo pos (starEach es X.env)).any (·.1)=false:=by rfl):
 PE X (.Call (.Name x p) (e::es) [] pos) (Aj sp dvs E t):=by
 intro pins s σ H Q I h
 refine wpAny_Call_Name_kw (uX I hg hm ?_ hdb)
 refine PySem.W.callWith_K (h₀:=X.base) I.ok.mod.xJ hk (bM (ha pos pins s σ H _ I h) fun us s1 ⟨vs,H1,I1,r,q⟩=>⟨I1.kj,?_⟩) he hpl
 exact xf F hr hb hd hx I1 r q
theorem Bt{pl:Sem Bool}(he:PE X o ta)(c:kr X.K C)(hm:Meth X.K C m f)(F:aB X.prog X.w X.K X.mg X.base CX k f fd ps sp)(hr:cC k X.A)(hb:Binds X.K fd ps ds)(hd:Vals dvs ds)(hx:Passes CX X E)(ha:PA X (e::es) t)
 (hst:starEach (e::es) X.env=(false,eval e X.env)::starEach es X.env:=by rfl) (hpl:(backTo pos (starEach es X.env)).any (·.1)=false:=by rfl)
 (ht:eval (.Call (.Attribute o m apos) (e::es) [] pos) X.env=(do
   let ov ←eval o X.env
   standAt apos.atName
   let(f,first) ←holding [ov] (getMethod ov m pl)
   callWith pos f first (backTo pos (starEach (e::es) X.env)) (backToKw pos (keywordEach [] X.env))):=by rfl):
 PE X (.Call (.Attribute o m apos) (e::es) [] pos) (Ak C m sp dvs E ta t):=by
 intro pins s σ H Q I h
 refine PySem.W.methodCall_KW (pl:=pl) (bM (he pins s σ H _ I h) fun u s1 ⟨x,H1,I1,rx,a,dx,fs,ex,ea,l,q⟩=>?_) ht
 subst ex
 obtain rfl:u=Value.ref a:=rx
 refine vJ I1 ea c hm l ?_
 refine PySem.W.callWith_K (first:=[.ref a]) (h₀:=X.base) I.ok.mod.xJ hm.kp (bM (ha pos pins s1 σ H1 _ I1 q) fun us s2 ⟨vs,H2,I2,r,q2⟩=>⟨I2.kj,?_⟩) hst hpl
 exact xf (us:= .ref a::us) (vs:= .ref a::vs) F hr hb hd hx I2 (.cons rfl r) q2
structure Mk(K:PySem.W.Frag)(C f:Addr):Prop where
 makes:PySem.W.makesIn K C=true
 init:PySem.W.findIn K (.ref C) "__init__"=some (some (.ref f))
 fn:PySem.W.isFn K (.ref f)=true
 kp:PySem.W.keepIn K (.ref C)=true
theorem yA{pins:List (Addr×Obj)}{σ:St}{H:Hp}{s:Shared}{Q:VK}{us:List Value}{vs:List V}(M:Mk X.K C f)(F:aB X.prog X.w X.K X.mg X.base CX k f fd ps sp)(hr:cC (k+1) X.A)(hb:Binds X.K fd ps ds)(hd:Vals dvs ds)
 (hx:Passes CX X E) (I:Inv X pins σ H s) (r:Vals vs us)
 (h:∀x dx,H x=none→H dx=none→dx≠x→sp (.ref x::(vs++dvs)) (upd (upd H dx (.own x)) x (.ins C dx [])) (fun v H2=>v= .aJ∧Q (.ref x) H2) E):
 wpAny (model X.prog X.w) X.A (call (.ref C) us) (EP X pins σ Q) X.xe s:=by
 have hq:=h (s.heap.objs.size+1) s.heap.objs.size (I.aL.fresh (Nat.le_succ _)) (I.aL.fresh (Nat.le_refl _)) (Nat.ne_of_lt (Nat.lt_succ_self _))
 have I2:=Inv.made (C:=C) I
 have r2:Vals (V.ref (s.heap.objs.size+1)::(vs++dvs)) (Value.ref (s.heap.objs.size+1)::(us++ds)):= .cons rfl (r.append hd)
 have hl:(Value.ref (s.heap.objs.size+1)::us++ds).length=ps.length:=by
  have e:=r2.length
  rw[F.len _ _ _ _ hq]at e
  exact e.symm
 refine wpAny_call (zh (f:=f) I.kj M.makes M.init (beq_iff_eq.mp M.fn) (codeAny_mono (F.run _ X.stack _ _ ⟨Value.ref (s.heap.objs.size+1)::us,[]⟩ (Value.ref (s.heap.objs.size+1)::(us++ds)) _ _ E (hr.make C us [])
  (I2.CM.make C us []) (hb _ (Value.ref (s.heap.objs.size+1)::us) I2.kj hl) r2 hq) fun r s' hq'=>?_))
 cases r with
 |error e=>exact hx pins σ _ _ e s' I2 hq'
 |ok fl=>
  cases fl with
  |ret u=>
   obtain⟨v,H',I3,rv,ev,q3⟩:=I2.after hq'
   subst ev
   exact⟨rv,⟨V.ref (s.heap.objs.size+1),H',I3,rfl,q3⟩⟩
  |next=>exact False.elim hq'
  |brk=>exact False.elim hq'
  |cont=>exact False.elim hq'
theorem AN(M:Mk X.K C f)(F:aB X.prog X.w X.K X.mg X.base CX k f fd ps sp)(hr:cC (k+1) X.A)(hg:Gl X x)(hm:X.mg x=some (.ref C))(hb:Binds X.K fd ps ds)(hd:Vals dvs ds)(hx:Passes CX X E)
 (ha:PA X (e::es) t) (hdb:(x==("__debug__":Str))=false:=by decide) (he:starEach (e::es) X.env=(false,eval e X.env)::starEach es X.env:=by rfl) (hpl:(backTo pos (starEach es X.env)).any (·.1)=false:=by rfl):
 PE X (.Call (.Name x p) (e::es) [] pos) (zX C sp dvs E t):=by
 intro pins s σ H Q I h
 refine wpAny_Call_Name_kw (uX I hg hm ?_ hdb)
 refine PySem.W.callWith_K (h₀:=X.base) I.ok.mod.xJ M.kp (bM (ha pos pins s σ H _ I h) fun us s1 ⟨vs,H1,I1,r,q⟩=>⟨I1.kj,?_⟩) he hpl
 exact yA M F hr hb hd hx I1 r q
end
section
variable {X:Cx}{CX:oa}{k:Nat}{f C:Addr}{fd:FuncData}{ps ks:List Str}{sp:Sp}{E:XK}{x m:Str}{p pos apos kpos:Pos}{e o:Expr}{es:List Expr}{kws:List Keyword}{te ta:TE}{t tk:TA}{nm:Option Str}
variable {g:List Value→List Value→List Value}{gV:List V→List V→List V}
end
structure bw(N P:List Str)(sc:Scope):Prop where
 kind:sc.kind= .function
 co:sc.isCoroutine=false
 gen:sc.isGenerator=false
 nd:N.Nodup
 pre:N.take P.length=P
 par:∀x∈P,sc.names.lookup x=some .local∨sc.names.lookup x=some .cell
 Dg:∀y∈sc.names,y.2≠ .free
theorem qH{kindOf:Str→Option NameKind}{x:Str}:∀ {binds:List (Str×Value)} {m:Str→Option Value},(∀v,(x,v)∉binds)→bindL kindOf binds m x=m x
 | [],_,_=>rfl
 |(n,v)::r,m,h=>by
  unfold bindL
  rw[qH fun w hw=>h w (List.mem_cons_of_mem _ hw)]
  split
  · have:x≠n:=by rintro rfl;exact h v List.mem_cons_self
    simp[this]
  · rfl
theorem qW{kindOf:Str→Option NameKind}{x:Str}:∀ {binds:List (Str×Value)} {m:Str→Option Value},(∀v,(x,v)∉binds)→bindC kindOf binds m x=m x
 | [],_,_=>rfl
 |(n,v)::r,m,h=>by
  unfold bindC
  rw[qW fun w hw=>h w (List.mem_cons_of_mem _ hw)]
  split
  · rfl
  · have:x≠n:=by rintro rfl;exact h v List.mem_cons_self
    simp[this]
theorem qO{kindOf:Str→Option NameKind}{x:Str}{v:Value}:∀ {P:List Str} {vs:List Value} {i:Nat} {m:Str→Option Value},P.Nodup→P[i]?=some x→vs[i]?=some v→kindOf x=some .local→
 bindL kindOf (P.zip vs) m x=some v
 | [],_,_,_,_,h,_,_=>by simp at h
 |_::_,[],_,_,_,_,h,_=>by simp at h
 |p::P,w::vs,0,m,nd,h1,h2,hk=>by
  simp at h1 h2;subst h1;subst h2
  show bindL kindOf ((p,w)::P.zip vs) m p=_
  unfold bindL
  rw[qH fun v hv=>(List.nodup_cons.mp nd).1 (List.of_mem_zip hv).1,if_pos hk]
  simp
 |p::P,w::vs,i+1,m,nd,h1,h2,hk=>by
  show bindL kindOf ((p,w)::P.zip vs) m x=_
  unfold bindL
  exact qO (i:=i) (List.nodup_cons.mp nd).2 (by simpa using h1) (by simpa using h2) hk
theorem qy{kindOf:Str→Option NameKind}{x:Str}{v:Value}:∀ {P:List Str} {vs:List Value} {i:Nat} {m:Str→Option Value},P.Nodup→P[i]?=some x→vs[i]?=some v→kindOf x≠some .local→
 bindC kindOf (P.zip vs) m x=some v
 | [],_,_,_,_,h,_,_=>by simp at h
 |_::_,[],_,_,_,_,h,_=>by simp at h
 |p::P,w::vs,0,m,nd,h1,h2,hk=>by
  simp at h1 h2;subst h1;subst h2
  show bindC kindOf ((p,w)::P.zip vs) m p=_
  unfold bindC
  rw[qW fun v hv=>(List.nodup_cons.mp nd).1 (List.of_mem_zip hv).1,if_neg hk]
  simp
 |p::P,w::vs,i+1,m,nd,h1,h2,hk=>by
  show bindC kindOf ((p,w)::P.zip vs) m x=_
  unfold bindC
  exact qy (i:=i) (List.nodup_cons.mp nd).2 (by simpa using h1) (by simpa using h2) hk
def start(N:List Str)(vs:List V):St:=vs.map some++List.replicate (N.length-vs.length) none
def lB(CX:oa)(P:Program)(w:World)(K:PySem.W.Frag)(mg:Str→Option Value)(base:Heap)(N:List Str)(qual:Str)(scope:Scope)(f:Addr)(cd:Value)(A:Around)(outer:List Env)(s:Shared)(H:Hp)(E:XK):Cx where
 prog:=P
 w:=w
 K:=K
 mg:=mg
 base:=base
 A:=A.deeper (envOfC qual scope s.heap.objs.size f cd)
 N:=N
 s₀:=s
 H₀:=H
 env:=envOfC qual scope s.heap.objs.size f cd
 outer:=outer
 stack:=envOfC qual scope s.heap.objs.size f cd::outer
 ex:=[]
 calm:=true
 fn:=fun _=>true
 pn:=[]
 xe:=fun e s'=>wpAny (model P w) (A.deeper (envOfC qual scope s.heap.objs.size f cd)) (leaving (envOfC qual scope s.heap.objs.size f cd) e) (fun _ s''=>CX outer H s E e s'') (fun e' s''=>CX outer H s E e' s'') s'
theorem ud{sc:Scope}{n:Nat}{x:Str}(h:sc.names.lookup x=some .cell):∃c,(cellsFrom n sc.names []).lookup x=some c:=by
 have q:=PySem.W.cellsFrom_some sc.names n [] (.inl h)
 exact Option.isSome_iff_exists.mp q
theorem xU{CX:oa}{P:Program}{w:World}{K:PySem.W.Frag}{mg:Str→Option Value}{base:Heap}{N ps:List Str}{qual:Str}{scope:Scope}{f:Addr}{cd:Value}{A:Around}{outer:List Env}{s s1:Shared}{H:Hp}{E:XK}{us:List Value}{vs:List V}
 (S:bw N ps scope) (hd:A.handled=none) (e0:oP P w K mg base A outer s H) (hl:vs.length=ps.length) (r:Vals vs us)
 (x:InCallC s s.heap.objs.size (bindL (envOfC qual scope s.heap.objs.size f cd).kindOf (ps.zip us) fun _=>none) (cellsFrom (s.heap.objs.size+1) scope.names []) (bindC (envOfC qual scope s.heap.objs.size f cd).kindOf (ps.zip us) fun _=>none) s1):
 Inv (lB CX P w K mg base N qual scope f cd A outer s H E) [] (start N vs) H s1:=by
 have hpl:ps.length≤N.length:=by have:=congrArg List.length S.pre;rw[List.length_take]at this;omega
 obtain⟨h1,tk,rfl,hk⟩:=x.done
 have noA:∀b:Addr,b∉(lB CX P w K mg base N qual scope f cd A outer s H E).ex:=fun b z=>absurd (show b∈([]:List Addr)from z) (by simp)
 refine⟨⟨e0.mod,S.kind,rfl,rfl,Nat.le_refl _,fun y z c h1 h2=>?_,fun y hy=>?_,fun y c _ h=>?_,fun _=>hd,Around.frames_deeper e0.frames,.inr ⟨rfl,rfl⟩,fun b z=>absurd z (noA b),e0.bs,e0.nh,fun b _ _=>noA b,fun b z=>absurd z (noA b),e0.iy,e0.pX,e0.gt⟩,
  rfl,e0.bare,Un.kept hk,⟨_,x.toInCall.ns,fun i y v h1 h2 h3=>?_⟩,fun y c h=>⟨_,x.cell y c h⟩,e0.aL.fresh (Nat.le_refl _),fun y c h=>?_,fun p hp=>absurd (show p∈([]:List (Addr×Obj))from hp) (by simp),e0.aL.kept hk,?_⟩
 · exact name_of_addr x.apart (PySem.mem_of_lookup h1) (PySem.mem_of_lookup h2)
 · have hy:scope.names.lookup y=some .cell∨scope.names.lookup y=some .free:=hy
   rcases hy with hy|hy
   · exact ud hy
   · exact absurd rfl (S.Dg _ (PySem.mem_of_lookup hy))
 · exact Nat.le_of_lt (x.above y c (PySem.mem_of_lookup h))
 · have hi:i<vs.length:=by
    unfold start at h2
    by_cases hi:i<vs.length
    · exact hi
    · rw[List.getElem?_append_right (by simpa using hi)]at h2
      rw[List.getElem?_replicate]at h2
      split at h2<;>cases h2
   have ha:vs[i]?=some v:=by
    unfold start at h2
    rw[List.getElem?_append_left (by simpa using hi),List.getElem?_map]at h2
    cases e:vs[i]? with
    |none=>rw[e]at h2;cases h2
    |some a=>rw[e]at h2;cases h2;rfl
   obtain⟨u,hu,rv⟩:=r.get ha
   have hp:ps[i]?=some y:=by
    rw[←S.pre,List.getElem?_take_of_lt (by omega)];exact h1
   have ndP:ps.Nodup:=by rw[←S.pre];exact S.nd.sublist (List.take_sublist _ _)
   refine⟨u,rv,?_⟩
   rcases S.par y (List.mem_of_getElem? hp)with k|k
   · exact .inl ⟨k,qO ndP hp hu k⟩
   · obtain⟨c,e⟩:=ud (n:=s.heap.objs.size+1) k
     refine .inr ⟨.inl k,c,e,?_⟩
     have q:=x.cell y c e
     rw[qy ndP hp hu (by show scope.names.lookup y≠_;rw[k];decide)]at q
     exact q
 · exact e0.aL.fresh (Nat.le_of_lt (x.above y c (PySem.mem_of_lookup h)))
 · unfold start
   show _=N.length
   rw[List.length_append,List.length_map,List.length_replicate]
   omega
theorem zM{CX:oa}{P:Program}{w:World}{K:PySem.W.Frag}{mg:Str→Option Value}{base:Heap}{k:Nat}{f:Addr}{name qual:Str}{params:Arguments}{body:List Stmt}{scope:Scope}{dV kV doc pm cdv ct oc:Value}{an od:Option Addr}
 {osl:Array (Option Value)} {N ps:List Str} {sp:Sp} (lk:K.lookup f=some ⟨oc,od,.func (PySem.W.fnOf name qual params body scope dV kV doc pm an cdv ct),osl⟩) (hcd:PySem.W.codeIn K cdv qual=true) (S:bw N ps scope)
 (len:∀vs H Q E,sp vs H Q E→vs.length=ps.length)
 (hbody:∀(A:Around) (outer:List Env) (s:Shared) (H:Hp) (vs:List V) (Q:VK) (E:XK),cC k (A.deeper (envOfC qual scope s.heap.objs.size f cdv))→sp vs H Q E→
   ∃t,fK (lB CX P w K mg base N qual scope f cdv A outer s H E) body t∧t {nx:=fun _ H'=>Q .aJ H',rt:=Q} (start N vs) H):
 aB P w K mg base CX (k+1) f (PySem.W.fnOf name qual params body scope dV kV doc pm an cdv ct) ps sp:=by
 refine⟨len,fun A outer s H args us vs Q E hr e0 hb r hsp=>?_⟩
 have hl:=len _ _ _ _ hsp
 have KX:K.In s.heap:=e0.mod.xJ.keeps fun b o e=>(e0.bs b o e).1
 have lim:s.heap.NoLimit:=e0.mod.nolimit.keeps fun b o e=>(e0.bs b o e).1
 have hkind:∀y∈ps.zip us,scope.names.lookup y.1=some .local∨(scope.names.lookup y.1=some .cell∧((cellsFrom (s.heap.objs.size+1) scope.names []).lookup y.1).isSome=true):=fun⟨n,v⟩ hy=>by
  rcases S.par n (List.of_mem_zip hy).1 with q|q
  · exact .inl q
  · exact .inr ⟨q,PySem.W.cellsFrom_some _ _ _ (.inl q)⟩
 refine codeAny_call_function hr.depth (KX _ _ lk) rfl S.co S.gen rfl (PySem.W.codeRec_of KX hcd) (hb _ _ _ _ ?_)
 refine wpAny_newFunctionEnv_cells S.kind hkind fun env he s1 x=>?_
 subst he
 refine⟨lim.keeps x.toInCall.keep,codeAny_func ?_⟩
 obtain⟨t,ht,hq⟩:=hbody A outer s H vs Q E (hr.deeper _) hsp
 have I:Inv (lB CX P w K mg base N qual scope f cdv A outer s H E) [] (start N vs) H s1:=xU S hr.hd e0 hl r x
 refine wpAny_mono (ht [] s1 (start N vs) H _ I hq) (fun fl s' hs=>?_) fun e s' hs=>hs
 have fin:∀ {σ':St} {H':Hp} {v:V} {u:Value},Inv (lB CX P w K mg base N qual scope f cdv A outer s H E) [] σ' H' s'→RelV v u→Q v H'→CE outer P w H s Q u s':=
  fun{σ' H' v u} J rv q=>⟨v,H',J.os,J.bare,J.base,J.aL,rv,q⟩
 cases fl with
 |ret u=>
  obtain⟨v,σ',H',J,rv,q⟩:=hs
  exact fin J rv q
 |next=>
  obtain⟨σ',H',J,q⟩:=hs
  exact fin (v:=V.aJ) (u:=Value.none) J rfl q
 |brk=>
  obtain⟨_,_,_,q⟩:=hs
  exact False.elim q
 |cont=>
  obtain⟨_,_,_,q⟩:=hs
  exact False.elim q
end L2
namespace L2
open PySem PySem.Spec PyProof.Rows
section
variable {X:Cx}{x:Str}{p pos:Pos}{e:Expr}{es:List Expr}{t:TA}{id T:String}{r:List V→Hp→VK→Prop}
def BP(r:List V→Hp→VK→Prop)(t:TA):TE:=fun σ H Q=>t σ H fun vs H1=>r vs H1 Q
theorem yZ(hc:cH X (.builtin id) r)(hg:Gl X x)(hm:X.mg x=none)(hv:bootBuiltins x=some (.builtin id))(ha:PA X (e::es) t)(hn:x≠"__name__":=by decide)(hdb:(x==("__debug__":Str))=false:=by decide)
 (he:starEach (e::es) X.env=(false,eval e X.env)::starEach es X.env:=by rfl) (hpl:(backTo pos (starEach es X.env)).any (·.1)=false:=by rfl):PE X (.Call (.Name x p) (e::es) [] pos) (BP r t):=by
 intro pins s σ H Q I h
 refine wpAny_Call_Name_kw (kU I hg hm hv ?_ hn hdb)
 exact PyProof.Rows.callWith_builtin1 (bM (ha pos pins s σ H _ I h) fun us s1 ⟨vs,H1,I1,r1,q1⟩=>hc pins s1 σ H1 vs us Q I1 r1 q1) he hpl
theorem ym(hc:cH X (.type T) r)(hg:Gl X x)(hm:X.mg x=none)(hv:bootBuiltins x=some (.type T))(ha:PA X (e::es) t)(hn:x≠"__name__":=by decide)(hdb:(x==("__debug__":Str))=false:=by decide)
 (he:starEach (e::es) X.env=(false,eval e X.env)::starEach es X.env:=by rfl) (hpl:(backTo pos (starEach es X.env)).any (·.1)=false:=by rfl):PE X (.Call (.Name x p) (e::es) [] pos) (BP r t):=by
 intro pins s σ H Q I h
 refine wpAny_Call_Name_kw (kU I hg hm hv ?_ hn hdb)
 exact PyProof.Rows.callWith_type1 (bM (ha pos pins s σ H _ I h) fun us s1 ⟨vs,H1,I1,r1,q1⟩=>hc pins s1 σ H1 vs us Q I1 r1 q1) he hpl
end
end L2
namespace HT
open PySem PyProof.Rows
section
open PySem.SeqAt
open PySem.AutoSeq1 (wpAny_loadPart')
open PySem.MeetsSeq PySem.MeetsSeq2 PySem.MeetsSeq3
end
section
variable {prog:Program}{w:World}{A:Around}{E:Value→Shared→Prop}{s:Shared}
theorem AG{t b:Addr}{vs ws:List Value}{Q:Value→Shared→Prop}(ht:IsTup s.heap t vs.toArray)(hb:IsTup s.heap b ws.toArray)(hv:vs≠ [])
 (h1:ws=[]→Q (.ref t) s) (h2:ws≠ []→Q (.ref s.heap.objs.size) {s with heap:=s.heap.push {cls:= .type "tuple",data:= .seq (vs++ws).toArray}})
 (hsz:vs.length+ws.length≤sizeLine):wpAny (model prog w) A (binaryOp .Add (.ref t) (.ref b)) Q E s:=by
 obtain⟨⟨cls,dd,data,sl⟩,ho,hc,n,hd⟩:=id ht
 obtain⟨⟨cls2,dd2,data2,sl2⟩,ho2,hc2,n2,hd2⟩:=id hb
 simp only at hc hd hc2 hd2
 subst hc hd hc2 hd2
 have e:vs.toArray++ws.toArray=(vs++ws).toArray:=by simp
 by_cases hw:ws=[]
 · exact concat_meets ⟨_,ho,rfl⟩ ⟨_,ho2,rfl⟩ noFill_tuple_add seq_tuple_add PySem.F.slot_tuple_add PySem.F.entry_tuple_add (PySem.F.args_tuple_add_2 _ _)
    (tuple_addW1 t b vs.toArray ws.toArray n n2 dd dd2 sl sl2 (by simpa using hv) (by simp[hw])) ⟨ho,ho2,h1 hw⟩
 · refine concat_meets ⟨_,ho,rfl⟩ ⟨_,ho2,rfl⟩ noFill_tuple_add seq_tuple_add PySem.F.slot_tuple_add PySem.F.entry_tuple_add (PySem.F.args_tuple_add_2 _ _)
    (tuple_addW2 t b vs.toArray ws.toArray n n2 dd dd2 sl sl2 (by simpa using hv) (by simpa using hw) (by rw[List.size_toArray,List.size_toArray];exact hsz)) ⟨ho,ho2,?_⟩
   rw[e]
   exact h2 hw
def bE(n d:Nat):Option Int→Nat
 |none=>d
 |some v=>if v<0 then(v+(n:Int)).toNat else min v.toNat n
theorem tJ(n d:Nat):bE n d none=d:=rfl
theorem u5(n d k:Nat):bE n d (some (k:Int))=min k n:=by
 show(if(k:Int)<0 then((k:Int)+(n:Int)).toNat else min (k:Int).toNat n)=min k n
 rw[if_neg (by omega),Int.toNat_natCast]
theorem CN(n d:Nat)(hd:d≤n)(o:Option Int):bE n d o≤n:=by
 cases o with
 |none=>exact hd
 |some v=>
  show(if v<0 then(v+(n:Int)).toNat else min v.toNat n)≤n
  by_cases hv:v<0
  · rw[if_pos hv];omega
  · rw[if_neg hv];exact Nat.min_le_right _ _
theorem uZ(v:Int)(n d:Nat):(if v<0 then max (v+(n:Int)) 0 else min v (n:Int))=((bE n d (some v):Nat):Int):=by
 show(if v<0 then max (v+(n:Int)) 0 else min v (n:Int))=(((if v<0 then(v+(n:Int)).toNat else min v.toNat n):Nat):Int)
 by_cases hv:v<0
 · simp only[if_pos hv];omega
 · simp only[if_neg hv];omega
theorem wH(lo hi:Option Int)(n:Nat):Builtin.Slice.sliceAdjust lo hi 1 (n:Int)=(((bE n 0 lo:Nat):Int),((bE n n hi:Nat):Int)):=by
 have h1:¬((1:Int)<0):=by omega
 unfold Builtin.Slice.sliceAdjust
 simp only[h1,if_false]
 refine Prod.ext ?_ ?_
 · cases lo with
   |none=>rfl
   |some v=>exact uZ v n 0
 · cases hi with
   |none=>rfl
   |some v=>exact uZ v n n
theorem vV(i j:Nat):Builtin.Slice.slicePlaces (i:Int) (j:Int) 1=j-i:=by
 unfold Builtin.Slice.slicePlaces
 have h1:(1:Int)>0:=by omega
 simp only[h1,if_true,Int.ediv_one]
 split<;>omega
theorem pd{v:Value}{o:Option Int}{Q:Option Int→Shared→Prop}(p:IsPart v o)(h:Q o s):wpAny (model prog w) A (Builtin.Slice.slicePartIndex v) Q E s:=by
 cases p with
 |none=>exact slicePart_none h
 |int i t=>exact slicePart_int h
theorem j4{sl:Addr}{vl vu:Value}{lo hi:Option Int}{n:Nat}{Q:Int×Int×Nat→Shared→Prop}(hs:s.heap.IsSliceOf sl vl vu .none)(pl:IsPart vl lo)(pu:IsPart vu hi)
 (h:Q (((bE n 0 lo:Nat):Int),1,bE n n hi-bE n 0 lo) s):wpAny (model prog w) A (Builtin.Slice.sliceApplied (.ref sl) (pure (n:Int))) Q E s:=by
 obtain⟨os,hos,hcs,hds⟩:=id hs
 unfold Builtin.Slice.sliceApplied Builtin.Slice.sliceFields
 refine wpAny_bind (wpAny_bind (wpAny_field hos hds (x:=vl) rfl (wpAny_bind (wpAny_field hos hds (x:=vu) rfl (wpAny_bind (wpAny_field hos hds (x:= .none) rfl (wpAny_pure ?_)))))))
 refine wpAny_bind (slicePart_none ?_)
 show wpAny _ _ (if((1:Int)==0)=true then _ else _) _ _ s
 rw[if_neg (by decide)]
 refine wpAny_bind (pd pl (wpAny_bind (pd pu (wpAny_bind (wpAny_pure ?_)))))
 show wpAny _ _ (match Builtin.Slice.sliceAdjust lo hi 1 (n:Int)with|(lo,hi)=>pure (lo,(1:Int),Builtin.Slice.slicePlaces lo hi 1)) _ _ s
 rw[wH lo hi n]
 show wpAny _ _ (pure (((bE n 0 lo:Nat):Int),(1:Int),Builtin.Slice.slicePlaces ((bE n 0 lo:Nat):Int) ((bE n n hi:Nat):Int) 1)) _ _ s
 rw[vV]
 exact wpAny_pure h
theorem yE(xs:Array Value)(i k:Nat):((List.range k).filterMap fun(m:Nat)=>xs[((i:Int)+(m:Int)*1).toNat]?).toArray=((xs.toList.drop i).take k).toArray:=by
 have e:(fun(m:Nat)=>xs[((i:Int)+(m:Int)*1).toNat]?)=fun m=>xs[i+m]?:=by
  funext m
  have:((i:Int)+(m:Int)*1).toNat=i+m:=by omega
  rw[this]
 rw[e]
 have:=pick_run xs i k
 rw[List.filterMap_map]at this
 have e2:((fun x=>xs[x]?)∘fun x=>i+x)=fun m=>xs[i+m]?:=rfl
 rw[e2]at this
 rw[this]
theorem nV{t sl:Addr}{items:Array Value}{vl vu:Value}{lo hi:Option Int}{Q:Value→Shared→Prop}(ht:IsTup s.heap t items)(hs:s.heap.IsSliceOf sl vl vu .none)(pl:IsPart vl lo)(pu:IsPart vu hi)
 (hw:¬(bE items.size 0 lo=0∧bE items.size items.size hi=items.size))
 (h:Q (.ref s.heap.objs.size) {s with heap:=s.heap.push {cls:= .type "tuple",data:= .seq ((items.toList.drop (bE items.size 0 lo)).take (bE items.size items.size hi-bE items.size 0 lo)).toArray}})
 (hsz:items.size≤sizeLine):wpAny (model prog w) A (getItem (.ref t) (.ref sl)) Q E s:=by
 have htake:sizeOk (.seq ((items.toList.drop (bE items.size 0 lo)).take (bE items.size items.size hi-bE items.size 0 lo)).toArray):=by
  show((items.toList.drop (bE items.size 0 lo)).take (bE items.size items.size hi-bE items.size 0 lo)).toArray.size≤sizeLine
  rw[List.size_toArray,List.length_take,List.length_drop,Array.length_toList]
  omega
 have hj:bE items.size items.size hi≤items.size:=CN _ _ (Nat.le_refl _) hi
 obtain⟨os,hos,hcs,hds⟩:=id hs
 have hTs:s.TypeIs (.ref sl) "slice":=⟨os,hos,hcs⟩
 unfold getItem
 try with_reducible refine wpAny_holding ?_
 first|refine wpAny_bind (wpAny_pure ?_)|skip
 refine wpAny_bind (wpAny_sequenceKey ht.typeIs (by decide) ?_)
 refine wpAny_bind (wpAny_callSpecial?_slot (name:=Str.ofString "__getitem__") ht.typeIs PyProof.Rows.slot_tuple_getitem
  (wpAny_call_entry PyProof.Rows.slot_tuple_getitem ht.typeIs entry_tuple_getitem ?_ (args_tuple_getitem _ _)))
 show wpAny _ _ (Builtin.Tuple.tupleItemsOf (.ref t) >>= _) _ _ s
 refine wpAny_bind (tupleItemsOf_ ht ?_)
 refine wpAny_bind (wpAny_typeOf hTs ?_)
 rw[if_pos (by decide)]
 refine wpAny_bind (j4 hs pl pu ?_)
 have hno:¬((((bE items.size 0 lo:Nat):Int)==0&&(1:Int)==1&&(bE items.size items.size hi-bE items.size 0 lo)==items.size)=true):=by
  intro q
  rw[Bool.and_eq_true,Bool.and_eq_true]at q
  have q1:((bE items.size 0 lo:Nat):Int)=0:=eq_of_beq q.1.1
  have q2:bE items.size items.size hi-bE items.size 0 lo=items.size:=eq_of_beq q.2
  exact hw ⟨by omega,by omega⟩
 show wpAny _ _ (if(((bE items.size 0 lo:Nat):Int)==0&&(1:Int)==1&&(bE items.size items.size hi-bE items.size 0 lo)==items.size)=true then _ else _) _ _ s
 rw[if_neg hno,yE]
 first
  |exact wpAny_bind (m:=Builtin.Tuple.tupleExact _) (wpAny_newObj_type (wpAny_pure ⟨_,rfl,wpAny_pure h⟩) htake)
  |exact wpAny_bind (m:=Builtin.Tuple.tupleExact _) (wpAny_newObj_type (wpAny_bind (wpAny_pure (wpAny_pure ⟨_,rfl,wpAny_pure h⟩))) htake)
  |exact wpAny_bind (wpAny_bind (m:=Builtin.Tuple.tupleExact _) (wpAny_newObj_type (wpAny_pure (wpAny_pure ⟨_,rfl,wpAny_pure h⟩)) htake))
  |exact wpAny_bind (wpAny_bind (m:=Builtin.Tuple.tupleExact _) (wpAny_newObj_type (wpAny_pure ⟨_,rfl,wpAny_pure h⟩) htake))
end
end HT
namespace L2
open PySem PySem.Spec PyProof.Rows
abbrev TO:=St→Hp→(Option Int→Hp→Prop)→Prop
def PO(X:Cx)(e:Option Expr)(t:TO):Prop:=
 ∀(pins:List (Addr×Obj)) (s:Shared) (σ:St) (H:Hp) (Q:Option Int→Hp→Prop),Inv X pins σ H s→t σ H Q→
  wpAny (model X.prog X.w) X.A (evalPart e X.env) (fun u s'=>∃o H',Inv X pins σ H' s'∧IsPart u o∧Q o H') X.xe s
def BE:TO:=fun _ H Q=>Q none H
def EM(t:TE):TO:=fun σ H Q=>t σ H fun x H1=>∃i,x= .int i∧Q (some i) H1
section
variable {X:Cx}{e:Expr}{te:TE}{lo hi:Option Expr}{tl th:TO}{pos p2:Pos}
theorem Bq:PO X none BE:=by
 intro pins s σ H Q I h
 rw[evalPart_none]
 exact wpAny_pure ⟨none,H,I,.none,h⟩
theorem Ay(h:PE X e te):PO X (some e) (EM te):=by
 intro pins s σ H Q I hw
 rw[evalPart_some]
 refine bM (h pins s σ H _ I hw) fun u s1 ⟨x,H1,I1,r1,q1⟩=>?_
 obtain⟨i,rfl,q⟩:=q1
 obtain⟨t,rfl⟩:=r1
 exact⟨some i,H1,I1,.int i t,q⟩
def wN(X:Cx)(r:V→Option Int→Option Int→Hp→VK→Prop):Prop:=
 ∀(pins:List (Addr×Obj)) (s:Shared) (σ:St) (H:Hp) (x:V) (v vl vu:Value) (lo hi:Option Int) (sl:Addr) (Q:VK),Inv X pins σ H s→RelV x v→s.heap.IsSliceOf sl vl vu .none→IsPart vl lo→IsPart vu hi→r x lo hi H Q→
  ∃T id,typeLookup (.type T) "__getitem__"=pure (some (.builtin id))∧s.TypeIs v T∧wpAny (model X.prog X.w) X.A (getItem v (.ref sl)) (EP X pins σ Q) X.xe s
def GO(r:V→Option Int→Option Int→Hp→VK→Prop)(te:TE)(tl th:TO):TE:=fun σ H Q=>te σ H fun x H1=>tl σ H1 fun l H2=>th σ H2 fun u H3=>r x l u H3 Q
theorem yD{r:V→Option Int→Option Int→Hp→VK→Prop}(hr:wN X r)(he:PE X e te)(hl:PO X lo tl)(hu:PO X hi th):PE X (.Subscript e (.Slice lo hi none p2) pos) (GO r te tl th):=by
 intro pins s σ H Q I h
 refine Subscript_ (bM (he pins s σ H _ I h) fun v s1 ⟨x,H1,I1,r1,q1⟩=>?_)
 refine wpAny_Slice (bM (hl pins s1 σ H1 _ I1 q1) fun vl s2 ⟨l,H2,I2,pl,q2⟩=>bM (hu pins s2 σ H2 _ I2 q2) fun vu s3 ⟨u,H3,I3,pu,q3⟩=>?_)
 rw[evalPart_none]
 refine wpAny_pure ?_
 have I4:Inv X pins σ H3 {s3 with heap:=s3.heap.push {cls:= .type "slice",data:= .fields #[vl,vu,.none]}}:=I3.kept (t':=s3.toks) fun b ob q=>Heap.get?_push_of_some _ q
 obtain⟨T,id,hT,ht,hg⟩:=hr pins {s3 with heap:=s3.heap.push {cls:= .type "slice",data:= .fields #[vl,vu,.none]}} σ H3 x v vl vu l u s3.heap.objs.size Q I4 r1 (Heap.IsSliceOf.new ..) pl pu q3
 show wpAny (model X.prog X.w) X.A (subscriptTail e (.Slice lo hi none p2) v (.ref s3.heap.objs.size)) (EP X pins σ Q) X.xe {s3 with heap:=s3.heap.push {cls:= .type "slice",data:= .fields #[vl,vu,.none]}}
 exact tail_any (ops:=[.ref s3.heap.objs.size,v]) ht hT hg (by with_unfolding_all rfl)
def lH(xs:List V)(lo hi:Option Int):List V:=(xs.drop (HT.bE xs.length 0 lo)).take (HT.bE xs.length xs.length hi-HT.bE xs.length 0 lo)
theorem og(xs:List V)(lo hi:Option Int):(lH xs lo hi).length≤xs.length:=by
 unfold lH
 rw[List.length_take,List.length_drop]
 omega
def Gw(K:PySem.W.Frag):V→Option Int→Option Int→Hp→VK→Prop:=fun x lo hi H Q=>∃a xs,x= .ref a∧gR K H a xs∧
 ¬(HT.bE xs.length 0 lo=0∧HT.bE xs.length xs.length hi=xs.length)∧∀p,H p=none→Q (.ref p) (upd H p (.tup (lH xs lo hi)))
theorem C6:wN X (Gw X.K):=by
 intro pins s σ H x v vl vu lo hi sl Q I rx hs pl pu h
 obtain⟨a,xs,rfl,hx,hw,q⟩:=h
 cases rx
 obtain⟨its,r,ht,hz⟩:=I.tuple hx
 have hlen:its.toArray.size=xs.length:=by rw[List.size_toArray];exact r.length.symm
 refine⟨"tuple",_,PyProof.Rows.slot_tuple_getitem.lookup,ht.typeIs,?_⟩
 refine HT.nV ht hs pl pu (by rw[hlen];exact hw) ?_ (by rw[hlen];exact hz)
 rw[hlen]
 refine⟨.ref s.heap.objs.size,_,I.laid (t':=s.toks) (o:= .tup (lH xs lo hi)) (fun b ob q=>Heap.get?_push_of_some _ q) (Nat.le_refl _) ?_,rfl,q _ (I.aL.fresh (Nat.le_refl _))⟩
 exact⟨Nat.le_trans (og xs lo hi) hz,_,(r.drop (HT.bE xs.length 0 lo)).take (HT.bE xs.length xs.length hi-HT.bE xs.length 0 lo),IsTup.new _ _⟩
def Es(K:PySem.W.Frag):R2:=fun x y H Q=>∃a b xs ys,x= .ref a∧y= .ref b∧gR K H a xs∧gR K H b ys∧xs≠ []∧xs.length+ys.length≤sizeLine∧
 (ys=[]→Q (.ref a) H)∧(ys≠ []→∀p,H p=none→Q (.ref p) (upd H p (.tup (xs++ys))))
theorem Vals.nL{xs:List V}{us:List Value}(r:Vals xs us):us=[]↔xs=[]:=by
 cases r with
 |nil=>simp
 |cons _ _=>simp
theorem Az:cm X (binaryOp .Add) (Es X.K):=by
 intro pins s σ H x y v u Q I rx ry h
 obtain⟨a,b,xs,ys,rfl,rfl,ha,hb,hx,hz,q1,q2⟩:=h
 cases rx
 cases ry
 obtain⟨its,r1,p1,_⟩:=I.tuple ha
 obtain⟨its2,r2,p2,_⟩:=I.tuple hb
 refine HT.AG p1 p2 (fun z=>hx (r1.nL.mp z)) (fun z=>⟨.ref a,H,I,rfl,q1 (r2.nL.mp z)⟩) (fun z=>?_) (by rw[←r1.length,←r2.length];exact hz)
 refine⟨.ref s.heap.objs.size,_,I.laid (t':=s.toks) (o:= .tup (xs++ys)) (fun b ob q=>Heap.get?_push_of_some _ q) (Nat.le_refl _) ?_,rfl,q2 (fun w=>z (r2.nL.mpr w)) _ (I.aL.fresh (Nat.le_refl _))⟩
 exact⟨by rw[List.length_append];exact hz,_,r1.append r2,IsTup.new _ _⟩
end
end L2
namespace L2
open PySem PySem.Spec PyProof.Rows
def jr(n:Nat)(i:Int):Option Nat:=if 0≤i then(if i<n then some i.toNat else none)else if-(n:Int)≤i then some (i+n).toNat else none
def eK{α:Type}(xs:List α)(i:Int):Option α:=(jr xs.length i).bind fun j=>xs[j]?
theorem uP{n:Nat}{i:Int}{j:Nat}(h:jr n i=some j):seqIndex? i n=some j∧j<n∧ -(n:Int)≤i∧i<n:=by
 unfold jr at h
 by_cases h0:0≤i
 · rw[if_pos h0]at h
   by_cases h1:i<n
   · rw[if_pos h1]at h
     have e:i.toNat=j:=Option.some.inj h
     exact⟨by rw[seqIndex_of h0 h1,e],by omega,by omega,h1⟩
   · rw[if_neg h1]at h;cases h
 · rw[if_neg h0]at h
   by_cases h1: -(n:Int)≤i
   · rw[if_pos h1]at h
     have e:(i+n).toNat=j:=Option.some.inj h
     exact⟨by rw[seqIndex_neg (by omega) h1,e],by omega,h1,by omega⟩
   · rw[if_neg h1]at h;cases h
theorem qm{α:Type}{xs:List α}{i:Int}{v:α}(h:eK xs i=some v):∃j,seqIndex? i xs.length=some j∧xs[j]?=some v∧j<xs.length∧ -(xs.length:Int)≤i∧i<xs.length:=by
 unfold eK at h
 cases e:jr xs.length i with
 |none=>rw[e]at h;cases h
 |some j=>
  rw[e]at h
  obtain⟨h1,h2,h3,h4⟩:=uP e
  exact⟨j,h1,h,h2,h3,h4⟩
theorem iq{α:Type}{xs:List α}{j:Nat}{v:α}(h:xs[j]?=some v):eK xs (j:Int)=some v:=by
 have hj:j<xs.length:=(List.getElem?_eq_some_iff.mp h).1
 have e:jr xs.length (j:Int)=some j:=by
  unfold jr
  rw[if_pos (by omega),if_pos (by omega)];simp
 unfold eK;rw[e];exact h
def nK(b:Expr):Prop:=∀o i,subscripted b false o i=operate [o,i] (getItem o i)
def Am(X:Cx)(r:R2):Prop:=
 ∀(value slice:Expr) (pins:List (Addr×Obj)) (s:Shared) (σ:St) (H:Hp) (x y:V) (v u:Value) (Q:VK),Inv X pins σ H s→RelV x v→RelV y u→r x y H Q→
  subscripted slice false v u=operate [v,u] (getItem v u)→wpAny (model X.prog X.w) X.A (subscriptTail value slice v u) (EP X pins σ Q) X.xe s
def Dv(X:Cx)(id:String)(r:V→List V→Hp→VK→Prop):Prop:=
 ∀(pins:List (Addr×Obj)) (s:Shared) (σ:St) (H:Hp) (x:V) (xs:List V) (v:Value) (us:List Value) (Q:VK),Inv X pins σ H s→RelV x v→Vals xs us→r x xs H Q→
  wpAny (model X.prog X.w) X.A (call (.builtin id) (v::us)) (EP X pins σ Q) X.xe s
section
variable {X:Cx}{a b:Expr}{ta tb:TE}{pos:Pos}
theorem EV{r:R2}(hr:Am X r)(ha:PE X a ta)(hb:PE X b tb)(hs:nK b):PE X (.Subscript a b pos) (xj r ta tb):=by
 intro pins s σ H Q I h
 exact Subscript_ (zf ha hb I h fun v u s2 x y H2 I2 rx ry q=>hr a b pins s2 σ H2 x y v u Q I2 rx ry q (hs _ _))
def FR(K:PySem.W.Frag):R2:=fun x y H Q=>∃p xs i v,x= .ref p∧y= .int i∧jf K H p xs∧eK xs i=some v∧Q v H
def FZ(K:PySem.W.Frag):R2:=fun x y H Q=>∃p xs i v,x= .ref p∧y= .int i∧gR K H p xs∧eK xs i=some v∧Q v H
theorem vf:Am X (FR X.K):=by
 intro value slice pins s σ H x y v u Q I rx ry h hs
 obtain⟨p,xs,i,z,rfl,rfl,hq,he,q⟩:=h
 cases rx
 obtain⟨t,rfl⟩:=ry
 obtain⟨its,r,pl,hz⟩:=I.list hq
 obtain⟨j,h1,h2,h3,h4,h5⟩:=qm he
 obtain⟨w,ew,rw'⟩:=r.get h2
 have hl:=r.length
 have hn:=mP
 have fin:EP X pins σ Q w s:=⟨z,H,I,rw',q⟩
 by_cases h0:0≤i
 · have hj:i.toNat=j:=by
    rw[seqIndex_of h0 h5]at h1
    exact Option.some.inj h1
   exact item_listR pl.isList h0 (by omega) (by rw[hj];simpa using ew) fin hs
 · have hj:(i+(its.toArray.size:Int)).toNat=j:=by
    rw[seqIndex_neg (by omega) h4]at h1
    rw[List.size_toArray,←hl]
    exact Option.some.inj h1
   exact subscriptTail_builtinR (x:=w) pl.isList.typeIs slot_list_getitem.lookup
    (wpAny_getItem_list_neg (Q:=fun r s'=>r=w∧EP X pins σ Q r s') pl.isList (by omega) (by rw[List.size_toArray]<;>omega) (by omega) (by rw[hj];simpa using ew) ⟨rfl,fin⟩) hs
theorem Dw:Am X (FZ X.K):=by
 intro value slice pins s σ H x y v u Q I rx ry h hs
 obtain⟨p,xs,i,z,rfl,rfl,hq,he,q⟩:=h
 cases rx
 obtain⟨t,rfl⟩:=ry
 obtain⟨its,r,pl,hz⟩:=I.tuple hq
 obtain⟨j,h1,h2,h3,h4,h5⟩:=qm he
 obtain⟨w,ew,rw'⟩:=r.get h2
 have hl:=r.length
 have hn:=mP
 have fin:EP X pins σ Q w s:=⟨z,H,I,rw',q⟩
 exact subscriptTail_builtinR (x:=w) pl.typeIs slot_tuple_getitem.lookup
  (getItem_tuple (j:=j) (Q:=fun r s'=>r=w∧EP X pins σ Q r s') pl (by omega) (by omega) (by rw[List.size_toArray,←hl];exact h1) (by simpa using ew) ⟨rfl,fin⟩) hs
theorem wL(its:List Value)(n j:Nat)(u:Value):Obj.mapSeq (·.setIfInBounds j u) {cls:= .type "list",data:= .seq its.toArray n}= {cls:= .type "list",data:= .seq (its.set j u).toArray n}:=by
 simp[Obj.mapSeq]
theorem Inv.lst{pins:List (Addr×Obj)}{σ:St}{H:Hp}{s:Shared}{p:Addr}{xs:List V}(I:Inv X pins σ H s)(h:H p=some (.lst xs)):
 ∃(its:List Value) (n:Nat),Vals xs its∧s.heap.get? p=some {cls:= .type "list",data:= .seq its.toArray n}∧xs.length≤sizeLine:=by
 obtain⟨z,its,n,r,e⟩:=I.aL p _ h
 exact⟨its,n,r,e,z⟩
theorem Inv.De{pins:List (Addr×Obj)}{σ:St}{H:Hp}{s:Shared}{p:Addr}{xs ys:List V}{its its':List Value}{n n':Nat}{f:Obj→Obj}(I:Inv X pins σ H s)(h:H p=some (.lst xs))
 (ho:s.heap.get? p=some {cls:= .type "list",data:= .seq its.toArray n}) (hf:f {cls:= .type "list",data:= .seq its.toArray n}= {cls:= .type "list",data:= .seq its'.toArray n'}) (r:Vals ys its') (hz:ys.length≤sizeLine) (t:Nat):
 Inv X pins σ (upd H p (.lst ys)) {s with heap:=s.heap.update p f,toks:=t}:=by
 have e:(s.heap.update p f).get? p=some {cls:= .type "list",data:= .seq its'.toArray n'}:=by
  rw[Heap.get?_update_self f ho (by rw[hf]<;>rfl),hf]
 refine I.write (x:=p) (e:=p) (by rw[h];trivial) (.inl rfl) (fun b u hb q=>(Heap.get?_update_other _ _ (Ne.symm hb)).trans q) ⟨_,e⟩ ?_
 exact⟨hz,its',n',r,e⟩
def nI:V→V→V→Hp→(Hp→Prop)→Prop:=fun o i v H Q=>∃p xs k j,o= .ref p∧i= .int k∧H p=some (.lst xs)∧jr xs.length k=some j∧Q (upd H p (.lst (xs.set j v)))
theorem set_list:Cw X nI:=by
 intro pins s σ H o i v ov iv u Q I ro ri rv h
 obtain⟨p,xs,k,j,rfl,rfl,hp,hj,q⟩:=h
 cases ro
 obtain⟨t,rfl⟩:=ri
 obtain⟨its,n,r,ho,hz⟩:=I.lst hp
 obtain⟨h1,h2,h3,h4⟩:=uP hj
 have hl:=r.length
 have hn:=mP
 have I':Inv X pins σ (upd H p (.lst (xs.set j v))) {s with heap:=s.heap.update p (Obj.mapSeq (·.setIfInBounds j u))}:=
  I.De hp ho (wL its n j u) (r.set rv j) (by rw[List.length_set];exact hz) s.toks
 by_cases h0:0≤k
 · have hk:k.toNat=j:=by
    rw[seqIndex_of h0 h4]at h1
    exact Option.some.inj h1
   exact PySem.W.ki_setAt ho h0 (by omega) (by rw[List.size_toArray,←hl];exact h4) (by rw[hk];exact⟨_,I',q⟩)
 · have hk:(k+(its.toArray.size:Int)).toNat=j:=by
    rw[seqIndex_neg (by omega) h3]at h1
    rw[List.size_toArray,←hl]
    exact Option.some.inj h1
   exact PySem.W.ki_setBack ho (by omega) (by rw[List.size_toArray,←hl];exact h3) (by omega) (by rw[hk];exact⟨_,I',q⟩)
theorem sZ(lo hi:Option Int)(n:Nat):(sliceBounds lo hi none n).1=((HT.bE n 0 lo:Nat):Int)∧(sliceBounds lo hi none n).2.1=((HT.bE n n hi:Nat):Int)∧(sliceBounds lo hi none n).2.2=1:=by
 refine⟨?_,?_,rfl⟩
 · cases lo with
   |none=>simp[sliceBounds,HT.bE]
   |some i=>
    simp only[sliceBounds,HT.bE,Option.getD_none,show(1:Int)>0 by decide,if_true]
    by_cases h:i<0
    · simp only[h,if_true]<;>omega
    · simp only[h,if_false]<;>omega
 · cases hi with
   |none=>simp[sliceBounds,HT.bE]
   |some i=>
    simp only[sliceBounds,HT.bE,Option.getD_none,show(1:Int)>0 by decide,if_true]
    by_cases h:i<0
    · simp only[h,if_true]<;>omega
    · simp only[h,if_false]<;>omega
theorem rh(its:List Value)(lo hi:Option Int):slicePick its.toArray lo hi none=((its.drop (HT.bE its.length 0 lo)).take (HT.bE its.length its.length hi-HT.bE its.length 0 lo)).toArray:=by
 obtain⟨h1,h2,h3⟩:=sZ lo hi its.toArray.size
 unfold slicePick
 rw[h1,h2,h3]
 simp only[sliceRange_one,pick_run,List.size_toArray]<;>rfl
def Gb(K:PySem.W.Frag):V→Option Int→Option Int→Hp→VK→Prop:=fun x lo hi H Q=>∃a xs,x= .ref a∧jf K H a xs∧∀p,H p=none→Q (.ref p) (upd H p (.lst (lH xs lo hi)))
theorem u_:wN X (Gb X.K):=by
 intro pins s σ H x v vl vu lo hi sl Q I rx hs pl pu h
 obtain⟨a,xs,rfl,hx,q⟩:=h
 cases rx
 obtain⟨its,r,ht,hz⟩:=I.list hx
 have hlen:=r.length
 refine⟨"list",_,slot_list_getitem.lookup,ht.isList.typeIs,?_⟩
 refine wpAny_getItem_list_slice ht.isList hs pl pu .none (by simp) ?_ (by rw[List.size_toArray]<;>omega)
 rw[rh,←hlen]
 refine⟨.ref s.heap.objs.size,_,I.laid (t':=s.toks) (o:= .lst (lH xs lo hi)) (fun b ob q=>Heap.get?_push_of_some _ q) (Nat.le_refl _) ?_,rfl,q _ (I.aL.fresh (Nat.le_refl _))⟩
 exact⟨Nat.le_trans (og xs lo hi) hz,_,0,(r.drop (HT.bE xs.length 0 lo)).take (HT.bE xs.length xs.length hi-HT.bE xs.length 0 lo),Heap.get?_push_size _ rfl⟩
theorem tM:cH X (.builtin "len") (fun xs H Q=>∃p ys,xs=[.ref p]∧(jf X.K H p ys∨gR X.K H p ys)∧Q (.int ys.length) H):=by
 intro pins s σ H xs us Q I r h
 obtain⟨p,ys,rfl,hq,q⟩:=h
 obtain⟨u,rfl,rx⟩:=vals1 r
 cases rx
 have hn:=mP
 rcases hq with hq|hq
 · obtain⟨its,r',pl,hz⟩:=I.list hq
   have hlen:=r'.length
   exact Calls.call_len_list pl.isList (by simp only[List.size_toArray]<;>omega) ⟨.int ys.length,H,I.tok _,⟨s.toks+1,by rw[List.size_toArray,hlen]⟩,q⟩
 · obtain⟨its,r',pl,hz⟩:=I.tuple hq
   have hlen:=r'.length
   exact len_tuple pl (by simp only[List.size_toArray]<;>omega) ⟨.int ys.length,H,I.tok _,⟨s.toks+1,by rw[List.size_toArray,hlen]⟩,q⟩
theorem sv:cH X (.builtin "len") (fun xs H Q=>∃z,xs=[.str z]∧z.length≤sizeLine∧Q (.int z.length) H):=by
 intro pins s σ H xs us Q I r h
 obtain⟨z,rfl,hz,q⟩:=h
 obtain⟨u,rfl,t,rfl⟩:=vals1 r
 have hn:=mP
 exact len_str (by omega) ⟨.int z.length,H,I.tok _,⟨_,rfl⟩,q⟩
theorem mM:cH X (.type "list") (fun xs H Q=>∃p ys,xs=[.ref p]∧(jf X.K H p ys∨gR X.K H p ys)∧∀l,H l=none→Q (.ref l) (upd H l (.lst ys))):=by
 intro pins s σ H xs us Q I r h
 obtain⟨p,ys,rfl,hq,q⟩:=h
 obtain⟨u,rfl,rx⟩:=vals1 r
 cases rx
 have fin:∀(its:List Value),Vals ys its→ys.length≤sizeLine→∀(h':Heap) (c':Nat),(∀b o',s.heap.get? b=some o'→h'.get? b=some o')→
  h'.get? s.heap.objs.size=some {cls:= .type "list",dict:=none,data:= .seq its.toArray c',slots:= #[]}→EP X pins σ Q (.ref s.heap.objs.size) {s with heap:=h'}:=fun its r' hz h' c' kp e=>
  ⟨.ref s.heap.objs.size,_,I.laid (t':=s.toks) kp (Nat.le_refl _) (show ft X.prog X.w _ h' _ (.lst ys)from⟨hz,its,c',r',e⟩),rfl,q _ (I.aL.fresh (Nat.le_refl _))⟩
 rcases hq with hq|hq
 · obtain⟨its,r',pl,hz⟩:=I.list hq
   have hlen:=r'.length
   obtain⟨o,ho,hc,n,hd⟩:=pl.isList
   exact call_list_seq p (.inl rfl) ho hc hd (fun h' c' kp e=>fin its r' hz h' c' kp e) (by simp only[List.size_toArray]<;>omega)
 · obtain⟨its,r',pl,hz⟩:=I.tuple hq
   have hlen:=r'.length
   obtain⟨o,ho,hc,n,hd⟩:=pl
   exact call_list_seq p (.inr rfl) ho hc hd (fun h' c' kp e=>fin its r' hz h' c' kp e) (by simp only[List.size_toArray]<;>omega)
theorem rg:cH X (.type "tuple") (fun xs H Q=>∃p ys,xs=[.ref p]∧((jf X.K H p ys∧∀l,H l=none→Q (.ref l) (upd H l (.tup ys)))∨(gR X.K H p ys∧Q (.ref p) H))):=by
 intro pins s σ H xs us Q I r h
 obtain⟨p,ys,rfl,h⟩:=h
 obtain⟨u,rfl,rx⟩:=vals1 r
 cases rx
 rcases h with⟨hq,q⟩|⟨hq,q⟩
 · obtain⟨its,r',pl,hz⟩:=I.list hq
   have hlen:=r'.length
   refine call_tuple_list pl.isList (fun h' kp=>?_) (by simp only[List.size_toArray]<;>omega)
   have I1:Inv X pins σ H {s with heap:=h'}:=I.kept (t':=s.toks) kp
   have I2:Inv X pins σ (upd H h'.objs.size (.tup ys)) {s with heap:=h'.push {cls:= .type "tuple",data:= .seq its.toArray}}:=
    I1.laid (t':=s.toks) (fun b o e=>Heap.get?_push_of_some _ e) (Nat.le_refl _) (show ft X.prog X.w _ _ _ (.tup ys)from⟨hz,its,r',IsTup.new _ _⟩)
   exact⟨.ref h'.objs.size,_,I2,rfl,q _ (I1.aL.fresh (Nat.le_refl _))⟩
 · obtain⟨its,r',pl,hz⟩:=I.tuple hq
   exact call_tuple_same pl ⟨.ref p,H,I,rfl,q⟩
def Fx(K:PySem.W.Frag)(T:String)(x:V)(H:Hp):Prop:=match x with
 | .str _=>T="str"
 | .int _=>T="int"
 | .ref p=>(T="list"∧∃xs,jf K H p xs)∨(T="tuple"∧∃o,K.lookup p=some o∧o.cls= .type "tuple"∧o.dict=none)∨
    (T="dict"∧((∃kvs,H p=some (.dK kvs))∨∃kvs,H p=some (.dT kvs)))∨(T="set"∧∃S n,H p=some (.set S n))
 |_=>False
theorem C4{pins:List (Addr×Obj)}{σ:St}{H:Hp}{s:Shared}{T:String}{x:V}{v:Value}(I:Inv X pins σ H s)(r:RelV x v)(ty:Fx X.K T x H):
 s.TypeIs v T∧∀a,v= .ref a→∃ob,s.heap.get? a=some ob∧ob.dict=none:=by
 cases x with
 |str z=>
  obtain⟨t,rfl⟩:=r
  cases (show T="str" from ty)
  exact⟨typeIs_str s z t,fun _ e=>nomatch e⟩
 |int i=>
  obtain⟨t,rfl⟩:=r
  cases (show T="int" from ty)
  exact⟨typeIs_int s i t,fun _ e=>nomatch e⟩
 |ref p=>
  cases r
  rcases ty with⟨rfl,xs,hq⟩|⟨rfl,o,hk,hc,hd⟩|⟨rfl,hk⟩|⟨rfl,S,n,hk⟩
  · obtain⟨its,_,pl,_⟩:=I.list hq
    refine⟨pl.isList.typeIs,fun a e=>?_⟩
    cases e
    obtain⟨o,n,e,c,hd,_⟩:=pl
    exact⟨o,e,hd⟩
  · refine⟨⟨o,I.kj p o hk,hc⟩,fun a e=>?_⟩
    cases e
    exact⟨o,I.kj _ o hk,hd⟩
  · have z:∃o,s.heap.get? p=some o∧o.ExactDict:=by
     rcases hk with⟨kvs,hk⟩|⟨kvs,hk⟩
     · obtain⟨_,_,_,_,o,_,_,e,ex,_⟩:=I.aL p _ hk
       exact⟨o,e,ex⟩
     · obtain⟨_,_,_,_,o,_,_,e,ex,_⟩:=I.aL p _ hk
       exact⟨o,e,ex⟩
    obtain⟨o,e,ex⟩:=z
    refine⟨⟨o,e,ex.1⟩,fun a e2=>?_⟩
    cases e2
    exact⟨o,e,ex.2.1⟩
  · obtain⟨o,_,_,_,e,ex,_⟩:=I.aL p _ hk
    refine⟨⟨o,e,ex.1⟩,fun a e2=>?_⟩
    cases e2
    exact⟨o,e,ex.2.1⟩
 |_=>exact False.elim ty
def CT(K:PySem.W.Frag)(T:String)(r:V→List V→Hp→VK→Prop)(to:TE)(t:TA):TE:=fun σ H Q=>to σ H fun x H1=>Fx K T x H1∧t σ H1 fun xs H2=>r x xs H2 Q
variable {o e:Expr}{es:List Expr}{to:TE}{t:TA}{name:Str}{apos cpos:Pos}{T id:String}{r:V→List V→Hp→VK→Prop}
theorem zU(pa:PlainAttrs T)(slot:Slot T name id)(hty:typeOf (.builtin id)=pure (.type "method_descriptor"))(hm:Dv X id r)(ho:PE X o to)(ha:PA X (e::es) t)
 (hbase:attributeBase o name X.env (eval o X.env)=eval o X.env:=by rfl)
 (hfew:((backTo cpos (starEach (e::es) X.env)).all (fun x=> !x.1)&&(backToKw cpos (keywordEach [] X.env)).all (fun x=>x.1.isSome)
   &&decide ((e::es).length+([]:List Keyword).length+(if([]:List Keyword).isEmpty then 0 else 1)<30))=true:=by rfl)
 (hline:(apos.endLine==cpos.line)=true:=by rfl) (hs:starEach (e::es) X.env=(false,eval e X.env)::starEach es X.env:=by rfl) (hplain:(backTo cpos (starEach es X.env)).any (·.1)=false:=by rfl):
 PE X (.Call (.Attribute o name apos) (e::es) [] cpos) (CT X.K T r to t):=by
 intro pins s σ H Q I h
 refine wpAny_Call_method_late hbase hfew hline rfl (bM (ho pins s σ H _ I h) fun v s1 ⟨x,H1,I1,r1,ty,q1⟩=>?_)
 obtain⟨h1,h2⟩:=C4 I1 r1 ty
 refine⟨T,id,pa,slot,hty,h1,h2,?_⟩
 have hA:=ha cpos pins s1 σ H1 _ I1 q1
 rw[hs]at hA⊢
 refine Calls.callWith_builtin (by show(false||(backTo cpos (starEach es X.env)).any (·.1))=false;rw[hplain]<;>rfl) (Calls.evalArgs_plain ?_)
 exact bM hA fun us s2 ⟨vs,H2,I2,r2,q2⟩=>hm pins s2 σ H2 x vs v us Q I2 r1 r2 q2
/-xs.append(e),list.index on a module's tuple .. are Dv facts of 06m-/
end
end L2
namespace L2
open PySem PySem.Spec PyProof.Rows
def Fz(X:Cx)(id:String)(r:V→List V→Hp→VK→Prop):Prop:=
 ∀(pins:List (Addr×Obj)) (s:Shared) (σ:St) (H:Hp) (x:V) (xs:List V) (v:Value) (us:List Value) (Q:VK),Inv X pins σ H s→RelV x v→Vals xs us→r x xs H Q→
  wpAny (model X.prog X.w) X.A (call (.builtin id) (v::us)) (EP X pins σ Q) X.xe s
theorem Vals.one:∀ {x:V} {us:List Value},Vals [x] us→∃u,us=[u]∧RelV x u
 |_,_,.cons r .nil=>⟨_,rfl,r⟩
theorem Vals.rep{xs:List V}{us:List Value}(h:Vals xs us):∀k:Nat,Vals (List.replicate k xs).flatten (List.replicate k us).flatten
 |0=> .nil
 |k+1=>by
  rw[List.replicate_succ,List.replicate_succ,List.flatten_cons,List.flatten_cons]
  exact Vals.append h (Vals.rep h k)
theorem foldl_rep(its:List Value):∀(k:Nat) (acc:List Value),
 List.foldl (fun x1 x2=>x1++x2) acc.toArray (List.replicate k its.toArray)=(acc++(List.replicate k its).flatten).toArray
 |0,acc=>by simp
 |k+1,acc=>by
  have e:acc.toArray++its.toArray=(acc++its).toArray:=by simp
  have e2:(acc++its)++(List.replicate k its).flatten=acc++(List.replicate (k+1) its).flatten:=by
   rw[List.replicate_succ,List.flatten_cons,List.append_assoc]
  rw[←e2,←foldl_rep its k (acc++its),←e,List.replicate_succ,List.foldl_cons]
section
variable {X:Cx}{pins:List (Addr×Obj)}{σ:St}{H:Hp}{s:Shared}{l b:Addr}{xs ys zs:List V}
theorem Inv.BY{its its':List Value}{n:Nat}{f:Array Value→Array Value}{t':Nat}(I:Inv X pins σ H s)(hH:H l=some (.lst xs))
 (e:s.heap.get? l=some {cls:= .type "list",data:= .seq its.toArray n}) (hf:f its.toArray=its'.toArray) (hv:Vals ys its') (hz:ys.length≤sizeLine):
 Inv X pins σ (upd H l (.lst ys)) {s with heap:=s.heap.update l (Obj.mapSeq f),toks:=t'}:=by
 have q:=PySem.IsL.update e f
 rw[hf]at q
 refine I.write (x:=l) (e:=l) (by rw[hH];exact trivial) (.inl rfl) (fun b' u hb hu=>(Heap.get?_update_other s.heap (Obj.mapSeq f) (Ne.symm hb)).trans hu) ⟨_,q⟩ ?_
 exact⟨hz,its',_,hv,q⟩
theorem Inv.zA{its:List Value}{t':Nat}(I:Inv X pins σ H s)(hv:Vals ys its)(hz:ys.length≤sizeLine):
 Inv X pins σ (upd H s.heap.objs.size (.lst ys)) {s with heap:=s.heap.push {cls:= .type "list",data:= .seq its.toArray},toks:=t'}:=
 I.laid (fun _ _ q=>Heap.get?_push_of_some _ q) (Nat.le_refl _) ⟨hz,its,0,hv,Heap.get?_push_size _ rfl⟩
theorem Inv.fresh(I:Inv X pins σ H s):H s.heap.objs.size=none:=I.aL.fresh (Nat.le_refl _)
theorem Inv.CG(I:Inv X pins σ H s)(hH:H l=some (.lst xs)):xs.length≤sizeLine∧∃(its:List Value) (n:Nat),Vals xs its∧xs.length=its.length∧s.heap.get? l=some {cls:= .type "list",data:= .seq its.toArray n}:=by
 obtain⟨z,its,n,r,e⟩:=I.aL l _ hH
 exact⟨z,its,n,r,r.length,e⟩
theorem za{n:Nat}(h:n≤sizeLine):Builtin.List.listTooLong n=false:=by
 unfold Builtin.List.listTooLong
 exact decide_eq_false (by omega)
end
section
variable {X:Cx}
def vk:V→List V→Hp→VK→Prop:=fun x vs H Q=>∃l xs y,x= .ref l∧vs=[y]∧H l=some (.lst xs)∧xs.length<sizeLine∧Q .aJ (upd H l (.lst (xs++[y])))
theorem qr:Fz X "list.append" vk:=by
 intro pins s σ H x vs v us Q I rx rv h
 obtain⟨l,xs,y,rfl,rfl,hH,hz,q⟩:=h
 cases rx
 obtain⟨u,rfl,ru⟩:=rv.one
 obtain⟨z,its,n,r,hl,e⟩:=I.CG hH
 refine call_meets F.slot_list_append ⟨_,e,rfl⟩ F.entry_list_append (F.args_list_append_2 _ _) (PySem.list_append l its.toArray n u (by rw[List.size_toArray];omega)) ⟨e,?_⟩
 refine⟨.aJ,_,I.BY (its':=its++[u]) hH e (by simp) (r.append (.cons ru .nil)) ?_,rfl,q⟩
 rw[List.length_append,List.length_singleton]
 omega
theorem len_rep{α:Type}(xs:List α)(k:Nat):(List.replicate k xs).flatten.length=k*xs.length:=by
 induction k with
 |zero=>simp
 |succ k ih=>rw[List.replicate_succ,List.flatten_cons,List.length_append,ih,Nat.succ_mul,Nat.add_comm]
end
section
variable {prog:Program}{w:World}{A:Around}{E:Value→Shared→Prop}{s:Shared}
set_option maxRecDepth 100000 in
end
section
variable {X:Cx}
end
end L2
namespace Att
open PySem PySem.W PySem.Calls PyProof.Rows
theorem pq{P:Params}{h:Heap}:∀(ns:List Int) (vs:List Value),WellAll P h vs (ns.map WData.int)→IntsAre vs ns:=by
 intro ns
 induction ns with
 |nil=>
  intro vs w
  rw[List.map_nil]at w
  cases w
  exact .nil
 |cons n ns ih=>
  intro vs w
  rw[List.map_cons]at w
  cases w with
  |cons a b=>
   cases a
   exact .cons _ _ (ih _ b)
theorem ye{l:OpenLaw}{n:Nat}(hn:l.most=some n){P:Params}{h:Heap}{args:List WData}{vals:List Value}
 (hpre:l.row.toRowW.claim.pre args=true) (hwl:WellAll P h vals args):
 ∃a vs ns,vals=[Value.ref a]∧args=[WData.list (ns.map WData.int)]∧h.get? a=some {cls:= .type "list",data:= .seq vs.toArray}∧IntsAre vs ns∧ns.length≤n:=by
 have hsh:WShape.hasAll [] args [.list .int]=true:=(pre_splitW hpre).1
 have hc:l.pre.holds [] {args:=args}=true:=(pre_splitW hpre).2
 obtain⟨d,r,rfl,h1,h2⟩:=hasAllW_cons hsh
 obtain rfl:=hasAllW_nil h2
 obtain⟨xs,rfl,h3⟩:=hasW_list h1
 obtain⟨ns,rfl⟩:=items_int h3
 have hlen:ns.length≤n:=by
  unfold OpenLaw.pre at hc
  have h4:(WTm.not (.lt (.lit (.int (n:Int))) (.len (.arg 0)))).holds [] {args:=[.list (ns.map .int)]}=true:=by
   have h4:=(holds_andW hc).1
   rw[hn]at h4
   exact h4
  have h5:=condW_of h4 (w_not (w_lt w_lit (w_len_list (w_arg rfl))))
  rw[List.length_map]at h5
  refine Nat.le_of_not_lt fun q=>?_
  have q':(n:Int)<((ns.length:Nat):Int):=by omega
  first
   |(rw[decide_eq_true q']at h5;exact absurd h5 (by decide))
   |(simp at h5;omega)
 cases hwl with
 |cons w1 w2=>
  cases w2
  cases w1 with
  |list ho hall=>exact⟨_,_,ns,rfl,rfl,ho,pq ns _ hall,hlen⟩
theorem xI(l:OpenLaw)(args:List WData):l.row.toRowW.claim.post args (.bool true) args=true:=
 postW_of (r:=l.row.toRowW) (X:=(true==true))
  (show WShape.has [] (.bool true) .bool=true by first|rfl|decide|simp[WShape.has,WShape.arms,WShape.armsAll])
  (show(WTm.eq .res (.lit (.bool true))).value [] {args:=args,res:=some (.bool true),after:=args}=some (.bool (true==true))from w_eq_bool (w_res rfl) w_lit) rfl
theorem uB{l:OpenLaw}{n:Nat}{q:Program}{loose:List Str}{XP:(Str→Option Value)→Heap→Prop}{YP:World→Heap→Prop}{d:DefRec}
 (hn:l.most=some n) (hdf:d.params.defaults=[])
 (call:∀(w:World) (s₀ s₁:Shared) (mg mb:Str→Option Value) (fa:Addr) (o:Obj) (pm cd doc:Value) (a:Addr) (vs:List Value) (ns:List Int),
   Ground q loose [] XP w s₀ mg mb s₁.heap→YP w s₁.heap→
   s₁.heap.get? fa=some o→o.data= .func (docDef d.name d.params d.body d.scope pm cd doc)→s₁.heap.CodeRec cd d.name→mg d.name=some (.ref fa)→
   s₁.heap.get? a=some {cls:= .type "list",data:= .seq vs.toArray}→IntsAre vs ns→ns.length≤n→s₁.gens= #[]→
   codeAny (model l.prog w) callerA (.call (.ref fa) ⟨[.ref a],[]⟩) (fun r s'=>r= .ok (.ret (.bool true))∧OldK s₁.heap s'.heap∧s'.os=s₁.os∧AllBare s'.gens) s₁):
 WalkO q loose XP YP l.row.toRowW d [] (fun f vs=>PySem.call f vs):=by
 intro w s₀ s₁ mg mb G Y fa o pm cd doc dV kV ho hd hcd hD hmg hg args vals as hpre hlay hrd hwl hlo
 obtain rfl:dV= .none:=Dflts.none hD hdf
 obtain rfl:kV= .none:=Dflts.noKw hD
 obtain⟨a,vs,ns,rfl,rfl,hobj,hints,hlen⟩:=ye hn hpre hwl
 refine enter_call (codeAny_mono (call w s₀ s₁ mg mb fa o pm cd doc a vs ns G Y ho (fd_plain hd) hcd hmg hobj hints hlen hg) fun r s' hq=>?_)
 obtain⟨rfl,h2,h3,h4⟩:=hq
 exact⟨.inl ⟨.bool true,.bool true,[],rfl,fun _=>rfl,.bool true,xI l _,fun _=>⟨List.Pairwise.nil,fun _ hm=>(nomatch hm)⟩⟩,h2,h3,h4⟩
section
variable {prog:Program}{w:World}{A:Around}{E:Value→Shared→Prop}{s:Shared}{K:Frag}
end
end Att
namespace L2
open PySem PySem.Spec PyProof.Rows
end L2
/-THE LAST THEOREM (shape;LID,My.*are yours):
 My.Adr:a structure of the addresses that your layer names (classes,functions);My.Txt K t:a structure (Prop) of the equations over K;
 My.txt_mk:{K} {implicit addresses ..} (e1:nsIn K mainGlobals "law"=some (some (.ref f))) (e2:K.lookup f=some ⟨oc,od,.func (fnOf "law" "law" params body scope dV kV doc pm an cdv ct),sl⟩) (e3:codeIn K cdv "law"=true) .. :∃t,My.Txt K t
set_option maxRecDepth 100000 in
set_option maxHeartbeats 0 in
(the tactic k_is has no namespace:write k_is)-/
namespace L2
open PySem PySem.Spec PyProof.Rows
def inClass(s:Stmt)(j:Nat):Stmt:=match s with
 | .ClassDef _ _ _ body _ _ _ _ _ _ _=>body.getD j (.Pass ⟨0,0,0,0⟩)
 |_=> .Pass ⟨0,0,0,0⟩
def br(s:Stmt):Arguments:=match s with
 | .FunctionDef _ a _ _ _ _ _ _ _ _=>a
 |_=>{posonlyargs:=[],args:=[],vararg:=none,kwonlyargs:=[],kw_defaults:=[],kwarg:=none,defaults:=[]}
def bf(s:Stmt):List Stmt:=match s with
 | .FunctionDef _ _ b _ _ _ _ _ _ _=>b
 |_=>[]
def ai(s:Stmt):Scope:=match s with
 | .FunctionDef _ _ _ _ _ _ sc _ _ _=>sc
 |_=>{kind:= .function,names:=[],isGenerator:=false,isCoroutine:=false}
abbrev aU:oa:=fun _ _ _ _ _ _=>False
abbrev E0:XK:=fun _ _ _=>False
theorem vz{X:Cx}:Passes aU X E0:=fun _ _ _ _ _ _ _ h=>h.elim
structure k_(K:PySem.W.Frag)(x qual:Str)(st:Stmt)(f:Addr)(fd:FuncData):Prop where
 ex:∃(oc:Value) (od:Option Addr) (kV doc pm:Value) (an:Option Addr) (cdv ct:Value) (osl:Array (Option Value)),
  fd=PySem.W.fnOf x qual (br st) (bf st) (ai st) .none kV doc pm an cdv ct∧K.lookup f=some ⟨oc,od,.func fd,osl⟩∧PySem.W.codeIn K cdv qual=true
 kp:PySem.W.keepIn K (.ref f)=true
section
variable {P:Program}{w:World}{K:PySem.W.Frag}{mg:Str→Option Value}{base:Heap}
theorem k_.ok{x qual:Str}{st:Stmt}{f:Addr}{fd:FuncData}{N ps:List Str}{k:Nat}{sp:Sp}(F:k_ K x qual st f fd)(S:bw N ps (ai st))(len:∀vs H Q E,sp vs H Q E→vs.length=ps.length)
 (hbody:∀(cdv:Value) (A:Around) (outer:List Env) (s:Shared) (H:Hp) (vs:List V) (Q:VK) (E:XK),cC k (A.deeper (envOfC qual (ai st) s.heap.objs.size f cdv))→sp vs H Q E→
   ∃t,fK (lB aU P w K mg base N qual (ai st) f cdv A outer s H E).qM (bf st) t∧t {nx:=fun _ H'=>Q .aJ H',rt:=Q} (start N vs) H):aB P w K mg base aU (k+1) f fd ps sp:=by
 obtain⟨oc,od,kV,doc,pm,an,cdv,ct,osl,rfl,lk,hcd⟩:=F.ex
 refine zM lk hcd S len fun A outer s H vs Q E hr hsp=>?_
 obtain⟨t,h,q⟩:=hbody cdv A outer s H vs Q E hr hsp
 exact⟨t,h.qM,q⟩
theorem k_.binds{x qual:Str}{st:Stmt}{f:Addr}{fd:FuncData}{ps:List Str}(F:k_ K x qual st f fd)
 (h:∀(kV doc pm:Value) (an:Option Addr) (cdv ct:Value) (us:List Value),us.length=ps.length→bindArgs (PySem.W.fnOf x qual (br st) (bf st) (ai st) .none kV doc pm an cdv ct) ⟨us,[]⟩=pure (ps.zip us)):Binds K fd ps []:=by
 obtain⟨oc,od,kV,doc,pm,an,cdv,ct,osl,rfl,lk,hcd⟩:=F.ex
 exact .all (h kV doc pm an cdv ct)
theorem cu{x qual:Str}{st:Stmt}{f:Addr}{oc:Value}{od an:Option Addr}{osl:Array (Option Value)}{kV doc pm cdv ct:Value}(l:K.lookup f=some ⟨oc,od,.func (PySem.W.fnOf x qual (br st) (bf st) (ai st) .none kV doc pm an cdv ct),osl⟩)
 (c:PySem.W.codeIn K cdv qual=true) (k:PySem.W.keepIn K (.ref f)=true):k_ K x qual st f (PySem.W.fnOf x qual (br st) (bf st) (ai st) .none kV doc pm an cdv ct):=⟨⟨oc,od,kV,doc,pm,an,cdv,ct,osl,rfl,l,c⟩,k⟩
end
section
variable {X:Cx}
end
theorem e7{A B:Prop}(h:A):if true=true then A else B:=by
 rw[if_pos rfl]
 exact h
def yB(H H':Hp):Prop:=∀b o,H b=some o→H' b=some o
end L2
set_option maxHeartbeats 4000000
namespace L3
open PySem PySem.Spec PyProof.Rows L2
section
variable {prog:Program}{w:World}{A:Around}{R:Result→Shared→Prop}{s:Shared}
theorem uI{elt target iter:Expr}{ifs:List Expr}{scope:Scope}{pos:Pos}{it acc:Value}{env:Env}(I:Nat→Shared→Prop)
 (turn:∀n s,I n s→wpAny (model prog w) A (pyNext it) (fun r s₁=>match r with
   |none=>R (.ok .next) s₁
   |some v=>wpAny (model prog w) A (letOwnedTupleGo target it v) (fun _ s₀=>wpAny (model prog w) A (assign target env v) (fun _ s₂=>
     wpAny (model prog w) A (forIn ifs true fun c r=>if r=true then do let ok ←isTrue c env (eval c env);pure (ForInStep.yield ok)else pure (ForInStep.yield r)) (fun ok s₃=>
      if ok=true then wpAny (model prog w) A (eval elt env) (fun x s₄=>
       wpAny (model prog w) A (call (.builtin "list.append") [acc,x]) (fun _ s₅=>∃m,m<n∧I m s₅) (fun _ _=>False) s₄) (fun _ _=>False) s₃
      else∃m,m<n∧I m s₃) (fun _ _=>False) s₂) (fun _ _=>False) s₀) (fun _ _=>False) s₁) (fun _ _=>False) s)
 (n:Nat) (h:I n s):
 codeAny (model prog w) A (.compLoop (.ListComp elt [⟨target,iter,ifs,0⟩] scope pos) 0 it acc env) R s:=by
 refine codeAny_loop rfl I (fun n s hI=>?_) n h
 show wpAny _ A ((compTurn (.ListComp elt [⟨target,iter,ifs,0⟩] scope pos) 0 it acc env).onRaise (fun x=>do noteFrame x env;theTreesLotGoes x)) _ _ s
 refine wpAny_noted ?_
 rw[compTurn_list]
 refine wpAny_bind (wpAny_standAt (wpAny_bind (wpAny_mono (turn n s hI) (fun r s₁ h₁=>?_) fun _ _ h'=>h'.elim)))
 cases r with
 |none=>exact wpAny_pure h₁
 |some v=>
  refine wpAny_bind (wpAny_mono h₁ (fun _ s₀ h₀=>?_) fun _ _ h'=>h'.elim)
  refine wpAny_bind (wpAny_mono h₀ (fun _ s₂ h₂=>wpAny_bind (wpAny_mono h₂ (fun ok s₃ h₃=>?_) fun _ _ h'=>h'.elim)) fun _ _ h'=>h'.elim)
  cases ok with
  |false=>exact wpAny_pure ⟨rfl,h₃⟩
  |true=>
   exact wpAny_bind (wpAny_bind (wpAny_mono h₃ (fun x s₄ h₄=>wpAny_bind (wpAny_mono h₄ (fun _ s₅ h₅=>wpAny_pure (wpAny_pure ⟨rfl,h₅⟩)) fun _ _ h'=>h'.elim)) fun _ _ h'=>h'.elim))
end
def cQ(cells:List (Str×Addr)):List (Str×NameKind)→List (Str×Addr)→List (Str×Addr)
 | [],acc=>acc
 |(n,k)::r,acc=>if k== .free then(match cells.lookup n with|some c=>cQ cells r ((n,c)::acc)|none=>cQ cells r acc)else cQ cells r acc
theorem cA{cells:List (Str×Addr)}:∀(names:List (Str×NameKind)) (acc:List (Str×Addr)),(∀x c,acc.lookup x=some c→cells.lookup x=some c)→
 ∀x c,(cQ cells names acc).lookup x=some c→cells.lookup x=some c
 | [],acc,h,x,c,e=>h x c e
 |(n,k)::r,acc,h,x,c,e=>by
  unfold cQ at e
  split at e
  · split at e
    · rename_i d q
      refine cA r _ (fun y b e'=>?_) x c e
      rw[List.lookup_cons]at e'
      split at e'
      · rename_i z
        cases e'
        have z':y=n:=by simpa using z
        rw[z'];exact q
      · exact h y b e'
    · exact cA r _ h x c e
  · exact cA r _ h x c e
theorem gD{cells:List (Str×Addr)}{x:Str}:∀(names:List (Str×NameKind)) (acc:List (Str×Addr)),(∃c,cells.lookup x=some c)→((x,NameKind.free)∈names∨∃c,acc.lookup x=some c)→
 ∃c,(cQ cells names acc).lookup x=some c
 | [],acc,_,h=>by
   rcases h with h|h
   · simp at h
   · exact h
 |(n,k)::r,acc,hc,h=>by
  unfold cQ
  split
  · rename_i hk
    split
    · rename_i d q
      refine gD r _ hc ?_
      rcases h with h|⟨c,h⟩
      · rcases List.mem_cons.mp h with e|e
        · cases e
          exact .inr ⟨d,by simp[List.lookup_cons]⟩
        · exact .inl e
      · refine .inr ?_
        rw[List.lookup_cons]
        split
        · exact⟨_,rfl⟩
        · exact⟨c,h⟩
    · rename_i q
      refine gD r _ hc ?_
      rcases h with h|h
      · rcases List.mem_cons.mp h with e|e
        · cases e
          obtain⟨c,hc⟩:=hc
          rw[hc]at q;cases q
        · exact .inl e
      · exact .inr h
  · rename_i hk
    refine gD r _ hc ?_
    rcases h with h|h
    · rcases List.mem_cons.mp h with e|e
      · cases e
        exact absurd rfl hk
      · exact .inl e
    · exact .inr h
theorem jo{scope:Scope}{env:Env}(h:∀x∈scope.names,x.2= .free→∃c,env.cells.lookup x.1=some c):closureFor scope env=pure (cQ env.cells scope.names []):=by
 have key:∀(names:List (Str×NameKind)) (acc:List (Str×Addr)),(∀x∈names,x.2= .free→∃c,env.cells.lookup x.1=some c)→
  (forIn names acc (fun(x:Str×NameKind) (cs:List (Str×Addr))=>if(x.2==NameKind.free)=true then(do let a ←cellOf env x.1;pure (ForInStep.yield ((x.1,a)::cs)):Sem (ForInStep (List (Str×Addr))))else pure (ForInStep.yield cs)))=(pure (cQ env.cells names acc):Sem (List (Str×Addr))):=by
  intro names
  induction names with
  |nil=>intro acc _;rfl
  |cons p r ih=>
   intro acc hh
   obtain⟨n,k⟩:=p
   rw[List.forIn_cons]
   have ih':=ih
   by_cases hk:(k==NameKind.free)=true
   · obtain⟨c,e⟩:=hh (n,k) List.mem_cons_self (by simpa using hk)
     simp only[hk,if_true]
     have e1:cellOf env n=pure c:=by
      unfold cellOf
      rw[e]
     rw[e1]
     simp only[pure_bind]
     rw[ih _ fun x hx=>hh x (List.mem_cons_of_mem _ hx)]
     conv=>rhs;unfold cQ
     simp only[hk,if_true]
     rw[show env.cells.lookup n=some c from e]
   · have hk':(k==NameKind.free)=false:=by simpa using hk
     simp only[hk',Bool.false_eq_true,if_false,pure_bind]
     rw[ih _ fun x hx=>hh x (List.mem_cons_of_mem _ hx)]
     conv=>rhs;unfold cQ
     simp only[hk',Bool.false_eq_true,if_false]
 unfold closureFor
 have:=key scope.names [] h
 rw[bind_pure]
 first
  |exact this
  |(simp only[bind_pure]at this⊢;exact this)
end L3
namespace L3
open PySem PySem.Spec L2
open PyProof.Rows hiding St
theorem gI(env:Env):∀(names:List (Str×NameKind)) (x:Str),
 (names.map fun(n,k)=>if(k==NameKind.free&&env.scope.kind== .function&&env.kindOf n==some .cell)then(n,NameKind.cell)else(n,k)).lookup x=
   (names.lookup x).map fun k=>if(k==NameKind.free&&env.scope.kind== .function&&env.kindOf x==some .cell)then NameKind.cell else k
 | [],_=>rfl
 |(n,k)::r,x=>by
  show List.lookup x ((if(k==NameKind.free&&env.scope.kind== .function&&env.kindOf n==some .cell)=true then(n,NameKind.cell)else(n,k))::_)=_
  cases hx:x==n with
  |true=>
   have e:x=n:=by simpa using hx
   subst e
   by_cases hc:(k==NameKind.free&&env.scope.kind== .function&&env.kindOf x==some .cell)=true
   · rw[if_pos hc];simp only[List.lookup_cons,beq_self_eq_true,Option.map_some];rw[if_pos hc]
   · rw[if_neg hc];simp only[List.lookup_cons,beq_self_eq_true,Option.map_some];rw[if_neg hc]
  |false=>
   by_cases hc:(k==NameKind.free&&env.scope.kind== .function&&env.kindOf n==some .cell)=true
   · rw[if_pos hc];simp only[List.lookup_cons,hx];exact gI env r x
   · rw[if_neg hc];simp only[List.lookup_cons,hx];exact gI env r x
theorem td{env:Env}{scope:Scope}{x:Str}(h:scope.names.lookup x=some .free):(relabel scope env).names.lookup x=some .cell∨(relabel scope env).names.lookup x=some .free:=by
 have e:(relabel scope env).names.lookup x=_:=gI env scope.names x
 rw[e,h]
 simp only[Option.map_some]
 split
 · exact .inl rfl
 · exact .inr rfl
theorem sJ{env:Env}{scope:Scope}{x:Str}(h:(relabel scope env).names.lookup x=some .cell∨(relabel scope env).names.lookup x=some .free):(x,NameKind.free)∈scope.names∨scope.names.lookup x=some .cell:=by
 have e:(relabel scope env).names.lookup x=_:=gI env scope.names x
 rw[e]at h
 cases q:scope.names.lookup x with
 |none=>rw[q]at h;rcases h with h|h<;>cases h
 |some k=>
  rw[q]at h
  simp only[Option.map_some]at h
  have m:=PySem.mem_of_lookup q
  by_cases hc:(k==NameKind.free&&env.scope.kind== .function&&env.kindOf x==some .cell)=true
  · have:k= .free:=by
     simp only[Bool.and_eq_true]at hc
     simpa using hc.1.1
    subst this;exact .inl m
  · rw[if_neg hc]at h
    rcases h with h|h
    · cases h;exact .inr rfl
    · cases h;exact .inl m
theorem fq:∀(names:List (Str×NameKind)) (L:Nat) (acc:List (Str×Addr)),cellsFrom L names acc=cellsFrom L names []++acc
 | [],_,_=>rfl
 |(n,k)::r,L,acc=>by
  unfold cellsFrom
  by_cases hk:(k==NameKind.cell)=true
  · rw[if_pos hk,if_pos hk,fq r (L+1) ((n,L)::acc),fq r (L+1) [(n,L)],List.append_assoc];rfl
  · rw[if_neg hk,if_neg hk];exact fq r L acc
theorem mR:∀ {names:List (Str×NameKind)} {L:Nat} {x:Str} {c:Addr},(x,c)∈cellsFrom L names []→(x,NameKind.cell)∈names
 | [],_,_,_,h=>by unfold cellsFrom at h;cases h
 |(n,k)::r,L,x,c,h=>by
  unfold cellsFrom at h
  by_cases hk:(k==NameKind.cell)=true
  · rw[if_pos hk,fq]at h
    have hk':k= .cell:=by simpa using hk
    subst hk'
    rcases List.mem_append.mp h with h|h
    · exact List.mem_cons_of_mem _ (mR h)
    · have:(x,c)=(n,L):=by simpa using h
      cases this
      exact List.mem_cons_self
  · rw[if_neg hk]at h
    exact List.mem_cons_of_mem _ (mR h)
theorem lK:∀ {l1 l2:List (Str×Addr)} {x:Str} {c:Addr},(l1++l2).lookup x=some c→l1.lookup x=some c∨(l1.lookup x=none∧l2.lookup x=some c)
 | [],_,_,_,h=> .inr ⟨rfl,h⟩
 |(n,d)::l1,l2,x,c,h=>by
  rw[List.cons_append,List.lookup_cons]at h
  rw[List.lookup_cons]
  cases hx:x==n with
  |true=>rw[hx]at h;exact .inl h
  |false=>rw[hx]at h;exact lK h
theorem ot:∀ {l1 l2:List (Str×Addr)} {x:Str},l1.lookup x=none→(l1++l2).lookup x=l2.lookup x
 | [],_,_,_=>rfl
 |(n,d)::l1,l2,x,h=>by
  rw[List.lookup_cons]at h
  rw[List.cons_append,List.lookup_cons]
  cases hx:x==n with
  |true=>rw[hx]at h;cases h
  |false=>rw[hx]at h;exact ot h
def ja(scope:Scope)(C:Addr)(cl:List (Str×Addr)):List (Str×Addr):=cellsFrom (C+1) scope.names cl
theorem gE{scope:Scope}{C:Addr}{cl:List (Str×Addr)}{x:Str}{c:Addr}(h:(ja scope C cl).lookup x=some c):(x,c)∈cellsFrom (C+1) scope.names []∨cl.lookup x=some c:=by
 unfold ja at h
 rw[fq]at h
 rcases lK h with h|h
 · exact .inl (PySem.mem_of_lookup h)
 · exact .inr h.2
theorem Cr(names:List (Str×NameKind))(h:Heap){C:Addr}(e:h.objs.size=C+1):CellsOk (pushCells h names) (C+1) (cellsFrom (C+1) names []):=by
 have:=cellsFrom_ok names h (C+1) [] ⟨fun _ _ hm=>(nomatch hm),List.Pairwise.nil⟩ (by rw[e];exact Nat.le_refl _)
 rw[e]at this
 exact this
theorem jQ{names:List (Str×NameKind)}{C:Addr}{x:Str}{c:Addr}:∀ {L:Nat},C≤L→(x,c)∈cellsFrom L names []→C≤c:=by
 induction names with
 |nil=>intro L _ h;unfold cellsFrom at h;cases h
 |cons p r ih=>
  obtain⟨n,k⟩:=p
  intro L hL h
  unfold cellsFrom at h
  by_cases hk:(k==NameKind.cell)=true
  · rw[if_pos hk,fq]at h
    rcases List.mem_append.mp h with h|h
    · exact ih (Nat.le_trans hL (Nat.le_succ L)) h
    · have:(x,c)=(n,L):=by simpa using h
      cases this
      exact hL
  · rw[if_neg hk]at h
    exact ih hL h
theorem own_apart{names:List (Str×NameKind)}{x y:Str}{c:Addr}:∀ {L:Nat},(x,c)∈cellsFrom L names []→(y,c)∈cellsFrom L names []→x=y:=by
 induction names with
 |nil=>intro L h;unfold cellsFrom at h;cases h
 |cons p r ih=>
  obtain⟨n,k⟩:=p
  intro L h1 h2
  unfold cellsFrom at h1 h2
  by_cases hk:(k==NameKind.cell)=true
  · rw[if_pos hk,fq]at h1 h2
    rcases List.mem_append.mp h1 with g1|g1<;>rcases List.mem_append.mp h2 with g2|g2
    · exact ih g1 g2
    · have e2:(y,c)=(n,L):=by simpa using g2
      have ec:c=L:=(Prod.mk.inj e2).2
      have:=jQ (C:=L+1) (Nat.le_refl _) g1
      rw[ec]at this
      exact absurd this (Nat.not_succ_le_self _)
    · have e1:(x,c)=(n,L):=by simpa using g1
      have ec:c=L:=(Prod.mk.inj e1).2
      have:=jQ (C:=L+1) (Nat.le_refl _) g2
      rw[ec]at this
      exact absurd this (Nat.not_succ_le_self _)
    · have e1:(x,c)=(n,L):=by simpa using g1
      have e2:(y,c)=(n,L):=by simpa using g2
      exact(Prod.mk.inj e1).1.trans (Prod.mk.inj e2).1.symm
  · rw[if_neg hk]at h1 h2
    exact ih h1 h2
theorem oW{M:Model}{A:Around}{E:Value→Shared→Prop}{s:Shared}{scope:Scope}{globals:Addr}{cl:List (Str×Addr)}{qual:Str}{env:Env}{Q:Env→Shared→Prop}
 (hQ:Q (newEnv scope s.heap.objs.size globals (ja scope s.heap.objs.size cl) qual none .none (some env) builtinsNs) {s with heap:=pushCells (s.heap.push {cls:= .type "dict",data:= .dict #[]}) scope.names}):
 wpAny M A (newFunctionEnv scope globals cl [] qual none .none (some env)) Q E s:=by
 simp only[newFunctionEnv,Option.isSome_some,if_true]
 refine wpAny_bind (wpAny_alloc ?_)
 refine wpAny_bind (wpAny_layCells _ (fun name kind cells=>by cases hkc:kind==NameKind.cell<;>simp[hkc]) _ _ _ _ ?_)
 rw[show({s with heap:=s.heap.push {cls:= .type "dict",data:= .dict #[]}}:Shared).heap.objs.size=s.heap.objs.size+1 from Heap.size_push ..]
 rw[List.forIn_nil]
 exact wpAny_bind (wpAny_pure (wpAny_pure hQ))
structure bj(X:Cx)(scope:Scope)(Nc:List Str)(fr:List (Option Nat)):Prop where
 kind:scope.kind= .function
 cells:∀x∈scope.names,x.2= .cell→scope.names.lookup x.1=some .cell
 names:∀x∈scope.names,x.2= .local→scope.names.lookup x.1=some .local
 free:∀x∈scope.names,x.2= .free→X.env.kindOf x.1=some .cell∨X.env.kindOf x.1=some .free
 len:fr.length=Nc.length
 map:∀(i j:Nat) (x:Str),Nc[i]?=some x→fr[i]?=some (some j)→X.N[j]?=some x∧scope.names.lookup x=some .free∧(X.env.kindOf x=some .cell∨X.env.kindOf x=some .free)
def σC(fr:List (Option Nat))(σ:St):St:=fr.map fun o=>o.bind fun j=>(σ[j]?).join
def d8(X:Cx)(scope:Scope)(Nc:List Str)(C:Addr)(s:Shared)(H:Hp)(ex:List Addr):Cx:=
 {X with N:=Nc,s₀:=s,H₀:=H,env:=compEnvC scope (ja scope C (cQ X.env.cells scope.names [])) C X.env,outer:=X.stack,stack:=X.stack,ex:=ex,fn:=fun x=>scope.names.lookup x==some .cell,pn:=[],xe:=fun _ _=>False}
def nv(wi:TI)(fr:List (Option Nat))(g:TG)(c:TT)(te:TE):TE:=fun σ H Q=>wi σ H fun J H1=>∀l,H1 l=none→
 ∃W:Nat→Nat→L2.St→Hp→Prop,(∃m,W 0 m (σC fr σ) (upd H1 l (.lst [])))∧∀i m σ H,W i m σ H→
  (J.stop i H∧Q (.ref l) H)∨(J.go i H∧∃N:L2.St→Hp→Prop,(∀σ' H',N σ' H'→∃m',m'<m∧W (i+1) m' σ' H')∧∀x H',J.mw i H x H'→
    g x σ H' fun σ2 H2=>c σ2 H2 fun b H3=>if b=true then te σ2 H3 fun y H4=>∃ys,H4 l=some (.lst ys)∧ys.length<sizeLine∧N σ2 (upd H4 l (.lst (ys++[y])))else N σ2 H3)
def mY(X:Cx)(ifs:List Expr)(t:TT):Prop:=
 ∀(pins:List (Addr×Obj)) (s:Shared) (σ:St) (H:Hp) (Q:Bool→Hp→Prop),Inv X pins σ H s→t σ H Q→
  wpAny (model X.prog X.w) X.A (forIn ifs true fun c r=>if r=true then do let ok ←isTrue c X.env (eval c X.env);pure (ForInStep.yield ok)else pure (ForInStep.yield r)) (TP X pins σ Q) X.xe s
def DZ:TT:=fun _ H Q=>Q true H
theorem Av{X:Cx}:mY X [] DZ:=fun _ _ _ H _ I h=>wpAny_tests_nil ⟨H,I,h⟩
theorem BH{X:Cx}{c:Expr}{t:TT}(h:PT X c t):mY X [c] t:=fun pins s σ H Q I q=>wpAny_tests_one (h pins s σ H Q I q)
section
variable {X:Cx}{scope:Scope}{Nc:List Str}{fr:List (Option Nat)}{pins:List (Addr×Obj)}{σ:St}{H:Hp}{s:Shared}
theorem Df{C:Addr}{fp:List Addr}(S:bj X scope Nc fr)(I:Inv X pins σ H s)(hC:C=s.heap.objs.size)(hf:∀b∈fp,iQ X pins H b)(hlt:∀b∈fp,b<s.heap.objs.size)(hnc:∀b∈fp,∀x c,X.env.cells.lookup x=some c→c≠b):
 (d8 X scope Nc C s H fp).Ok where
 mod:=I.ok.mod
 kind:=S.kind
 glob:=I.ok.glob
 blt:=I.ok.blt
 above:=Nat.le_of_eq hC.symm
 inj:=fun x y c h1 h2=>by
  have low:∀ {z},(cQ X.env.cells scope.names []).lookup z=some c→c<s.heap.objs.size:=fun{z} hz=>by
   obtain⟨v,q⟩:=I.cell z c (cA _ [] (fun _ _ e=>by cases e) z c hz)
   exact q.lt
  rcases gE h1 with h1|h1<;>rcases gE h2 with h2|h2
  · exact own_apart h1 h2
  · have a:=jQ (C:=C+1) (Nat.le_refl _) h1
    have b:c<C:=by rw[hC];exact low h2
    exact absurd a (Nat.not_le_of_gt (Nat.lt_succ_of_lt b))
  · have a:=jQ (C:=C+1) (Nat.le_refl _) h2
    have b:c<C:=by rw[hC];exact low h1
    exact absurd a (Nat.not_le_of_gt (Nat.lt_succ_of_lt b))
  · exact I.ok.inj x y c (cA _ [] (fun _ _ e=>by cases e) x c h1) (cA _ [] (fun _ _ e=>by cases e) y c h2)
 has:=fun x hx=>by
  rcases sJ hx with m|m
  · obtain⟨c,e⟩:=gD scope.names [] (I.ok.has x (S.free _ m rfl)) (.inl m)
    exact Option.isSome_iff_exists.mp (PySem.W.cellsFrom_some _ _ _ (.inr (by rw[e];rfl)))
  · exact Option.isSome_iff_exists.mp (PySem.W.cellsFrom_some _ _ _ (.inl m))
 sH:=fun x c hf h=>by
  have hl:scope.names.lookup x=some .cell:=by
   have:(scope.names.lookup x==some .cell)=true:=hf
   simpa using this
  obtain⟨c',e⟩:=Option.isSome_iff_exists.mp (PySem.W.cellsFrom_some (x:=x) scope.names (C+1) [] (.inl hl))
  have h':(cellsFrom (C+1) scope.names []++cQ X.env.cells scope.names []).lookup x=some c:=by
   rw[←fq];exact h
  rcases lK h' with q|q
  · have:=jQ (C:=C+1) (Nat.le_refl _) (PySem.mem_of_lookup q)
    show s.heap.objs.size≤c
    rw[←hC];exact Nat.le_of_succ_le this
  · rw[q.1]at e;cases e
 hd:=I.ok.hd
 frames:=I.ok.frames
 uQ:= .inl rfl
 xn:=fun b hb=>⟨by rw[show(d8 X scope Nc C s H fp).env.locals=s.heap.objs.size from hC];exact Nat.ne_of_lt (hlt b hb),fun x c h=>by
  rcases gE h with h|h
  · have a:=jQ (C:=C+1) (Nat.le_refl _) h
    have b':b<C:=by rw[hC];exact hlt b hb
    exact Nat.ne_of_gt (Nat.lt_of_lt_of_le b' (Nat.le_of_succ_le a))
  · exact hnc b hb x c (cA _ [] (fun _ _ e=>by cases e) x c h)⟩
 bs:=I.bs
 nh:=Nat.le_trans I.ok.nh I.sz
 oZ:=fun b o e hb=>by
  have hn:=(hf b hb).2.2.2.1
  rcases hn with hn|hn
  · exact I.ok.oZ b o e hn
  · exact absurd (Heap.lt_size (I.ok.bs b o e).1) (Nat.not_lt.mpr hn)
 oK:=fun b hb z=>by
  have q:=I.sL b z
  rcases List.mem_cons.mp q with q|q
  · exact(hf b hb).2.1 q
  · exact(hf b hb).2.2.1 q
 iy:=I.stack
 pX:=fun b hb=>I.p_ b hb
 gt:=I.ok.gt
theorem vc{i:Nat}{v:V}(h:(σC fr σ)[i]?=some (some v)):∃j,fr[i]?=some (some j)∧σ[j]?=some (some v):=by
 unfold σC at h
 rw[List.getElem?_map]at h
 cases q:fr[i]? with
 |none=>rw[q]at h;cases h
 |some o=>
  rw[q]at h
  cases o with
  |none=>simp at h
  |some j=>
   simp only[Option.map_some,Option.some.injEq,Option.bind_some]at h
   refine⟨j,rfl,?_⟩
   cases r:σ[j]? with
   |none=>rw[r]at h;cases h
   |some u=>rw[r]at h;simp at h;rw[h]
theorem yU{s':Shared}{h':Heap}{C:Addr}{fp:List Addr}{t':Nat}(S:bj X scope Nc fr)(I:Inv X pins σ H s)(hC:C=s.heap.objs.size)(ok:(d8 X scope Nc C s H fp).Ok)(hfr:∀b∈fp,H b=none)
 (k:∀b o,s.heap.get? b=some o→h'.get? b=some o) (hn:h'.Ns C (fun _=>none)) (hcs:∀x c,(x,c)∈cellsFrom (C+1) scope.names []→h'.IsCell c none):Inv (d8 X scope Nc C s H fp) [] (σC fr σ) H {s with heap:=h',toks:=t'} where
 ok:=ok
 os:=rfl
 bare:=I.bare
 base:=Un.kept k
 loc:=⟨_,hn,fun i x v h1 h2 h3=>by
  obtain⟨j,q1,q2⟩:=vc h2
  obtain⟨n1,n2,n3⟩:=S.map i j x h1 q1
  obtain⟨m,hm,hl⟩:=I.loc
  have vis:sW X.env.scope x:=by
   rcases n3 with z|z
   · exact .inr (.inl z)
   · exact .inr (.inr z)
  obtain⟨u,r,lk⟩:=hl j x v n1 q2 vis
  refine⟨u,r,?_⟩
  rcases lk with⟨z,_⟩|⟨z,c,e,ic⟩
  · rcases n3 with y|y
    · rw[y]at z;cases z
    · rw[y]at z;cases z
  · refine .inr ⟨td n2,?_⟩
    obtain⟨c',e'⟩:=gD scope.names [] ⟨c,e⟩ (.inl (PySem.mem_of_lookup n2))
    have e2:=cA _ [] (fun _ _ e=>by cases e) x c' e'
    rw[e]at e2;cases e2
    refine⟨c,?_,ic.keeps k⟩
    show(ja scope C (cQ X.env.cells scope.names [])).lookup x=some c
    unfold ja
    rw[fq,ot ?_]
    · exact e'
    · cases q:(cellsFrom (C+1) scope.names []).lookup x with
      |none=>rfl
      |some c2=>
       have:=S.cells _ (mR (PySem.mem_of_lookup q)) rfl
       rw[n2]at this;cases this⟩
 cell:=fun x c h=>by
  rcases gE h with h|h
  · exact⟨_,hcs x c h⟩
  obtain⟨v,q⟩:=I.cell x c (cA _ [] (fun _ _ e=>by cases e) x c h)
  exact⟨v,q.keeps k⟩
 free:=by show H C=none;rw[hC];exact I.aL.fresh (Nat.le_refl _)
 gj:=fun x c h=>by
  rcases gE h with h|h
  · have a:=jQ (C:=C+1) (Nat.le_refl _) h
    exact I.aL.fresh (by rw[←hC];exact Nat.le_of_succ_le a)
  · exact I.gj x c (cA _ [] (fun _ _ e=>by cases e) x c h)
 pin:=fun p hp=>by cases hp
 aL:=I.aL.kept k
 len:=by unfold σC;rw[List.length_map];exact S.len
theorem Inv.forget{C:Addr}{h':Heap}(I:Inv X pins σ H s)(f:iQ X pins H C)(hs:Heap.SameBut C s.heap h'):Inv X pins σ H {s with heap:=h'}:=by
 refine I.vA (s':={s with heap:=h'}) (ch:=[C]) rfl ?_ ?_ I.bare fun b hb=>?_
 · have ne:∀b,b∉[C]→b≠C:=fun b hb z=>hb (by simp[z])
   exact{keep:=fun b o q _ _ hx=>(hs.2 b (ne b hx)).trans q,slot:=fun b o q _ _ hx=>⟨o.slots,(hs.2 b (ne b hx)).trans q⟩,free:=fun b o q n _=>n,there:=fun b o q hx=>⟨o,(hs.2 b (ne b hx)).trans q⟩,kK:=fun _ _ e=>e,jX:=fun _ _ _ e=>e,jY:=fun b ps e=>⟨#[],by rw[e];simp⟩}
 · intro a o q
   have na:∀b u,H b=some u→b≠C:=fun b u q z=>by rw[z,f.1]at q;cases q
   refine(I.aL a o q).kI (fun b u hb e=>?_) (fun _ q=>q) fun _ _ q=>q
   rw[hs.2 b ?_]
   · exact e
   · rcases hb with rfl|hb
     · exact na _ _ q
     · exact na _ _ hb
 · have:b=C:=by simpa using hb
   subst this
   exact⟨f.2.2.2.1,f.2.1,f.2.2.2.2.1,f.2.2.2.2.2⟩
theorem pW{elt tg iter:Expr}{ifs:List Expr}{wi:TI}{g:TG}{c:TT}{te:TE}{pos:Pos}{Q:VK}{RR:Value→Addr→Result→Shared→Prop}(hx:X.xe=fun _ _=>False)(hc:X.calm=true)(S:bj X scope Nc fr)(hi:PI X tg iter wi)
 (hg:∀C s H ex,PG (d8 X scope Nc C s H ex) tg g) (ht:∀C s H ex,mY (d8 X scope Nc C s H ex) ifs c) (he:∀C s H ex,PE (d8 X scope Nc C s H ex) elt te) (I:Inv X pins σ H s) (h:nv wi fr g c te σ H Q)
 (fin:∀(l C:Addr) (s6:Shared) (H5:Hp) (m:Str→Option Value),s6.heap.Ns C m→iQ X pins H5 C→Inv X pins σ H5 s6→Q (.ref l) H5→RR (.ref l) C (.ok .next) s6):
 wpAny (model X.prog X.w) X.A (eval iter X.env) (fun x s₁=>wpAny (model X.prog X.w) X.A (pyIter x) (fun it s₂=>wpAny (model X.prog X.w) X.A (newList []) (fun acc s₃=>
  wpAny (model X.prog X.w) X.A (newFunctionEnv scope X.env.globals (cQ X.env.cells scope.names []) [] X.env.qual none .none (some X.env)) (fun cenv s₄=>
   codeAny (model X.prog X.w) X.A (.compStart (.ListComp elt [⟨tg,iter,ifs,0⟩] scope pos) 0 it acc {cenv with scope:=relabel scope X.env}) (RR acc cenv.locals) s₄) X.xe s₃) X.xe s₂) X.xe s₁) X.xe s:=by
 refine bM (hi pins s σ H _ I h) fun v s1 h1=>bM h1 fun itv s2 h2=>?_
 obtain⟨it,fp,tn,J,H2,e,I2,T,st2,f2,hR⟩:=h2
 subst e
 refine wpAny_newList ?_ (Nat.zero_le _)
 have I3:=I2.zA (t':=s2.toks) (its:=[]) (ys:=[]) .nil (Nat.zero_le _)
 generalize e3:({s2 with heap:=s2.heap.push {cls:= .type "list",data:= .seq ([]:List Value).toArray}}:Shared)=s3
 have I3:Inv X pins σ (upd H2 s2.heap.objs.size (.lst [])) s3:=by rw[←e3];exact I3
 have ml:s2.heap.objs.size<s3.heap.objs.size:=by rw[←e3];show _<(s2.heap.push _).objs.size;rw[Heap.size_push];omega
 have k3:∀b o,s2.heap.get? b=some o→s3.heap.get? b=some o:=fun b o q=>by rw[←e3];exact Heap.get?_push_of_some _ q
 obtain⟨W,⟨m0,w0⟩,turn⟩:=hR s2.heap.objs.size (I2.aL.fresh (Nat.le_refl _))
 refine oW ?_
 have hn:(pushCells (s3.heap.push {cls:= .type "dict",data:= .dict #[]}) scope.names).Ns s3.heap.objs.size (fun _=>none):=(Heap.Ns.new s3.heap (.type "dict")).keeps (pushCells_keeps _ _)
 have hcs:∀x c,(x,c)∈cellsFrom (s3.heap.objs.size+1) scope.names []→(pushCells (s3.heap.push {cls:= .type "dict",data:= .dict #[]}) scope.names).IsCell c none:=fun x c h=>((Cr scope.names _ (Heap.size_push ..)).empty x c h).1
 have k4:∀b o,s3.heap.get? b=some o→(pushCells (s3.heap.push {cls:= .type "dict",data:= .dict #[]}) scope.names).get? b=some o:=fun b o q=>pushCells_keeps _ _ b o (Heap.get?_push_of_some _ q)
 generalize(pushCells (s3.heap.push {cls:= .type "dict",data:= .dict #[]}) scope.names)=h' at hn hcs k4⊢
 have hobj:∀b∈fp,∃o,s2.heap.get? b=some o∧∀v,o.data≠ .cell v:=T.obj _ _ st2
 have hlt2:∀b∈fp,b<s3.heap.objs.size:=fun b hb=>let⟨o,q,_⟩:=hobj b hb;Heap.lt_size (k3 b o q)
 have hnl:∀b∈fp,b≠s2.heap.objs.size:=fun b hb=>by
  obtain⟨o,q,_⟩:=hobj b hb
  exact Nat.ne_of_lt (Heap.lt_size q)
 have f3:∀b∈fp,iQ X pins (upd H2 s2.heap.objs.size (.lst [])) b:=fun b hb=>⟨by rw[aD (hnl b hb)];exact(f2 b hb).1,(f2 b hb).2⟩
 have ok:=Df (C:=s3.heap.objs.size) (fp:=fp) S I3 rfl f3 hlt2 fun b hb=>(f2 b hb).2.2.2.2.1
 have I4:Inv (d8 X scope Nc s3.heap.objs.size s3 (upd H2 s2.heap.objs.size (.lst [])) fp) [] (σC fr σ) (upd H2 s2.heap.objs.size (.lst [])) {s3 with heap:=h',toks:=s3.toks}:=
  yU (s':=s3) S I3 rfl ok (fun b hb=>(f3 b hb).1) k4 hn hcs
 have st4:tn 0 h':=T.keep _ _ _ st2 fun b _ o q=>k4 b o (k3 b o q)
 generalize hXc:d8 X scope Nc s3.heap.objs.size s3 (upd H2 s2.heap.objs.size (.lst [])) fp=Xc at I4
 have hgc:PG Xc tg g:=by rw[←hXc];exact hg _ _ _ _
 have htc:mY Xc ifs c:=by rw[←hXc];exact ht _ _ _ _
 have hec:PE Xc elt te:=by rw[←hXc];exact he _ _ _ _
 have xP:Xc.prog=X.prog:=by rw[←hXc];rfl
 have xW:Xc.w=X.w:=by rw[←hXc];rfl
 have xK:Xc.K=X.K:=by rw[←hXc];rfl
 have xc:Xc.calm=true:=by rw[←hXc];exact hc
 have xA:Xc.A=X.A:=by rw[←hXc];rfl
 have xE:Xc.env=compEnvC scope (ja scope s3.heap.objs.size (cQ X.env.cells scope.names [])) s3.heap.objs.size X.env:=by rw[←hXc];rfl
 have xx:Xc.xe=fun _ _=>False:=by rw[←hXc];rfl
 have fpc:∀ {H':Hp},(∀b∈fp,H' b=none)→∀b∈fp,iQ Xc [] H' b:=fun{H'} hn b hb=>by
  rw[←hXc]
  refine⟨hn b hb,Nat.ne_of_lt (hlt2 b hb),ok.oK b hb,.inl hb,(ok.xn b hb).2,fun p hp=>by cases hp⟩
 have loop:codeAny (model X.prog X.w) X.A (.compLoop (.ListComp elt [⟨tg,iter,ifs,0⟩] scope pos) 0 (.ref it) (.ref s2.heap.objs.size) (compEnvC scope (ja scope s3.heap.objs.size (cQ X.env.cells scope.names [])) s3.heap.objs.size X.env))
  (RR (.ref s2.heap.objs.size) s3.heap.objs.size) {s3 with heap:=h',toks:=s3.toks}:=by
  refine uI (fun n s'=>∃i σ' H',Inv Xc [] σ' H' s'∧tn i s'.heap∧(∀b∈fp,H' b=none)∧W i n σ' H') ?_ m0 ⟨0,_,_,I4,st4,fun b hb=>(f3 b hb).1,w0⟩
  rintro n s5 ⟨i,σ5,H5,I5,st5,fr5,w5⟩
  rcases turn i n σ5 H5 w5 with⟨stop,qn⟩|⟨go,N,hN,step⟩
  · have q:=T.done Xc xP xW xK xc i [] s5 σ5 H5 (fun _ _=>False) I5 (fpc fr5) st5 stop
    rw[xA]at q
    refine bM q fun r s6 ⟨hr,I6⟩=>?_
    subst hr
    obtain⟨m,hm,_⟩:=I6.loc
    rw[xE]at hm
    have free6:H5 s3.heap.objs.size=none:=by have:=I6.free;rw[xE]at this;exact this
    have un6:Un (lh X.stack) fp (upd H2 s2.heap.objs.size (.lst [])) H5 s3.heap s6.heap:=by have:=I6.base;rw[←hXc]at this;exact this
    have os6:s6.os=s3.os:=by have:=I6.os;rw[←hXc]at this;exact this
    have hok6:fT X.prog X.w H5 s6.heap:=by have:=I6.aL;rw[xP,xW]at this;exact this
    have J:=I3.vA (s':=s6) (ch:=fp) os6 un6 hok6 I6.bare fun b hb=>⟨(f3 b hb).2.2.2.1,(f3 b hb).2.1,(f3 b hb).2.2.2.2.1,(f3 b hb).2.2.2.2.2⟩
    exact fin _ _ s6 H5 m hm (I3.rV (Nat.le_refl _) free6) J qn
  · have q:=T.item Xc xP xW xK xc i [] s5 σ5 H5 (fun _ _=>False) I5 (fpc fr5) st5 go
    rw[xA]at q
    refine bM q fun r s6 ⟨u,hr,h6⟩=>?_
    subst hr
    refine bM h6 fun _ s7 ⟨x,H7,I7,r7,y7,st7,fr7⟩=>?_
    have I7':=I7.pinned (fpc fr7) (T.obj _ _ st7)
    have q8:=hgc _ s7 σ5 H7 x u _ I7' r7 (step x H7 y7)
    rw[xP,xW,xA,xE,xx]at q8
    refine bM q8 fun _ s8 ⟨σ8,H8,I8,q8⟩=>?_
    have q9:=htc _ s8 σ8 H8 _ I8 q8
    rw[xP,xW,xA,xE,xx]at q9
    refine bM q9 fun b s9 ⟨H9,I9,q9⟩=>?_
    have again:∀ {H':Hp} {s':Shared},Inv Xc ([]++mZ fp s7.heap) σ8 H' s'→N σ8 H'→∃m,m<n∧∃i σ' H',Inv Xc [] σ' H' s'∧tn i s'.heap∧(∀b∈fp,H' b=none)∧W i m σ' H':=fun{H' s'} J nn=>by
     obtain⟨m',hm,w7⟩:=hN σ8 H' nn
     refine⟨m',hm,i+1,σ8,H',J.fQ,T.keep _ _ _ st7 fun b hb o e=>(J.pin (b,o) (List.mem_append_right _ (List.mem_append_right _ (jD hb e)))).1,fun b hb=>?_,w7⟩
     obtain⟨o,e,d⟩:=T.obj _ _ st7 b hb
     exact(J.pin (b,o) (List.mem_append_right _ (List.mem_append_right _ (jD hb e)))).2.1
    cases b with
    |false=>exact again I9 q9
    |true=>
     have qe:=hec _ s9 σ8 H9 _ I9 q9
     rw[xP,xW,xA,xE,xx]at qe
     refine bM qe fun y s10 ⟨vy,H10,I10,ry,ys,hy,hlt,qN⟩=>?_
     have qa:=qr (X:=Xc) _ s10 σ8 H10 (.ref s2.heap.objs.size) [vy] (.ref s2.heap.objs.size) [y] (fun _ H'=>N σ8 H') I10 rfl (.cons ry .nil) ⟨_,ys,vy,rfl,rfl,hy,hlt,qN⟩
     rw[xP,xW,xA,xx]at qa
     exact bM qa fun _ s11 ⟨_,H11,I11,_,q11⟩=>again I11 q11
 refine codeAny_compStart_list ?_ ?_
 · exact loop
 · exact T.self _ 0 _ _ _ st4 loop
theorem va{elt tg iter:Expr}{ifs:List Expr}{wi:TI}{g:TG}{c:TT}{te:TE}{pos:Pos}(hx:X.xe=fun _ _=>False)(hc:X.calm=true)(S:bj X scope Nc fr)(hi:PI X tg iter wi)
 (hg:∀C s H ex,PG (d8 X scope Nc C s H ex) tg g) (ht:∀C s H ex,mY (d8 X scope Nc C s H ex) ifs c) (he:∀C s H ex,PE (d8 X scope Nc C s H ex) elt te)
 (hs:∀x,foldedSetIterable iter X.env x=pure x:=by intro _;rfl):PE X (.ListComp elt [⟨tg,iter,ifs,0⟩] scope pos) (nv wi fr g c te):=by
 intro pins s σ H Q I h
 rw[eval_ListComp]
 have hcl:closureFor scope X.env=pure (cQ X.env.cells scope.names []):=jo fun x hx hk=>I.ok.has x.1 (S.free x hx hk)
 refine wpAny_comprehension_free rfl hs hcl S.kind S.names ?_
 exact pW (RR:=fun acc C=>compPost (model X.prog X.w) X.A X.xe none (EP X pins σ Q) acc C) hx hc S hi hg ht he I h fun l C s6 H5 m hm f J q=>⟨m,hm,fun h'' hs''=>⟨.ref l,H5,Inv.forget J f hs'',rfl,q⟩⟩
theorem vj{elt tg iter:Expr}{ifs:List Expr}{wi:TI}{g:TG}{c:TT}{te:TE}{pos pos' spos:Pos}{i:Nat}{x:Str}(hx:X.xe=fun _ _=>False)(hc:X.calm=true)(S:bj X scope Nc fr)(hi:PI X tg iter wi)
 (hg:∀C s H ex,PG (d8 X scope Nc C s H ex) tg g) (ht:∀C s H ex,mY (d8 X scope Nc C s H ex) ifs c) (he:∀C s H ex,PE (d8 X scope Nc C s H ex) elt te) (hN:X.N.Nodup) (hni:X.N[i]?=some x) (hl:Loc X.env.scope x) (hf:X.fn x=true∨X.env.scope.names.lookup x=some .local)
 (hsw:swapsWith (.ListComp elt [⟨tg,iter,ifs,0⟩] scope pos) (some (.Name x pos')) spos.line X.env=pure true)
 (hs:∀x,foldedSetIterable iter X.env x=pure x:=by intro _;rfl):PS X (.Assign [.Name x pos'] (.ListComp elt [⟨tg,iter,ifs,0⟩] scope pos) spos) (iR (nv wi fr g c te) (i4 i)):=by
 intro pins s σ H D I h
 have hcl:closureFor scope X.env=pure (cQ X.env.cells scope.names []):=jo fun x hx hk=>I.ok.has x.1 (S.free x hx hk)
 rw[exec_Assign_Name_used _ _ _ _ hsw]
 refine wpAny_bind (wpAny_standAt (wpAny_bind ?_))
 show wpAny _ X.A (do let _ ←comprehension (.ListComp elt [⟨tg,iter,ifs,0⟩] scope pos) scope X.env _ (newList []) false (eval iter X.env) (some (assign (.Name x pos') X.env))) _ _ s
 refine wpAny_bind (wpAny_mono (wpAny_comprehension_free (use:=some (assign (.Name x pos') X.env)) (Q:=fun _ s'=>SP X pins D .next s') rfl hs hcl S.kind S.names
  (pW (RR:=fun acc C=>compPost (model X.prog X.w) X.A X.xe (some (assign (.Name x pos') X.env)) (fun _ s'=>SP X pins D .next s') acc C) hx hc S hi hg ht he I h fun l C s6 H5 m hm f J q=>?_)) (fun _ s' hq=>wpAny_pure (wpAny_pure hq)) fun _ _ e=>e)
 show wpAny _ X.A (assign (.Name x pos') X.env (.ref l)) _ _ _
 refine wpAny_assign_Name (qw J hN hni hl (show RelV (.ref l) (.ref l)from rfl) (fun s7 J7 hch=>?_) hf)
 obtain⟨a,hsame,ha⟩:=hch
 have hCa:C≠a:=by
  rcases ha with rfl|ha
  · exact f.2.1
  · exact fun z=>f.2.2.2.2.1 x a ha z.symm
 refine⟨m,hm.sameBut hsame hCa,fun h'' hs''=>⟨σ.set i (some (.ref l)),H5,Inv.forget J7 f hs'',q⟩⟩
end
end L3
namespace L3
open PySem PySem.Spec L2
open PyProof.Rows hiding St
inductive D where
 |aJ|bl (b:Bool)|int (i:Int)|str (x:Str)|ty (n:String)|ref (n:Nat)|lst (xs:List D)|tup (xs:List D)
inductive Cell where
 |lst (xs:List D)|ins (C:Addr) (fs:List (Str×D))|dead
  |tab (P:Addr) (pos:Pos) (qual:Str) (b:Bool)
abbrev af:=List Cell
abbrev bF:=List (Option D)
mutual
def Rep(α:List (Option Addr))(H:Hp):D→V→Prop
 | .aJ,v=>v= .aJ
 | .bl b,v=>v= .bl b
 | .int i,v=>v= .int i
 | .str x,v=>v= .str x
 | .ty n,v=>v= .ty n
 | .ref n,v=>α[n]?=some none∨∃a,α[n]?=some (some a)∧v= .ref a
 | .lst xs,v=>∃a vs,v= .ref a∧some a∉α∧Rd H a (.lst vs)∧aH α H xs vs
 | .tup xs,v=>∃a vs,v= .ref a∧some a∉α∧H a=some (.tup vs)∧aH α H xs vs
def aH(α:List (Option Addr))(H:Hp):List D→List V→Prop
 | [],vs=>vs=[]
 |d::ds,vs=>∃v r,vs=v::r∧Rep α H d v∧aH α H ds r
end
theorem ba{α:List (Option Addr)}{H:Hp}:∀ {ds:List D} {vs:List V},aH α H ds vs↔Paired (Rep α H) ds vs
 | [],vs=>by
   unfold aH
   constructor
   · rintro rfl;exact .nil
   · intro h;cases h;rfl
 |d::ds,vs=>by
  unfold aH
  constructor
  · rintro⟨v,r,rfl,h1,h2⟩;exact .cons h1 (ba.mp h2)
  · intro h;cases h with|cons h1 h2=>exact⟨_,_,rfl,h1,ba.mpr h2⟩
section
variable {α:List (Option Addr)}{H:Hp}
theorem aH.length{ds:List D}{vs:List V}(h:aH α H ds vs):ds.length=vs.length:=Paired.length (ba.mp h)
theorem o_{A B:Type}{F:A→B→Prop}:∀ {xs:List A} {ys:List B} {i:Nat} {x:A},Paired F xs ys→xs[i]?=some x→∃y,ys[i]?=some y∧F x y
 |_,_,_,_,.nil,e=>by simp at e
 |_,_,0,_,.cons r _,e=>by simp at e;subst e;exact⟨_,rfl,r⟩
 |_,_,i+1,x,.cons _ t,e=>by
  obtain⟨u,h1,h2⟩:=o_ (i:=i) (x:=x) t (by simpa using e)
  exact⟨u,by simpa using h1,h2⟩
theorem fc{A B:Type}{F:A→B→Prop}:∀ {xs xs':List A} {ys ys':List B},Paired F xs ys→Paired F xs' ys'→Paired F (xs++xs') (ys++ys')
 |_,_,_,_,.nil,s=>s
 |_,_,_,_,.cons r t,s=> .cons r (fc t s)
theorem oy{A B:Type}{F:A→B→Prop}:∀ {xs:List A} {ys:List B} (n:Nat),Paired F xs ys→Paired F (xs.take n) (ys.take n)
 |_,_,0,_=> .nil
 |_,_,_+1,.nil=> .nil
 |_,_,n+1,.cons r t=> .cons r (oy n t)
theorem oh{A B:Type}{F:A→B→Prop}:∀ {xs:List A} {ys:List B} (n:Nat),Paired F xs ys→Paired F (xs.drop n) (ys.drop n)
 |_,_,0,r=>r
 |_,_,_+1,.nil=> .nil
 |_,_,n+1,.cons _ t=>oh n t
theorem lD{A B:Type}{F:A→B→Prop}{x:A}{y:B}(r:F x y):∀ {xs:List A} {ys:List B} (i:Nat),Paired F xs ys→Paired F (xs.set i x) (ys.set i y)
 |_,_,_,.nil=> .nil
 |_,_,0,.cons _ t=> .cons r t
 |_,_,i+1,.cons q t=> .cons q (lD r i t)
theorem kD{A B:Type}{F:A→B→Prop}{xs:List A}{ys:List B}(h:Paired F xs ys):∀k:Nat,Paired F (List.replicate k xs).flatten (List.replicate k ys).flatten
 |0=> .nil
 |k+1=>by
  rw[List.replicate_succ,List.replicate_succ,List.flatten_cons,List.flatten_cons]
  exact fc h (kD h k)
theorem aH.get{ds:List D}{vs:List V}{i:Nat}{d:D}(h:aH α H ds vs)(e:ds[i]?=some d):∃v,vs[i]?=some v∧Rep α H d v:=o_ (ba.mp h) e
end
structure Step(α:List (Option Addr))(H:Hp)(α':List (Option Addr))(H':Hp):Prop where
 ext:∀b o,some b∉α→H b=some o→H' b=some o
 pre:∀(n:Nat) (x:Option Addr),α[n]?=some x→α'[n]?=some x∨α'[n]?=some none
 new:∀b,some b∈α'→some b∉α→H b=none
theorem Step.refl{α:List (Option Addr)}{H:Hp}:Step α H α H:=⟨fun _ _ _ h=>h,fun _ _ h=> .inl h,fun _ h n=>absurd h n⟩
theorem Step.trans{α α1 α2:List (Option Addr)}{H H1 H2:Hp}(a:Step α H α1 H1)(b:Step α1 H1 α2 H2):Step α H α2 H2 where
 ext:=fun c o hc e=>b.ext c o (fun z=>by rw[a.new c z hc]at e;cases e) (a.ext c o hc e)
 pre:=fun n x e=>by
  rcases a.pre n x e with h|h
  · exact b.pre n x h
  · rcases b.pre n none h with h'|h'
    · exact .inr h'
    · exact .inr h'
 new:=fun c hc n=>by
  by_cases h1:some c∈α1
  · exact a.new c h1 n
  · have:=b.new c hc h1
    cases q:H c with
    |none=>rfl
    |some o=>rw[a.ext c o n q]at this;cases this
theorem Step.laid{α:List (Option Addr)}{H:Hp}{p:Addr}{o:HO}(h:H p=none):Step α H α (upd H p o):=
 ⟨fun b u _ e=>by rw[aD (cV e h)];exact e,fun _ _ h=> .inl h,fun _ h n=>absurd h n⟩
theorem Step.cell{α:List (Option Addr)}{H:Hp}{p:Addr}{o:HO}(h:H p=none):Step α H (α++[some p]) (upd H p o):=
 ⟨fun b u _ e=>by rw[aD (cV e h)];exact e,fun n x e=> .inl (by rw[List.getElem?_append_left (List.getElem?_eq_some_iff.mp e).1];exact e),fun b hb n=>by
  rcases List.mem_append.mp hb with z|z
  · exact absurd z n
  · have:b=p:=by simpa using z
    subst this;exact h⟩
theorem Step.write{α:List (Option Addr)}{H:Hp}{p:Addr}{o:HO}(h:some p∈α):Step α H α (upd H p o):=
 ⟨fun b u n e=>by rw[aD (fun z=>by subst z;exact n h)];exact e,fun _ _ h=> .inl h,fun _ h n=>absurd h n⟩
mutual
theorem Rep.step{α α':List (Option Addr)}{H H':Hp}(s:Step α H α' H'):∀ {d:D} {v:V},Rep α H d v→Rep α' H' d v
 | .aJ,_,h=>by unfold Rep at h⊢;exact h
 | .bl _,_,h=>by unfold Rep at h⊢;exact h
 | .int _,_,h=>by unfold Rep at h⊢;exact h
 | .str _,_,h=>by unfold Rep at h⊢;exact h
 | .ty _,_,h=>by unfold Rep at h⊢;exact h
 | .ref n,_,h=>by
   unfold Rep at h⊢
   rcases h with h|⟨a,e,r⟩
   · rcases s.pre _ _ h with z|z<;>exact .inl z
   · rcases s.pre _ _ e with z|z
     · exact .inr ⟨a,z,r⟩
     · exact .inl z
 | .lst xs,_,h=>by
   unfold Rep at h⊢
   obtain⟨a,vs,e,n,r,q⟩:=h
   refine⟨a,vs,e,fun z=>?_,?_,aH.step s q⟩
   · have:=s.new a z n
     rcases r with r|⟨o,r⟩<;>(rw[this]at r;cases r)
   · rcases r with r|⟨o,r⟩
     · exact .inl (s.ext _ _ n r)
     · exact .inr ⟨o,s.ext _ _ n r⟩
 | .tup xs,_,h=>by
   unfold Rep at h⊢
   obtain⟨a,vs,e,n,r,q⟩:=h
   exact⟨a,vs,e,(fun z=>by rw[s.new a z n]at r;exact nomatch r),s.ext _ _ n r,aH.step s q⟩
theorem aH.step{α α':List (Option Addr)}{H H':Hp}(s:Step α H α' H'):∀ {ds:List D} {vs:List V},aH α H ds vs→aH α' H' ds vs
 | [],_,h=>by unfold aH at h⊢;exact h
 |d::ds,_,h=>by
  unfold aH at h⊢
  obtain⟨v,r,e,h1,h2⟩:=h
  exact⟨v,r,e,Rep.step s h1,aH.step s h2⟩
end
structure bL(G F H:Hp):Prop where
 eq:∀b,H b=(G b).or (F b)
 se:∀b o,G b=some o→F b=none
section
variable {G F H:Hp}
theorem bL.get(P:bL G F H){b:Addr}{o:HO}(h:G b=some o):H b=some o:=by rw[P.eq b,h];rfl
theorem bL.same(P:bL G F H):yB G H:=fun _ _ h=>P.get h
theorem bL.none(P:bL G F H){b:Addr}(h:H b=none):G b=none∧F b=none:=by
 have e:=P.eq b
 rw[h]at e
 cases q:G b with
 |none=>rw[q]at e;exact⟨rfl,e.symm⟩
 |some o=>rw[q]at e;cases e
theorem bL.frame(P:bL G F H){b:Addr}{o:HO}(h:F b=some o):H b=some o∧G b=Option.none:=by
 have hn:G b=Option.none:=by
  cases q:G b with
  |none=>rfl
  |some u=>rw[P.se b u q]at h;cases h
 exact⟨by rw[P.eq b,hn,h];rfl,hn⟩
theorem bL.laid(P:bL G F H){p:Addr}{o:HO}(h:H p=Option.none):bL (upd G p o) F (upd H p o):=by
 obtain⟨h1,h2⟩:=P.none h
 refine⟨fun b=>?_,fun b u e=>?_⟩
 · by_cases hb:b=p
   · subst hb;rw[aO,aO];rfl
   · rw[aD hb,aD hb];exact P.eq b
 · by_cases hb:b=p
   · subst hb;exact h2
   · rw[aD hb]at e;exact P.se b u e
theorem bL.write(P:bL G F H){p:Addr}{o o':HO}(h:G p=some o):bL (upd G p o') F (upd H p o'):=by
 refine⟨fun b=>?_,fun b u e=>?_⟩
 · by_cases hb:b=p
   · subst hb;rw[aO,aO];rfl
   · rw[aD hb,aD hb];exact P.eq b
 · by_cases hb:b=p
   · subst hb;exact P.se b o h
   · rw[aD hb]at e;exact P.se b u e
theorem bL.hide(P:bL G F H){p:Addr}{o:HO}(h:H p=Option.none):bL G (upd F p o) (upd H p o):=by
 obtain⟨h1,h2⟩:=P.none h
 refine⟨fun b=>?_,fun b u e=>?_⟩
 · by_cases hb:b=p
   · subst hb;rw[aO,aO,h1];rfl
   · rw[aD hb,aD hb];exact P.eq b
 · by_cases hb:b=p
   · subst hb;rw[h1]at e;cases e
   · rw[aD hb];exact P.se b u e
theorem bL.GN(P:bL G F H){p:Addr}{o o':HO}(h:F p=some o):bL G (upd F p o') (upd H p o'):=by
 have h1:=(P.frame h).2
 refine⟨fun b=>?_,fun b u e=>?_⟩
 · by_cases hb:b=p
   · subst hb;rw[aO,aO,h1];rfl
   · rw[aD hb,aD hb];exact P.eq b
 · by_cases hb:b=p
   · subst hb;rw[h1]at e;cases e
   · rw[aD hb];exact P.se b u e
theorem bL.show{p:Addr}{o:HO}(P:bL G (upd F p o) H)(h:F p=Option.none):bL (upd G p o) F H:=by
 have h1:=(P.frame (b:=p) aO)
 refine⟨fun b=>?_,fun b u e=>?_⟩
 · by_cases hb:b=p
   · subst hb;rw[aO,h1.1];rfl
   · rw[aD hb,P.eq b,aD hb]
 · by_cases hb:b=p
   · subst hb;exact h
   · rw[aD hb]at e
     have:=P.se b u e
     rw[aD hb]at this;exact this
end
mutual
theorem Rep.mono{α:List (Option Addr)}{G H:Hp}(s:yB G H):∀ {d:D} {v:V},Rep α G d v→Rep α H d v
 | .aJ,_,h=>by unfold Rep at h⊢;exact h
 | .bl _,_,h=>by unfold Rep at h⊢;exact h
 | .int _,_,h=>by unfold Rep at h⊢;exact h
 | .str _,_,h=>by unfold Rep at h⊢;exact h
 | .ty _,_,h=>by unfold Rep at h⊢;exact h
 | .ref n,_,h=>by unfold Rep at h⊢;exact h
 | .lst xs,_,h=>by
   unfold Rep at h⊢
   obtain⟨a,vs,e,n,r,q⟩:=h
   refine⟨a,vs,e,n,?_,aH.mono s q⟩
   rcases r with r|⟨o,r⟩
   · exact .inl (s _ _ r)
   · exact .inr ⟨o,s _ _ r⟩
 | .tup xs,_,h=>by
   unfold Rep at h⊢
   obtain⟨a,vs,e,n,r,q⟩:=h
   exact⟨a,vs,e,n,s _ _ r,aH.mono s q⟩
theorem aH.mono{α:List (Option Addr)}{G H:Hp}(s:yB G H):∀ {ds:List D} {vs:List V},aH α G ds vs→aH α H ds vs
 | [],_,h=>by unfold aH at h⊢;exact h
 |d::ds,_,h=>by
  unfold aH at h⊢
  obtain⟨v,r,e,h1,h2⟩:=h
  exact⟨v,r,e,Rep.mono s h1,aH.mono s h2⟩
end
def g9(α:List (Option Addr))(H:Hp):List (Str×D)→List (Str×V)→Prop:=Paired fun p q=>p.1=q.1∧Rep α H p.2 q.2
def iG(α:List (Option Addr))(H:Hp)(a:Addr):Cell→Prop
 | .lst xs=>∃vs,H a=some (.lst vs)∧aH α H xs vs
 | .ins C fs=>∃dx vs,H a=some (.ins C dx vs)∧g9 α H fs vs
 | .dead=>False
 | .tab P pos qual b=>a=P∧∃ps:Array Value,H a=some (.ir ps)∧TriplesOk ps.toList∧
    ((b=false∧codeAmong pos ps.toList=none)∨(b=true∧∃c o vs t,codeAmong pos ps.toList=some (.ref c)∧some c∉α∧H c=some (.ix o (.own c))∧o.data= .fields vs∧vs[1]?=some (.str qual t)))
structure aR(α:List (Option Addr))(st:af)(H:Hp):Prop where
 len:α.length=st.length
 nd:∀(i j:Nat) (a:Addr),α[i]?=some (some a)→α[j]?=some (some a)→i=j
 at':∀(n:Nat) (c:Cell),st[n]?=some c→(c= .dead∧α[n]?=some none)∨∃a,α[n]?=some (some a)∧iG α H a c
theorem g9.step{α α':List (Option Addr)}{H H':Hp}(s:Step α H α' H'){ds:List (Str×D)}{vs:List (Str×V)}(h:g9 α H ds vs):g9 α' H' ds vs:=Paired.zy h fun _ _ z=>⟨z.1,z.2.step s⟩
theorem iG.same{α α':List (Option Addr)}{H H':Hp}{a:Addr}{c:Cell}(s:Step α H α' H')(e:H' a=H a)(h:iG α H a c):iG α' H' a c:=by
 cases c with
 |lst xs=>obtain⟨vs,h1,h2⟩:=h;exact⟨vs,e.trans h1,h2.step s⟩
 |ins C fs=>obtain⟨dx,vs,h1,h2⟩:=h;exact⟨dx,vs,e.trans h1,h2.step s⟩
 |dead=>exact h.elim
 |tab P pos qual b=>
  obtain⟨z,ps,h1,h2,h3⟩:=h
  refine⟨z,ps,e.trans h1,h2,?_⟩
  rcases h3 with h3|⟨hb,c,o,vs,t,q1,q2,q3,q4⟩
  · exact .inl h3
  · exact .inr ⟨hb,c,o,vs,t,q1,(fun y=>by rw[s.new c y q2]at q3;cases q3),s.ext c _ q2 q3,q4⟩
theorem iG.some{α:List (Option Addr)}{H:Hp}{a:Addr}{c:Cell}(h:iG α H a c):∃o,H a=some o:=by
 cases c with
 |lst xs=>obtain⟨vs,h1,h2⟩:=h;exact⟨_,h1⟩
 |ins C fs=>obtain⟨dx,vs,h1,h2⟩:=h;exact⟨_,h1⟩
 |dead=>exact h.elim
 |tab P pos qual b=>obtain⟨_,ps,h1,_⟩:=h;exact⟨_,h1⟩
theorem et{α:List (Option Addr)}{H:Hp}{n:Nat}{v:V}{a:Addr}(e:α[n]?=Option.some (Option.some a))(r:Rep α H (.ref n) v):v= .ref a:=by
 unfold Rep at r
 rcases r with r|⟨b,eb,rfl⟩
 · rw[e]at r;cases r
 · rw[e]at eb;cases eb;rfl
section
variable {α:List (Option Addr)}{st:af}{H:Hp}
theorem aR.gd(S:aR α st H){n:Nat}{xs:List D}(e:st[n]?=Option.some (.lst xs)):∃a,α[n]?=Option.some (Option.some a)∧∃vs,H a=Option.some (.lst vs)∧aH α H xs vs:=by
 rcases S.at' n _ e with⟨z,_⟩|z
 · cases z
 · exact z
theorem aR.vG(S:aR α st H){n:Nat}{C:Addr}{fs:List (Str×D)}(e:st[n]?=Option.some (.ins C fs)):∃a,α[n]?=Option.some (Option.some a)∧∃dx vs,H a=Option.some (.ins C dx vs)∧g9 α H fs vs:=by
 rcases S.at' n _ e with⟨z,_⟩|z
 · cases z
 · exact z
theorem aR.mem(S:aR α st H){a:Addr}(h:Option.some a∈α):∃(n:Nat) (c:Cell),α[n]?=Option.some (Option.some a)∧st[n]?=Option.some c∧iG α H a c:=by
 obtain⟨n,hn,e⟩:=List.mem_iff_getElem.mp h
 have hl:n<st.length:=by rw[←S.len];exact hn
 have e':α[n]?=Option.some (Option.some a):=by rw[List.getElem?_eq_getElem hn,e]
 rcases S.at' n st[n] (by simp[hl])with⟨_,q⟩|⟨a',q,ca⟩
 · rw[e']at q;cases q
 · rw[e']at q;cases q
   exact⟨n,_,e',by simp[hl],ca⟩
theorem aR.i3(S:aR α st H){p:Addr}(h:H p=none):Option.some p∉α:=fun z=>by
 obtain⟨n,c,_,_,ca⟩:=S.mem z
 obtain⟨o,e⟩:=ca.some
 rw[h]at e;cases e
theorem aR.laid(S:aR α st H){p:Addr}{o:HO}(h:H p=none):aR α st (upd H p o):=
 ⟨S.len,S.nd,fun n c e=>by
  rcases S.at' n c e with z|⟨a,q,ca⟩
  · exact .inl z
  · exact .inr ⟨a,q,ca.same (Step.laid h) (aD (by obtain⟨u,z⟩:=ca.some;exact cV z h))⟩⟩
theorem aR.cell(S:aR α st H){p:Addr}{o:HO}{c:Cell}(h:H p=none)(hc:iG (α++[Option.some p]) (upd H p o) p c):aR (α++[Option.some p]) (st++[c]) (upd H p o) where
 len:=by rw[List.length_append,List.length_append,S.len];rfl
 nd:=fun i j a ei ej=>by
  have key:∀(i:Nat) (a:Addr),(α++[Option.some p])[i]?=Option.some (Option.some a)→(i<α.length∧α[i]?=Option.some (Option.some a))∨(i=α.length∧a=p):=by
   intro i a e
   by_cases hi:i<α.length
   · rw[List.getElem?_append_left hi]at e;exact .inl ⟨hi,e⟩
   · rw[List.getElem?_append_right (Nat.le_of_not_lt hi)]at e
     have h0:i-α.length=0:=by
      cases q:i-α.length with
      |zero=>rfl
      |succ k=>rw[q]at e;simp at e
     rw[h0]at e
     have:p=a:=by simpa using e
     exact .inr ⟨by omega,this.symm⟩
  rcases key i a ei with⟨h1,e1⟩|⟨h1,e1⟩<;>rcases key j a ej with⟨h2,e2⟩|⟨h2,e2⟩
  · exact S.nd i j a e1 e2
  · subst e2;exact absurd (List.mem_of_getElem? e1) (S.i3 h)
  · subst e1;exact absurd (List.mem_of_getElem? e2) (S.i3 h)
  · omega
 at':=fun n d e=>by
  by_cases hn:n<st.length
  · rw[List.getElem?_append_left hn]at e
    have hl:n<α.length:=by rw[S.len];exact hn
    rcases S.at' n d e with⟨z,q⟩|⟨a,q,ca⟩
    · exact .inl ⟨z,by rw[List.getElem?_append_left hl];exact q⟩
    · exact .inr ⟨a,by rw[List.getElem?_append_left hl];exact q,ca.same (Step.cell h) (aD (by obtain⟨u,z⟩:=ca.some;exact cV z h))⟩
  · rw[List.getElem?_append_right (Nat.le_of_not_lt hn)]at e
    have h0:n-st.length=0:=by
     cases q:n-st.length with
     |zero=>rfl
     |succ k=>rw[q]at e;simp at e
    rw[h0]at e
    have hd:c=d:=by simpa using e
    subst hd
    refine .inr ⟨p,?_,hc⟩
    rw[List.getElem?_append_right (by rw[S.len];exact Nat.le_of_not_lt hn),S.len,h0]
    rfl
theorem aR.write(S:aR α st H){p:Addr}{o:HO}{c:Cell}{n:Nat}(e:α[n]?=Option.some (Option.some p))(hc:iG α (upd H p o) p c):aR α (st.set n c) (upd H p o) where
 len:=by rw[List.length_set];exact S.len
 nd:=S.nd
 at':=fun m d q=>by
  have hp:Option.some p∈α:=List.mem_of_getElem? e
  by_cases hm:m=n
  · subst hm
    have hl:m<st.length:=by
     have:=(List.getElem?_eq_some_iff.mp q).1
     rw[List.length_set]at this;exact this
    rw[List.getElem?_set_self hl]at q
    cases q
    exact .inr ⟨p,e,hc⟩
  · rw[List.getElem?_set_ne (Ne.symm hm)]at q
    rcases S.at' m d q with z|⟨a,r,ca⟩
    · exact .inl z
    · refine .inr ⟨a,r,ca.same (Step.write hp) (aD fun z=>?_)⟩
      subst z
      exact hm (S.nd m n _ r e)
end
end L3
namespace L3
open PySem PySem.Spec L2
open PyProof.Rows hiding St
abbrev DK:=D→af→Prop
abbrev DE:=bF→af→DK→Prop
abbrev DT:=bF→af→(Bool→af→Prop)→Prop
abbrev DA:=bF→af→(List D→af→Prop)→Prop
structure jE where
 nx:bF→af→Prop
 rt:DK
 bk:bF→af→Prop:=fun _ _=>False
 ct:bF→af→Prop:=fun _ _=>False
abbrev DS:=jE→bF→af→Prop
structure dt(α:List (Option Addr))(H:Hp)(σd:bF)(σ:L2.St):Prop where
 len:σd.length=σ.length
 at':∀(i:Nat) (d:D),σd[i]?=some (some d)→∃v,σ[i]?=some (some v)∧Rep α H d v
theorem dt.step{α α':List (Option Addr)}{H H':Hp}{σd:bF}{σ:L2.St}(s:Step α H α' H')(h:dt α H σd σ):dt α' H' σd σ:=
 ⟨h.len,fun i d e=>let⟨v,q,r⟩:=h.at' i d e;⟨v,q,r.step s⟩⟩
theorem dt.set{α:List (Option Addr)}{H:Hp}{σd:bF}{σ:L2.St}(h:dt α H σd σ)(i:Nat){d:D}{v:V}(r:Rep α H d v):dt α H (σd.set i (some d)) (σ.set i (some v)):=by
 refine⟨by rw[List.length_set,List.length_set,h.len],fun j e q=>?_⟩
 have hl:=h.len
 by_cases hj:j=i
 · subst hj
   have hlt:j<σd.length:=by
    have:=(List.getElem?_eq_some_iff.mp q).1
    rw[List.length_set]at this;exact this
   rw[List.getElem?_set_self hlt]at q
   cases q
   exact⟨v,List.getElem?_set_self (by omega),r⟩
 · rw[List.getElem?_set_ne (Ne.symm hj)]at q
   rw[List.getElem?_set_ne (Ne.symm hj)]
   exact h.at' j e q
def LK(α:List (Option Addr))(G F:Hp)(K:DK)(Q:VK):Prop:=∀d st',K d st'→∀α' G' H' v,Step α G α' G'→bL G' F H'→aR α' st' G'→Rep α' G' d v→Q v H'
def Ab(α:List (Option Addr))(G F:Hp)(K:Bool→af→Prop)(Q:Bool→Hp→Prop):Prop:=∀b st',K b st'→∀α' G' H',Step α G α' G'→bL G' F H'→aR α' st' G'→Q b H'
def GL(α:List (Option Addr))(G F:Hp)(K:List D→af→Prop)(Q:List V→Hp→Prop):Prop:=∀ds st',K ds st'→∀α' G' H' vs,Step α G α' G'→bL G' F H'→aR α' st' G'→aH α' G' ds vs→Q vs H'
inductive Fw(t:DE)(σ:L2.St)(H:Hp)(Q:VK):Prop
 |mk (α:List (Option Addr)) (σd:bF) (st:af) (K:DK) (G F:Hp) (P:bL G F H) (R:dt α G σd σ) (S:aR α st G) (h:t σd st K) (k:LK α G F K Q):Fw t σ H Q
def LE(t:DE):TE:=Fw t
inductive FF(t:DT)(σ:L2.St)(H:Hp)(Q:Bool→Hp→Prop):Prop
 |mk (α:List (Option Addr)) (σd:bF) (st:af) (K:Bool→af→Prop) (G F:Hp) (P:bL G F H) (R:dt α G σd σ) (S:aR α st G) (h:t σd st K) (k:Ab α G F K Q):FF t σ H Q
def LT(t:DT):TT:=FF t
inductive Fl(t:DA)(σ:L2.St)(H:Hp)(Q:List V→Hp→Prop):Prop
 |mk (α:List (Option Addr)) (σd:bF) (st:af) (K:List D→af→Prop) (G F:Hp) (P:bL G F H) (R:dt α G σd σ) (S:aR α st G) (h:t σd st K) (k:GL α G F K Q):Fl t σ H Q
def LA(t:DA):TA:=Fl t
theorem LK.here{α:List (Option Addr)}{G F H:Hp}{K:DK}{Q:VK}(h:LK α G F K Q)(P:bL G F H){d:D}{st:af}{v:V}(k:K d st)(S:aR α st G)(r:Rep α G d v):Q v H:=h d st k α G H v Step.refl P S r
theorem LK.at{α α1:List (Option Addr)}{G F G1:Hp}{K:DK}{Q:VK}(h:LK α G F K Q)(s:Step α G α1 G1):LK α1 G1 F K Q:=fun d st' k α' G' H' v s' P S r=>h d st' k α' G' H' v (s.trans s') P S r
theorem Ab.at{α α1:List (Option Addr)}{G F G1:Hp}{K:Bool→af→Prop}{Q:Bool→Hp→Prop}(h:Ab α G F K Q)(s:Step α G α1 G1):Ab α1 G1 F K Q:=fun d st' k α' G' H' s' P S=>h d st' k α' G' H' (s.trans s') P S
section
variable {X:Cx}{a b c e:Expr}{es:List Expr}{ta tb tc te:DE}{pos:Pos}
theorem PE.imp{t t':TE}(h:PE X e t)(f:∀σ H Q,t' σ H Q→t σ H Q):PE X e t':=fun pins s σ H Q I q=>h pins s σ H Q I (f σ H Q q)
theorem PT.imp{t t':TT}(h:PT X e t)(f:∀σ H Q,t' σ H Q→t σ H Q):PT X e t':=fun pins s σ H Q I q=>h pins s σ H Q I (f σ H Q q)
theorem PW.imp{t t':TT}(h:PW X e t)(f:∀σ H Q,t' σ H Q→t σ H Q):PW X e t':=fun w pins s σ H Q I q=>h w pins s σ H Q I (f σ H Q q)
theorem PA.imp{t t':TA}(h:PA X es t)(f:∀σ H Q,t' σ H Q→t σ H Q):PA X es t':=fun p pins s σ H Q I q=>h p pins s σ H Q I (f σ H Q q)
def aa(i:Nat):DE:=fun σ st K=>match σ[i]? with|some (some d)=>K d st|_=>False
def dC(d:D):DE:=fun _ st K=>K d st
theorem EG{i:Nat}{x:Str}(h:PE X (.Name x pos) (CI i)):PE X (.Name x pos) (LE (aa i)):=PE.imp h fun σ H Q ⟨α,σd,st,K,G,F,P,R,S,t,k⟩=>by
 unfold aa at t
 split at t
 · rename_i d q
   obtain⟨v,e,r⟩:=R.at' i d q
   exact⟨v,e,k.here P t S r⟩
 · exact t.elim
theorem uR{v:V}{d:D}(h:PE X e (tC v))(r:∀α H,Rep α H d v):PE X e (LE (dC d)):=PE.imp h fun σ H Q ⟨α,σd,st,K,G,F,P,R,S,t,k⟩=>k.here P t S (r α G)
theorem DW{i:Int}{j:Nat}:PE X (.Constant (.int i) j pos) (LE (dC (.int i))):=uR Di fun _ _=>by unfold Rep;rfl
theorem FV{i:Bool}{j:Nat}:PE X (.Constant (.bool i) j pos) (LE (dC (.bl i))):=uR EX fun _ _=>by unfold Rep;rfl
abbrev dJ:=D→D→af→DK→Prop
abbrev rR:=D→af→DK→Prop
abbrev gZ:=List D→af→DK→Prop
inductive Fg(r:dJ)(x y:V)(H:Hp)(Q:VK):Prop
 |mk (α:List (Option Addr)) (d e:D) (st:af) (K:DK) (G F:Hp) (P:bL G F H) (rx:Rep α G d x) (ry:Rep α G e y) (S:aR α st G) (h:r d e st K) (k:LK α G F K Q):Fg r x y H Q
def LR(r:dJ):R2:=Fg r
inductive C2(r:rR)(x:V)(H:Hp)(Q:VK):Prop
 |mk (α:List (Option Addr)) (d:D) (st:af) (K:DK) (G F:Hp) (P:bL G F H) (rx:Rep α G d x) (S:aR α st G) (h:r d st K) (k:LK α G F K Q):C2 r x H Q
def z_(r:rR):V→Hp→VK→Prop:=C2 r
inductive Dd(r:gZ)(xs:List V)(H:Hp)(Q:VK):Prop
 |mk (α:List (Option Addr)) (ds:List D) (st:af) (K:DK) (G F:Hp) (P:bL G F H) (rx:aH α G ds xs) (S:aR α st G) (h:r ds st K) (k:LK α G F K Q):Dd r xs H Q
def jn(r:gZ):List V→Hp→VK→Prop:=Dd r
def au(r:dJ)(ta tb:DE):DE:=fun σ st K=>ta σ st fun x st1=>tb σ st1 fun y st2=>r x y st2 K
def lg(r:rR)(ta:DE):DE:=fun σ st K=>ta σ st fun x st1=>r x st1 K
theorem LE.op{r:dJ}{σ:L2.St}{H:Hp}{Q:VK}(h:LE (au r ta tb) σ H Q):xj (LR r) (LE ta) (LE tb) σ H Q:=by
 obtain⟨α,σd,st,K,G,F,P,R,S,t,k⟩:=h
 refine⟨α,σd,st,_,G,F,P,R,S,t,fun d st1 q α1 G1 H1 v s1 P1 S1 r1=>?_⟩
 refine⟨α1,σd,st1,_,G1,F,P1,R.step s1,S1,q,fun d2 st2 q2 α2 G2 H2 v2 s2 P2 S2 r2=>?_⟩
 exact⟨α2,d,d2,st2,K,G2,F,P2,r1.step s2,r2,S2,q2,(k.at s1).at s2⟩
theorem LE.un{r:rR}{σ:L2.St}{H:Hp}{Q:VK}(h:LE (lg r ta) σ H Q):Fj (z_ r) (LE ta) σ H Q:=by
 obtain⟨α,σd,st,K,G,F,P,R,S,t,k⟩:=h
 refine⟨α,σd,st,_,G,F,P,R,S,t,fun d st1 q α1 G1 H1 v s1 P1 S1 r1=>?_⟩
 exact⟨α1,d,st1,K,G1,F,P1,r1,S1,q,k.at s1⟩
theorem Gf{op:Operator}{r:dJ}(ho:cm X (binaryOp op) (LR r))(ha:PE X a (LE ta))(hb:PE X b (LE tb)):PE X (.BinOp a op b pos) (LE (au r ta tb)):=PE.imp (ET ho ha hb) fun _ _ _ h=>LE.op h
theorem Gv{op:UnaryOp}{r:rR}(ho:u4 X (unaryOp op) (z_ r))(ha:PE X a (LE ta)):PE X (.UnaryOp op a pos) (LE (lg r ta)):=PE.imp (D_ ho ha) fun _ _ _ h=>LE.un h
theorem EA{op:CmpOp}{r:dJ}(ho:cm X (compareOp op) (LR r))(ha:PE X a (LE ta))(hb:PE X b (LE tb))(hm:behindInMarks op b=false:=by first|exact bB _|rfl):PE X (.Compare a [op] [b] pos) (LE (au r ta tb)):=PE.imp (A8 ho ha hb hm) fun _ _ _ h=>LE.op h
def bS(t:DE):DT:=fun σ st K=>t σ st fun d st1=>match d with| .bl b=>K b st1|_=>False
theorem LT.test{σ:L2.St}{H:Hp}{Q:Bool→Hp→Prop}(h:LT (bS te) σ H Q):LE te σ H fun x H'=>∃k,x= .bl k∧Q k H':=by
 obtain⟨α,σd,st,K,G,F,P,R,S,t,k⟩:=h
 refine⟨α,σd,st,_,G,F,P,R,S,t,fun d st1 q α1 G1 H1 v s1 P1 S1 r1=>?_⟩
 cases d with
 |bl b=>
  unfold Rep at r1
  exact⟨b,r1,k b st1 q α1 G1 H1 s1 P1 S1⟩
 |_=>exact q.elim
theorem C8{op:CmpOp}{r:dJ}(ho:cm X (compareOp op) (LR r))(ha:PE X a (LE ta))(hb:PE X b (LE tb))(hm:behindInMarks op b=false:=by first|exact bB _|rfl):PT X (.Compare a [op] [b] pos) (LT (bS (au r ta tb))):=PT.imp (A9 ho ha hb hm) fun σ H Q h=>by
 have q:=LT.test h
 exact LE.op (Q:=fun x H'=>∃k,x= .bl k∧Q k H') q
theorem CW(he:PE X e (LE te))(hv:∀whole,isTrue e X.env whole=(do let v ←whole;standAt e.pos;holding [v] (truthy v)):=by intro _;rfl):PT X e (LT (bS te)):=PT.imp (CQ he hv) fun σ H Q h=>LT.test h
def vB(t:DT):DT:=fun σ st K=>t σ st fun b st1=>K (!b) st1
def kg(t u:DT):DT:=fun σ st K=>t σ st fun b st1=>if b=true then u σ st1 K else K false st1
def sh(t u:DT):DT:=fun σ st K=>t σ st fun b st1=>if b=true then K true st1 else u σ st1 K
theorem DB{t:DT}(ha:PT X a (LT t)):PT X (.UnaryOp .Not a pos) (LT (vB t)):=PT.imp (Dt ha) fun σ H Q ⟨α,σd,st,K,G,F,P,R,S,t,k⟩=>
 ⟨α,σd,st,_,G,F,P,R,S,t,fun b st1 q α1 G1 H1 s1 P1 S1=>k _ st1 q α1 G1 H1 s1 P1 S1⟩
theorem LT.and{t u:DT}{σ:L2.St}{H:Hp}{Q:Bool→Hp→Prop}(h:LT (kg t u) σ H Q):BN (LT t) (LT u) σ H Q:=by
 obtain⟨α,σd,st,K,G,F,P,R,S,t,k⟩:=h
 refine⟨α,σd,st,_,G,F,P,R,S,t,fun b st1 q α1 G1 H1 s1 P1 S1=>?_⟩
 cases b with
 |true=>exact⟨α1,σd,st1,K,G1,F,P1,R.step s1,S1,q,k.at s1⟩
 |false=>exact k _ st1 q α1 G1 H1 s1 P1 S1
theorem LT.or{t u:DT}{σ:L2.St}{H:Hp}{Q:Bool→Hp→Prop}(h:LT (sh t u) σ H Q):FE (LT t) (LT u) σ H Q:=by
 obtain⟨α,σd,st,K,G,F,P,R,S,t,k⟩:=h
 refine⟨α,σd,st,_,G,F,P,R,S,t,fun b st1 q α1 G1 H1 s1 P1 S1=>?_⟩
 cases b with
 |false=>exact⟨α1,σd,st1,K,G1,F,P1,R.step s1,S1,q,k.at s1⟩
 |true=>exact k _ st1 q α1 G1 H1 s1 P1 S1
theorem Be{t:DT}(ha:PT X a (LT t)):PW X (.BoolOp .And [a] pos) (LT t):=pw_and1 ha
theorem CP{t:DT}(ha:PT X a (LT t)):PW X (.BoolOp .Or [a] pos) (LT t):=pw_or1 ha
theorem C_{t u:DT}(ha:PT X a (LT t))(hb:PW X (.BoolOp .And (b::es) pos) (LT u)):PW X (.BoolOp .And (a::b::es) pos) (LT (kg t u)):=PW.imp (pw_and ha hb) fun _ _ _ h=>LT.and h
theorem Eh{t u:DT}(ha:PT X a (LT t))(hb:PW X (.BoolOp .Or (b::es) pos) (LT u)):PW X (.BoolOp .Or (a::b::es) pos) (LT (sh t u)):=PW.imp (pw_or ha hb) fun _ _ _ h=>LT.or h
def vS(ta tb:DE):DE:=fun σ st K=>ta σ st fun d st1=>match d with| .bl b=>if b=true then tb σ st1 K else K (.bl false) st1|_=>False
theorem Ey{op:BoolOp}(ha:PE X a (LE ta)):PE X (.BoolOp op [a] pos) (LE ta):=Cf ha
theorem Ea(ha:PE X a (LE ta))(hb:PE X (.BoolOp .And (b::es) pos) (LE tb)):PE X (.BoolOp .And (a::b::es) pos) (LE (vS ta tb)):=PE.imp (BZ ha hb) fun σ H Q ⟨α,σd,st,K,G,F,P,R,S,t,k⟩=>by
 refine⟨α,σd,st,_,G,F,P,R,S,t,fun d st1 q α1 G1 H1 v s1 P1 S1 r1=>?_⟩
 cases d with
 |bl b=>
  unfold Rep at r1
  refine⟨b,r1,?_⟩
  cases b with
  |true=>exact⟨α1,σd,st1,K,G1,F,P1,R.step s1,S1,q,k.at s1⟩
  |false=>exact k _ st1 q α1 G1 H1 _ s1 P1 S1 (by unfold Rep;rfl)
 |_=>exact q.elim
def Cs(t:DT)(ta tb:DE):DE:=fun σ st K=>t σ st fun b st1=>if b=true then ta σ st1 K else tb σ st1 K
theorem Ew{t:DT}(hc:PT X c (LT t))(ha:PE X a (LE ta))(hb:PE X b (LE tb)):PE X (.IfExp c a b pos) (LE (Cs t ta tb)):=PE.imp (zz hc ha hb) fun σ H Q ⟨α,σd,st,K,G,F,P,R,S,t,k⟩=>by
 refine⟨α,σd,st,_,G,F,P,R,S,t,fun b st1 q α1 G1 H1 s1 P1 S1=>?_⟩
 cases b with
 |true=>exact⟨α1,σd,st1,K,G1,F,P1,R.step s1,S1,q,k.at s1⟩
 |false=>exact⟨α1,σd,st1,K,G1,F,P1,R.step s1,S1,q,k.at s1⟩
def av:DA:=fun _ st K=>K [] st
def ag(ta:DE)(tr:DA):DA:=fun σ st K=>ta σ st fun x st1=>tr σ st1 fun xs st2=>K (x::xs) st2
theorem pG:PA X [] (LA av):=PA.imp DC fun σ H Q ⟨α,σd,st,K,G,F,P,R,S,t,k⟩=>k [] st t α G H [] Step.refl P S (by unfold aH;rfl)
theorem kT{tr:DA}(ha:PE X e (LE te))(hr:PA X es (LA tr))(hs:starEach (e::es) X.env=(false,eval e X.env)::starEach es X.env:=by rfl):PA X (e::es) (LA (ag te tr)):=PA.imp (AL ha hr hs) fun σ H Q ⟨α,σd,st,K,G,F,P,R,S,t,k⟩=>by
 refine⟨α,σd,st,_,G,F,P,R,S,t,fun d st1 q α1 G1 H1 v s1 P1 S1 r1=>?_⟩
 refine⟨α1,σd,st1,_,G1,F,P1,R.step s1,S1,q,fun ds st2 q2 α2 G2 H2 vs s2 P2 S2 r2=>?_⟩
 exact k _ st2 q2 α2 G2 H2 (v::vs) (s1.trans s2) P2 S2 (by unfold aH;exact⟨v,vs,rfl,r1.step s2,r2⟩)
def h_(t:DA):DE:=fun σ st K=>t σ st fun ds st1=>ds.length≤sizeLine∧K (.tup ds) st1
def oC(t:DA):DE:=fun σ st K=>t σ st fun ds st1=>ds.length≤sizeLine∧K (.lst ds) st1
def vR(t:DA):DE:=fun σ st K=>t σ st fun ds st1=>ds.length≤sizeLine∧K (.ref st1.length) (st1++[.lst ds])
theorem LK.tup{α:List (Option Addr)}{G F H:Hp}{K:DK}{Q:VK}{ds:List D}{vs:List V}{st:af}{p:Addr}(k:LK α G F K Q)(P:bL G F H)(q:K (.tup ds) st)(S:aR α st G)(r:aH α G ds vs)(hp:H p=none):Q (.ref p) (upd H p (.tup vs)):=
 have hg:=(P.none hp).1
 k _ st q α _ _ _ (Step.laid hg) (P.laid hp) (S.laid hg) (by unfold Rep;exact⟨p,vs,rfl,S.i3 hg,aO,r.step (Step.laid hg)⟩)
theorem LK.lst{α:List (Option Addr)}{G F H:Hp}{K:DK}{Q:VK}{ds:List D}{vs:List V}{st:af}{p:Addr}(k:LK α G F K Q)(P:bL G F H)(q:K (.lst ds) st)(S:aR α st G)(r:aH α G ds vs)(hp:H p=none):Q (.ref p) (upd H p (.lst vs)):=
 have hg:=(P.none hp).1
 k _ st q α _ _ _ (Step.laid hg) (P.laid hp) (S.laid hg) (by unfold Rep;exact⟨p,vs,rfl,S.i3 hg,.of aO,r.step (Step.laid hg)⟩)
theorem LK.new{α:List (Option Addr)}{G F H:Hp}{K:DK}{Q:VK}{ds:List D}{vs:List V}{st:af}{p:Addr}(k:LK α G F K Q)(P:bL G F H)(q:K (.ref st.length) (st++[.lst ds]))(S:aR α st G)(r:aH α G ds vs)(hp:H p=none):Q (.ref p) (upd H p (.lst vs)):=
 have hg:=(P.none hp).1
 k _ _ q (α++[some p]) _ _ _ (Step.cell hg) (P.laid hp) (S.cell hg ⟨vs,aO,r.step (Step.cell hg)⟩) (by
  unfold Rep
  refine .inr ⟨p,?_,rfl⟩
  rw[List.getElem?_append_right (by rw[S.len];exact Nat.le_refl _),S.len,Nat.sub_self]
  rfl)
theorem E3{n:Nat}{t:DA}(h:PA X es (LA t)):PE X (.Tuple es n pos) (LE (h_ t)):=PE.imp (BR h) fun σ H Q ⟨α,σd,st,K,G,F,P,R,S,t,k⟩=>
 ⟨α,σd,st,_,G,F,P,R,S,t,fun ds st1 q α1 G1 H1 vs s1 P1 S1 r1=>⟨by rw[←r1.length];exact q.1,fun p hp=>(k.at s1).tup P1 q.2 S1 r1 hp⟩⟩
theorem EL{t:DA}(h:PA X es (LA t)):PE X (.List es pos) (LE (oC t)):=PE.imp (xq h) fun σ H Q ⟨α,σd,st,K,G,F,P,R,S,t,k⟩=>
 ⟨α,σd,st,_,G,F,P,R,S,t,fun ds st1 q α1 G1 H1 vs s1 P1 S1 r1=>⟨by rw[←r1.length];exact q.1,fun p hp=>(k.at s1).lst P1 q.2 S1 r1 hp⟩⟩
theorem EO{t:DA}(h:PA X es (LA t)):PE X (.List es pos) (LE (vR t)):=PE.imp (xq h) fun σ H Q ⟨α,σd,st,K,G,F,P,R,S,t,k⟩=>
 ⟨α,σd,st,_,G,F,P,R,S,t,fun ds st1 q α1 G1 H1 vs s1 P1 S1 r1=>⟨by rw[←r1.length];exact q.1,fun p hp=>(k.at s1).new P1 q.2 S1 r1 hp⟩⟩
abbrev dc:=List D→af→DK→Prop
inductive CJ(T:dc)(vs:List V)(H:Hp)(Q:VK):Prop
 |mk (α:List (Option Addr)) (ds:List D) (st:af) (K:DK) (G F:Hp) (P:bL G F H) (rx:aH α G ds vs) (S:aR α st G) (h:T ds st K) (k:LK α G F K Q):CJ T vs H Q
def aX(S:dc):Sp:=fun vs H Q _=>CJ S vs H Q
def aY(S:dc)(t:DA):DE:=fun σ st K=>t σ st fun ds st1=>S ds st1 K
theorem LE.call{S:dc}{t:DA}{σ:L2.St}{H:Hp}{Q:VK}(h:LE (aY S t) σ H Q):Aj (aX S) [] E0 (LA t) σ H Q:=by
 obtain⟨α,σd,st,K,G,F,P,R,S,t,k⟩:=h
 refine⟨α,σd,st,_,G,F,P,R,S,t,fun ds st1 q α1 G1 H1 vs s1 P1 S1 r1=>?_⟩
 try dsimp only
 rw[List.append_nil]
 exact⟨α1,ds,st1,K,G1,F,P1,r1,S1,q,k.at s1⟩
theorem Dx{S:dc}{k:Nat}{f:Addr}{fd:FuncData}{ps:List Str}{x:Str}{p:Pos}{t:DA}(F:aB X.prog X.w X.K X.mg X.base aU k f fd ps (aX S))(hr:cC k X.A)(hg:Gl X x)(hm:X.mg x=some (.ref f))(hk:PySem.W.keepIn X.K (.ref f)=true)(hb:Binds X.K fd ps [])
 (ha:PA X (e::es) (LA t)) (hdb:(x==("__debug__":Str))=false:=by decide) (he:starEach (e::es) X.env=(false,eval e X.env)::starEach es X.env:=by rfl) (hpl:(backTo pos (starEach es X.env)).any (·.1)=false:=by rfl):
 PE X (.Call (.Name x p) (e::es) [] pos) (LE (aY S t)):=PE.imp (Bz F hr hg hm hk hb .nil vz ha hdb he hpl) fun _ _ _ h=>LE.call h
def cU(r:gZ)(t:DA):DE:=fun σ st K=>t σ st fun ds st1=>r ds st1 K
theorem LE.cb{r:gZ}{t:DA}{σ:L2.St}{H:Hp}{Q:VK}(h:LE (cU r t) σ H Q):BP (jn r) (LA t) σ H Q:=by
 obtain⟨α,σd,st,K,G,F,P,R,S,t,k⟩:=h
 refine⟨α,σd,st,_,G,F,P,R,S,t,fun ds st1 q α1 G1 H1 vs s1 P1 S1 r1=>?_⟩
 exact⟨α1,ds,st1,K,G1,F,P1,r1,S1,q,k.at s1⟩
end
end L3
namespace L3
open PySem PySem.Spec L2
open PyProof.Rows hiding St
section
variable {X:Cx}
theorem cm.imp{f:Value→Value→Sem Value}{r r':R2}(h:cm X f r)(k:∀x y H Q,r' x y H Q→r x y H Q):cm X f r':=fun pins s σ H x y v u Q I rx ry q=>h pins s σ H x y v u Q I rx ry (k x y H Q q)
theorem cH.imp{f:Value}{r r':List V→Hp→VK→Prop}(h:cH X f r)(k:∀xs H Q,r' xs H Q→r xs H Q):cH X f r':=fun pins s σ H xs us Q I rs q=>h pins s σ H xs us Q I rs (k xs H Q q)
def qV(C:Int→Int→Prop)(g:Int→Int→D):dJ:=fun x y st K=>match x,y with| .int i,.int j=>C i j∧K (g i j) st|_,_=>False
theorem jU{f:Value→Value→Sem Value}{C:Int→Int→Prop}{g:Int→Int→D}{g':Int→Int→V}(hg:∀i j α H,Rep α H (g i j) (g' i j))(h:cm X f (rI C g')):cm X f (LR (qV C g)):=cm.imp h fun x y H Q ⟨α,d,e,st,K,G,F',P,r1,r2,S,q,k⟩=>by
 cases d<;>cases e<;>first
  |exact q.elim
  |(unfold Rep at r1 r2;exact⟨_,_,r1,r2,q.1,k.here P q.2 S (hg _ _ _ _)⟩)
abbrev T2:Int→Int→Prop:=fun _ _=>True
theorem vq{g:Int→Int→V}{f:Value→Value→Sem Value}(h:cm X f (tU g)):cm X f (rI T2 g):=cm.imp h fun x y H Q ⟨i,j,e1,e2,_,q⟩=>⟨i,j,e1,e2,q⟩
abbrev Ac:dJ:=qV T2 fun i j=> .int (i-j)
abbrev ya:dJ:=qV (fun _ j=>j≠0∧j.natAbs.log2<9000) fun i j=> .int (i.fdiv j)
abbrev zG:dJ:=qV (fun _ j=>j≠0) fun i j=> .int (i.fmod j)
abbrev zW:dJ:=qV yL fun i j=> .int (i^j.toNat)
abbrev Dj:dJ:=qV T2 fun i j=> .bl (decide (i<j))
abbrev Dh:dJ:=qV T2 fun i j=> .bl (decide (j<i))
theorem Er:cm X (binaryOp .Sub) (LR Ac):=jU (fun _ _ _ _=>by unfold Rep;rfl) (vq Cq)
theorem CS:cm X (binaryOp .FloorDiv) (LR ya):=jU (fun _ _ _ _=>by unfold Rep;rfl) (Ad fun i j _ _ _ _ _ hc q=>floordiv_int hc.1 q (.inl (PyProof.noPylong_of_log2 hc.2)))
theorem ES:cm X (binaryOp .Mod) (LR zG):=jU (fun _ _ _ _=>by unfold Rep;rfl) BD
theorem Ep:cm X (binaryOp .Pow) (LR zW):=jU (fun _ _ _ _=>by unfold Rep;rfl) Dn
theorem FU:cm X (compareOp .Lt) (LR Dj):=jU (fun _ _ _ _=>by unfold Rep;rfl) (vq EW)
theorem Gn:cm X (compareOp .Gt) (LR Dh):=jU (fun _ _ _ _=>by unfold Rep;rfl) (vq E2)
def z9:rR:=fun x st K=>match x with| .int i=>K (.int (-i)) st|_=>False
theorem Ec:u4 X (unaryOp .USub) (z_ z9):=fun pins s σ H x v Q I rx ⟨α,d,st,K,G,F',P,r,S,q,k⟩=>by
 cases d<;>first
  |exact q.elim
  |(unfold Rep at r;exact CK pins s σ H x v Q I rx ⟨_,r,k.here P q S (by unfold Rep;rfl)⟩)
theorem Inv.vZ{pins:List (Addr×Obj)}{σ:L2.St}{H:Hp}{s:Shared}{l:Addr}{xs:List V}(I:Inv X pins σ H s)(h:Rd H l (.lst xs)):
 xs.length≤sizeLine∧∃(its:List Value) (n:Nat),Vals xs its∧xs.length=its.length∧s.heap.get? l=some {cls:= .type "list",data:= .seq its.toArray n}:=by
 obtain⟨z,its,n,r,e⟩:=h.ok I.aL
 exact⟨z,its,n,r,r.length,e⟩
theorem gH{G F H:Hp}(P:bL G F H){a:Addr}{u:HO}(h:Rd G a u):Rd H a u:=by
 rcases h with h|⟨o,h⟩
 · exact .inl (P.get h)
 · exact .inr ⟨o,P.get h⟩
theorem A7:cm X (binaryOp .Add) (fun x y H Q=>∃l b xs zs,x= .ref l∧y= .ref b∧Rd H l (.lst xs)∧Rd H b (.lst zs)∧xs.length+zs.length≤sizeLine∧∀p,H p=none→Q (.ref p) (upd H p (.lst (xs++zs)))):=by
 intro pins s σ H x y v u Q I rx ry h
 obtain⟨l,b,xs,zs,rfl,rfl,hH,hB,hz,q⟩:=h
 cases rx
 cases ry
 obtain⟨z,its,n,r,hl,e⟩:=Inv.vZ I hH
 obtain⟨z2,its2,n2,r2,hl2,e2⟩:=Inv.vZ I hB
 refine PySem.P.add_list e e2 ?_ (by rw[List.size_toArray,List.size_toArray];omega)
 have ea:its.toArray++its2.toArray=(its++its2).toArray:=by simp
 rw[ea]
 exact⟨.ref _,_,I.zA (t':=s.toks) (r.append r2) (by rw[List.length_append];omega),rfl,q _ I.fresh⟩
theorem Bj:cm X (binaryOp .Mult) (fun x y H Q=>∃l k xs,x= .ref l∧y= .int k∧Rd H l (.lst xs)∧ -(2^63)≤k∧k<2^63∧xs.length*k.toNat≤sizeLine∧
 ∀p,H p=none→Q (.ref p) (upd H p (.lst (List.replicate k.toNat xs).flatten))):=by
 intro pins s σ H x y v u Q I rx ry h
 obtain⟨l,k,xs,rfl,rfl,hH,h1,h2,hz,q⟩:=h
 cases rx
 obtain⟨t,rfl⟩:=ry
 obtain⟨z,its,n,r,hl,e⟩:=Inv.vZ I hH
 have hlen:its.toArray.size*k.toNat≤sizeLine:=by rw[List.size_toArray,←hl];exact hz
 have hcap:¬its.toArray.size*k.toNat>(2^63-1)/8:=by
  have:(sizeLine:Nat)≤(2^63-1)/8:=by decide
  omega
 have hfit:¬(!Builtin.List.listFitsIndex k)=true:=by
  rw[fitsIndex_both h1 h2]
  exact Bool.false_ne_true
 have hlong:¬Builtin.List.listTooLong (its.toArray.size*k.toNat)=true:=by
  rw[za hlen]
  exact Bool.false_ne_true
 have hnew:List.foldl (fun x1 x2=>x1++x2) #[] (List.replicate (if its.toArray.isEmpty=true then 0 else k.toNat) its.toArray)=(List.replicate k.toNat its).flatten.toArray:=by
  have f0:∀m:Nat,List.foldl (fun x1 x2=>x1++x2) #[] (List.replicate m its.toArray)=(List.replicate m its).flatten.toArray:=fun m=>by
   have:=foldl_rep its m []
   rw[List.nil_append]at this
   exact this
  rw[f0]
  cases its with
  |nil=>simp
  |cons a r'=>rw[if_neg (by simp)]
 refine wpAny_binaryOp_repeat_ref (T:="list") (U:="int") (by decide) ⟨_,e,rfl⟩ (fun s'=>typeIs_int s' k t) noFill_list_mul F.fills_int_mul F.slot_int_rmul repeat_list F.slot_int_index.lookup
  (call_meets F.slot_int_rmul (typeIs_int s k t) F.entry_int_rmul (F.args_int_rmul_2 _ _) (int___rmul___int_list k t l its.toArray n)
    ⟨e,rfl,⟨_,e,rfl⟩,call_meets F.slot_list_mul ⟨_,e,rfl⟩ F.entry_list_mul (F.args_list_mul_2 _ _) (AutoListH.list___mul___list_int_3 l its.toArray n k t hfit hcap hlong) ⟨e,?_⟩⟩)
 rw[hnew]
 exact⟨.ref _,_,I.zA (t':=s.toks) (r.rep k.toNat) (by rw[len_rep,Nat.mul_comm];exact hz),rfl,q _ I.fresh⟩
theorem zk:cm X (binaryOp .Add) (fun x y H Q=>∃a b xs ys,x= .ref a∧y= .ref b∧H a=some (.tup xs)∧H b=some (.tup ys)∧xs.length+ys.length≤sizeLine∧
 (xs=[]→Q (.ref b) H)∧(xs≠ []→ys=[]→Q (.ref a) H)∧(xs≠ []→ys≠ []→∀p,H p=none→Q (.ref p) (upd H p (.tup (xs++ys))))):=by
 intro pins s σ H x y v u Q I rx ry h
 obtain⟨a,b,xs,ys,rfl,rfl,ha,hb,hz,q0,q1,q2⟩:=h
 by_cases hx:xs=[]
 · cases rx
   cases ry
   obtain⟨its,r1,p1,_⟩:=I.tuple (.of ha)
   obtain⟨its2,r2,p2,_⟩:=I.tuple (.of hb)
   obtain⟨⟨cls,dd,data,sl⟩,ho,hc,n,hd⟩:=id p1
   obtain⟨⟨cls2,dd2,data2,sl2⟩,ho2,hc2,n2,hd2⟩:=id p2
   simp only at hc hd hc2 hd2
   subst hc hd hc2 hd2
   have hi:its=[]:=(L2.Vals.nL r1).mpr hx
   exact concat_meets ⟨_,ho,rfl⟩ ⟨_,ho2,rfl⟩ noFill_tuple_add seq_tuple_add PySem.F.slot_tuple_add PySem.F.entry_tuple_add (PySem.F.args_tuple_add_2 _ _)
    (tuple_addW0 a b its.toArray its2.toArray n n2 dd dd2 sl sl2 (by simp[hi])) ⟨ho,ho2,⟨.ref b,H,I,rfl,q0 hx⟩⟩
 · exact Az pins s σ H _ _ v u Q I rx ry ⟨a,b,xs,ys,rfl,rfl,.of ha,.of hb,hx,hz,q1 hx,q2 hx⟩
theorem p6:fillsNumberSlot (.type "tuple") "mul"=pure false:=
 PySem.fillsNumberSlot_seq (id:="tuple.__mul__") (r:=some (.builtin "tuple.__rmul__")) F.slot_tuple_mul.lookup (by decide+kernel) F.slot_tuple_rmul.lookup (by decide+kernel)
theorem wm:seqRepeat? (.type "tuple")=pure (some (.builtin "tuple.__mul__")):=by
 unfold seqRepeat?
 rw[PySem.seqSlot_of (T:="tuple") (name:="__mul__") (id:="tuple.__mul__") F.slot_tuple_mul.lookup (by decide+kernel),PySem.seqSlot_of (T:="tuple") (name:="__rmul__") (id:="tuple.__rmul__") F.slot_tuple_rmul.lookup (by decide+kernel)]
 rfl
theorem tX(a:Int)(t:Tok)(l:Addr)(its:Array Value)(n:Nat)(dd:Option Addr)(sl:Array (Option Value)):Meets (Builtin.«int.__rmul__» ⟨[.int a t,.ref l],[]⟩) (fun _ R s=>s.heap.get? l=some {cls:= .type "tuple",dict:=dd,data:= .seq its n,slots:=sl}∧R (.ok (.ret Value.notImplemented)) s):=
 .of_wp fun P w A R s h=>by
  obtain⟨hp,g,d,tk,os⟩:=s
  obtain⟨hl,h⟩:=h
  wp_walk
  exact⟨_,rfl,h⟩
theorem ue(l:Addr)(its:Array Value)(n:Nat)(dd:Option Addr)(sl:Array (Option Value))(x:Int)(u:Tok)(h0:(decide (x< -(2^63))||decide (x≥2^63))=false)(h1:(its.isEmpty||x==1)=true):
 Meets (Builtin.«tuple.__mul__» ⟨[.ref l,.int x u],[]⟩) (fun _ R s=>s.heap.get? l=some {cls:= .type "tuple",dict:=dd,data:= .seq its n,slots:=sl}∧R (.ok (.ret (.ref l))) s):=
 .of_wp fun P w A R s h=>by
  obtain⟨hp,g,d,tk,os⟩:=s
  obtain⟨hl,h⟩:=h
  wp_walk
  refine wpAny_ite_false (by rw[h0];rfl) ?_
  wp_walk
  exact⟨_,rfl,h⟩
theorem sD(l:Addr)(its:Array Value)(n:Nat)(dd:Option Addr)(sl:Array (Option Value))(x:Int)(u:Tok)(h0:(decide (x< -(2^63))||decide (x≥2^63))=false)(h1:(its.isEmpty||x==1)=false)(h2:(decide (x≤0)||its.isEmpty)=true):
 Meets (Builtin.«tuple.__mul__» ⟨[.ref l,.int x u],[]⟩) (fun _ R s=>s.heap.get? l=some {cls:= .type "tuple",dict:=dd,data:= .seq its n,slots:=sl}∧R (.ok (.ret (.ref s.heap.objs.size))) {s with heap:=s.heap.push {cls:= .type "tuple",data:= .seq #[]}}):=
 .of_wp fun P w A R s h=>by
  obtain⟨hp,g,d,tk,os⟩:=s
  obtain⟨hl,h⟩:=h
  wp_walk
  refine wpAny_ite_false (by rw[h0];rfl) ?_
  wp_walk
  exact⟨_,rfl,h⟩
theorem rZ(l:Addr)(its:Array Value)(n:Nat)(dd:Option Addr)(sl:Array (Option Value))(x:Int)(u:Tok)(h0:(decide (x< -(2^63))||decide (x≥2^63))=false)(h1:(its.isEmpty||x==1)=false)(h2:(decide (x≤0)||its.isEmpty)=false)(h3:¬((its.size:Int)*x>(2^63-1)/8))(h4:Builtin.Tuple.tupleTooMany (its.size*x)=false)
 (hz:(List.foldl (fun x1 x2=>x1++x2) #[] (List.replicate x.toNat its)).size≤sizeLine):
 Meets (Builtin.«tuple.__mul__» ⟨[.ref l,.int x u],[]⟩) (fun _ R s=>s.heap.get? l=some {cls:= .type "tuple",dict:=dd,data:= .seq its n,slots:=sl}∧R (.ok (.ret (.ref s.heap.objs.size))) {s with heap:=s.heap.push {cls:= .type "tuple",data:= .seq (List.foldl (fun x1 x2=>x1++x2) #[] (List.replicate x.toNat its))}}):=
 .of_wp fun P w A R s h=>by
  obtain⟨hp,g,d,tk,os⟩:=s
  obtain⟨hl,h⟩:=h
  wp_walk
  refine wpAny_ite_false (by rw[h0];rfl) ?_
  wp_walk
  refine wpAny_ite_false (decide_eq_false h3) ?_
  wp_walk
  exact⟨_,rfl,h⟩
theorem AE:cm X (binaryOp .Mult) (fun x y H Q=>∃l k xs,x= .ref l∧y= .int k∧H l=some (.tup xs)∧ -(2^63)≤k∧k<2^63∧xs.length*k.toNat≤sizeLine∧
 ((xs=[]∨k=1)→Q (.ref l) H)∧(¬(xs=[]∨k=1)→∀p,H p=none→Q (.ref p) (upd H p (.tup (List.replicate k.toNat xs).flatten)))):=by
 intro pins s σ H x y v u Q I rx ry h
 obtain⟨l,k,xs,rfl,rfl,hH,h1,h2,hz,q1,q2⟩:=h
 cases rx
 obtain⟨t,rfl⟩:=ry
 obtain⟨its,r,p1,_⟩:=I.tuple (.of hH)
 obtain⟨⟨cls,dd,data,sl⟩,ho,hc,n,hd⟩:=id p1
 simp only at hc hd
 subst hc hd
 have hl:xs.length=its.length:=r.length
 have f0:(decide (k< -(2^63))||decide (k≥2^63))=false:=by
  rw[decide_eq_false (by omega),decide_eq_false (by omega)];rfl
 refine wpAny_binaryOp_repeat_ref (T:="tuple") (U:="int") (by decide) ⟨_,ho,rfl⟩ (fun s'=>typeIs_int s' k t) p6 F.fills_int_mul F.slot_int_rmul wm F.slot_int_index.lookup
  (call_meets F.slot_int_rmul (typeIs_int s k t) F.entry_int_rmul (F.args_int_rmul_2 _ _) (tX k t l its.toArray n dd sl) ⟨ho,rfl,⟨_,ho,rfl⟩,?_⟩)
 by_cases hs:xs=[]∨k=1
 · have f1:(its.toArray.isEmpty||k==1)=true:=by
    rcases hs with z|z
    · have:its=[]:=List.length_eq_zero_iff.mp (by rw[←hl,z];rfl)
      rw[this];rfl
    · rw[z];simp
   exact call_meets F.slot_tuple_mul ⟨_,ho,rfl⟩ F.entry_tuple_mul (F.args_tuple_mul_2 _ _) (ue l its.toArray n dd sl k t f0 f1) ⟨ho,⟨.ref l,H,I,rfl,q1 hs⟩⟩
 · have hne:its≠ []:=fun z=>hs (.inl (List.length_eq_zero_iff.mp (by rw[hl,z];rfl)))
   have hk1:k≠1:=fun z=>hs (.inr z)
   have e1:its.toArray.isEmpty=false:=by simpa using hne
   have f1:(its.toArray.isEmpty||k==1)=false:=by rw[e1];simpa using hk1
   have new:∀(us:List Value) (ys:List V),Vals ys us→ys.length≤sizeLine→Inv X pins σ (upd H s.heap.objs.size (.tup ys)) {s with heap:=s.heap.push {cls:= .type "tuple",data:= .seq us.toArray}}:=fun us ys hv hy=>
    I.laid (t':=s.toks) (fun _ _ q=>Heap.get?_push_of_some _ q) (Nat.le_refl _) ⟨hy,us,hv,⟨_,Heap.get?_push_size _ rfl,rfl,_,rfl⟩⟩
   by_cases h0:k≤0
   · have f2:(decide (k≤0)||its.toArray.isEmpty)=true:=by rw[decide_eq_true h0];rfl
     refine call_meets F.slot_tuple_mul ⟨_,ho,rfl⟩ F.entry_tuple_mul (F.args_tuple_mul_2 _ _) (sD l its.toArray n dd sl k t f0 f1 f2) ⟨ho,?_⟩
     have ez:k.toNat=0:=by omega
     rw[ez]at q2
     exact⟨.ref _,_,new [] [] .nil (Nat.zero_le _),rfl,q2 hs _ I.fresh⟩
   · have f2:(decide (k≤0)||its.toArray.isEmpty)=false:=by rw[decide_eq_false h0,e1];rfl
     have hk:(k.toNat:Int)=k:=by omega
     have hlen:its.toArray.size*k.toNat≤sizeLine:=by rw[List.size_toArray,←hl];exact hz
     have hsz:((its.toArray.size:Nat):Int)*k≤(sizeLine:Int):=by
      rw[←hk]
      exact_mod_cast hlen
     have f3:¬(((its.toArray.size:Nat):Int)*k>(2^63-1)/8):=by
      have:((sizeLine:Nat):Int)≤(2^63-1)/8:=by decide
      omega
     have f4:Builtin.Tuple.tupleTooMany (((its.toArray.size:Nat):Int)*k)=false:=by
      unfold Builtin.Tuple.tupleTooMany
      exact decide_eq_false (by omega)
     have hnew:List.foldl (fun x1 x2=>x1++x2) #[] (List.replicate k.toNat its.toArray)=(List.replicate k.toNat its).flatten.toArray:=by
      have:=foldl_rep its k.toNat []
      rw[List.nil_append]at this
      exact this
     have hfl:(List.replicate k.toNat its).flatten.length=its.length*k.toNat:=by rw[len_rep,Nat.mul_comm]
     refine call_meets F.slot_tuple_mul ⟨_,ho,rfl⟩ F.entry_tuple_mul (F.args_tuple_mul_2 _ _) (rZ l its.toArray n dd sl k t f0 f1 f2 f3 f4 (by rw[hnew,List.size_toArray,hfl];exact hlen)) ⟨ho,?_⟩
     rw[hnew]
     exact⟨.ref _,_,new _ _ (r.rep k.toNat) (by rw[len_rep,Nat.mul_comm];exact hz),rfl,q2 hs _ I.fresh⟩
def zI:dJ:=fun x y st K=>match x,y with
 | .int i,.int j=>K (.int (i+j)) st
 | .tup xs,.tup ys=>xs.length+ys.length≤sizeLine∧K (.tup (xs++ys)) st
 | .lst xs,.lst ys=>xs.length+ys.length≤sizeLine∧K (.lst (xs++ys)) st
 | .str x,.str y=>x.length+y.length≤sizeLine∧K (.str (x++y)) st
 |_,_=>False
theorem EF:cm X (binaryOp .Add) (LR zI):=fun pins s σ H x y v u Q I rx ry ⟨α,d,e,st,K,G,F',P,r1,r2,S,q,k⟩=>by
 cases d<;>cases e<;>try exact q.elim
 · unfold Rep at r1 r2
   exact Dr pins s σ H x y v u Q I rx ry ⟨_,_,r1,r2,k.here P q S (by unfold Rep;rfl)⟩
 · unfold Rep at r1 r2
   exact vW pins s σ H x y v u Q I rx ry ⟨_,_,r1,r2,q.1,k.here P q.2 S (by unfold Rep;rfl)⟩
 · unfold Rep at r1 r2
   obtain⟨a,vs,rfl,na,ha,ra⟩:=r1
   obtain⟨b,ws,rfl,nb,hb,rb⟩:=r2
   refine A7 pins s σ H _ _ v u Q I rx ry ⟨a,b,vs,ws,rfl,rfl,gH P ha,gH P hb,by rw[←ra.length,←rb.length];exact q.1,fun p hp=>?_⟩
   exact k.lst P q.2 S (ba.mpr (fc (ba.mp ra) (ba.mp rb))) hp
 · rename_i xs ys
   unfold Rep at r1 r2
   obtain⟨a,vs,rfl,na,ha,ra⟩:=r1
   obtain⟨b,ws,rfl,nb,hb,rb⟩:=r2
   have hl1:=ra.length
   have hl2:=rb.length
   refine zk pins s σ H _ _ v u Q I rx ry ⟨a,b,vs,ws,rfl,rfl,P.get ha,P.get hb,by rw[←hl1,←hl2];exact q.1,fun z=>?_,fun _ z=>?_,fun _ _ p hp=>?_⟩
   · refine k.here P q.2 S ?_
     unfold Rep
     have:xs=[]:=by rw[z]at hl1;exact List.length_eq_zero_iff.mp hl1
     subst this
     exact⟨b,ws,rfl,nb,hb,rb⟩
   · refine k.here P q.2 S ?_
     unfold Rep
     have:ys=[]:=by rw[z]at hl2;exact List.length_eq_zero_iff.mp hl2
     subst this
     rw[List.append_nil]
     exact⟨a,vs,rfl,na,ha,ra⟩
   · exact k.tup P q.2 S (ba.mpr (fc (ba.mp ra) (ba.mp rb))) hp
def zT:dJ:=fun x y st K=>match x,y with
 | .int i,.int j=>IntMulOk i j∧K (.int (i*j)) st
 | .lst xs,.int k=>(-(2^63)≤k∧k<2^63∧xs.length*k.toNat≤sizeLine)∧K (.lst (List.replicate k.toNat xs).flatten) st
 | .tup xs,.int k=>(-(2^63)≤k∧k<2^63∧xs.length*k.toNat≤sizeLine)∧K (.tup (List.replicate k.toNat xs).flatten) st
 |_,_=>False
theorem Eo:cm X (binaryOp .Mult) (LR zT):=fun pins s σ H x y v u Q I rx ry ⟨α,d,e,st,K,G,F',P,r1,r2,S,q,k⟩=>by
 cases d<;>cases e<;>try exact q.elim
 · unfold Rep at r1 r2
   have h:cm X (binaryOp .Mult) (rI IntMulOk fun i j=> .int (i*j)):=Ad fun _ _ _ _ _ _ _ hc q=>mul_int q hc
   exact h pins s σ H x y v u Q I rx ry ⟨_,_,r1,r2,q.1,k.here P q.2 S (by unfold Rep;rfl)⟩
 · unfold Rep at r1 r2
   obtain⟨a,vs,rfl,na,ha,ra⟩:=r1
   refine Bj pins s σ H _ _ v u Q I rx ry ⟨a,_,vs,rfl,r2,gH P ha,q.1.1,q.1.2.1,by rw[←ra.length];exact q.1.2.2,fun p hp=>?_⟩
   exact k.lst P q.2 S (ba.mpr (kD (ba.mp ra) _)) hp
 · rename_i xs m
   have r1':=r1
   unfold Rep at r1 r2
   obtain⟨a,vs,rfl,na,ha,ra⟩:=r1
   refine AE pins s σ H _ _ v u Q I rx ry ⟨a,_,vs,rfl,r2,P.get ha,q.1.1,q.1.2.1,by rw[←ra.length];exact q.1.2.2,fun hs=>?_,fun _ p hp=>k.tup P q.2 S (ba.mpr (kD (ba.mp ra) _)) hp⟩
   have e:(List.replicate m.toNat xs).flatten=xs:=by
    rcases hs with z|z
    · have:xs=[]:=List.length_eq_zero_iff.mp (by rw[ra.length,z];rfl)
      rw[this];simp
    · rw[z];simp
   have q2:=q.2
   rw[e]at q2
   exact k.here P q2 S r1'
def live(st:af):D→Bool
 | .ref n=>(match st[n]? with|some (.lst _)=>true|some (.ins _ _)=>true|_=>false)
 |_=>true
def lQ:dJ:=fun x y st K=>match y with
 | .int i=>(match x with
   | .lst xs=>(match eK xs i with|some d=>K d st|none=>False)
   | .tup xs=>(match eK xs i with|some d=>K d st|none=>False)
   | .ref n=>(match st[n]? with|some (.lst xs)=>(match eK xs i with|some d=>K d st|none=>False)|_=>False)
   |_=>False)
 |_=>False
theorem aH.eK{α:List (Option Addr)}{H:Hp}{ds:List D}{vs:List V}{i:Int}{d:D}(h:aH α H ds vs)(e:L2.eK ds i=some d):∃v,L2.eK vs i=some v∧Rep α H d v:=by
 unfold L2.eK at e⊢
 rw[←h.length]
 cases q:jr ds.length i with
 |none=>rw[q]at e;cases e
 |some j=>rw[q]at e;exact h.get e
theorem FY:Am X (LR lQ):=fun value slice pins s σ H x y v u Q I rx ry ⟨α,d,e,st,K,G,F',P,r1,r2,S,q,k⟩ hs=>by
 cases e<;>try exact q.elim
 unfold Rep at r2
 cases d<;>try exact q.elim
 · rename_i i n
   unfold lQ at q
   simp only at q
   split at q
   · split at q
     · rename_i xs e1 _ d' e2
       obtain⟨a,ea,vs,hv,rv⟩:=S.gd e1
       have r1':=et ea r1
       subst r1'
       obtain⟨z,ez,rz⟩:=rv.eK e2
       exact vf value slice pins s σ H _ _ v u Q I rx ry ⟨a,vs,_,z,rfl,r2,.of (P.get hv),ez,k.here P q S rz⟩ hs
     · exact q.elim
   · exact q.elim
 · unfold lQ at q
   simp only at q
   split at q
   · rename_i xs d' e2
     unfold Rep at r1
     obtain⟨a,vs,rfl,na,ha,ra⟩:=r1
     obtain⟨z,ez,rz⟩:=ra.eK e2
     exact vf value slice pins s σ H _ _ v u Q I rx ry ⟨a,vs,_,z,rfl,r2,.inl (gH P ha),ez,k.here P q S rz⟩ hs
   · exact q.elim
 · unfold lQ at q
   simp only at q
   split at q
   · rename_i xs d' e2
     unfold Rep at r1
     obtain⟨a,vs,rfl,na,ha,ra⟩:=r1
     obtain⟨z,ez,rz⟩:=ra.eK e2
     exact Dw value slice pins s σ H _ _ v u Q I rx ry ⟨a,vs,_,z,rfl,r2,.of (P.get ha),ez,k.here P q S rz⟩ hs
   · exact q.elim
theorem Gd{a b:Expr}{ta tb:DE}{pos:Pos}(ha:PE X a (LE ta))(hb:PE X b (LE tb))(hs:nK b:=by intro _ _;rfl):PE X (.Subscript a b pos) (LE (au lQ ta tb)):=PE.imp (EV FY ha hb hs) fun _ _ _ h=>LE.op h
end
end L3
namespace L3
open PySem PySem.Spec L2
open PyProof.Rows hiding St
section
variable {X:Cx}
def items?(st:af):D→Option (List D)
 | .lst xs=>some xs
 | .tup xs=>some xs
 | .ref n=>(match st[n]? with|some (.lst xs)=>some xs|_=>none)
 |_=>none
@[simp] theorem FA(st:af)(xs:List D):items? st (.lst xs)=some xs:=rfl
@[simp] theorem FI(st:af)(xs:List D):items? st (.tup xs)=some xs:=rfl
@[simp] theorem items_int(st:af)(i:Int):items? st (.int i)=none:=rfl
@[simp] theorem Ge(st:af)(i:Bool):items? st (.bl i)=none:=rfl
@[simp] theorem items_str(st:af)(i:Str):items? st (.str i)=none:=rfl
@[simp] theorem Ft(st:af):items? st .aJ=none:=rfl
theorem ay{st:af}{n:Nat}{xs:List D}(h:st[n]?=some (.lst xs)):items? st (.ref n)=some xs:=by unfold items?;simp only[h]
theorem kh{α:List (Option Addr)}{H:Hp}{st:af}{d:D}{v:V}{xs:List D}(S:aR α st H)(r:Rep α H d v)(e:items? st d=some xs):
 ∃p vs,v= .ref p∧aH α H xs vs∧(Rd H p (.lst vs)∨H p=some (.tup vs)):=by
 cases d<;>try(cases e;done)
 · unfold items? at e
   simp only at e
   split at e
   · rename_i ys q
     cases e
     obtain⟨a,ea,vs,h1,h2⟩:=S.gd q
     have r':=et ea r
     subst r'
     exact⟨a,vs,rfl,h2,.inl (.of h1)⟩
   · cases e
 · cases e
   unfold Rep at r
   obtain⟨a,vs,rfl,_,h1,h2⟩:=r
   exact⟨a,vs,rfl,h2,.inl h1⟩
 · cases e
   unfold Rep at r
   obtain⟨a,vs,rfl,_,h1,h2⟩:=r
   exact⟨a,vs,rfl,h2,.inr h1⟩
theorem wb{K:PySem.W.Frag}{G F H:Hp}(P:bL G F H){p:Addr}{vs:List V}(h:Rd G p (.lst vs)∨G p=some (.tup vs)):jf K H p vs∨gR K H p vs:=h.elim (fun z=> .inl (.inl (gH P z))) fun z=> .inr (.of (P.get z))
theorem jC{α:List (Option Addr)}{H:Hp}{ds:List D}{xs:List V}{d:D}(r:aH α H ds xs)(e:ds=[d]):∃v,xs=[v]∧Rep α H d v:=by
 subst e
 unfold aH at r
 obtain⟨v,q,rfl,h1,h2⟩:=r
 unfold aH at h2
 subst h2
 exact⟨v,rfl,h1⟩
theorem o5{α:List (Option Addr)}{H:Hp}{ds:List D}{xs:List V}{d e:D}(r:aH α H ds xs)(q:ds=[d,e]):∃v u,xs=[v,u]∧Rep α H d v∧Rep α H e u:=by
 subst q
 unfold aH at r
 obtain⟨v,q,rfl,h1,h2⟩:=r
 obtain⟨u,rfl,h3⟩:=jC h2 rfl
 exact⟨v,u,rfl,h1,h3⟩
def rD:gZ:=fun ds st K=>match ds with
 | [.str x]=>x.length≤sizeLine∧K (.int x.length) st
 | [d]=>(match items? st d with|some xs=>K (.int xs.length) st|none=>False)
 |_=>False
theorem Ff:cH X (.builtin "len") (jn rD):=fun pins s σ H xs us Q I rs ⟨α,ds,st,K,G,F',P,r,S,q,k⟩=>by
 unfold rD at q
 split at q
 · rename_i x
   obtain⟨v,rfl,r1⟩:=jC r rfl
   unfold Rep at r1
   subst r1
   exact sv pins s σ H _ us Q I rs ⟨x,rfl,q.1,k.here P q.2 S (by unfold Rep;rfl)⟩
 · rename_i d _
   split at q
   · rename_i ys e
     obtain⟨v,rfl,r1⟩:=jC r rfl
     obtain⟨p,vs,rfl,r2,h⟩:=kh S r1 e
     refine tM pins s σ H _ us Q I rs ⟨p,vs,rfl,wb P h,k.here P q S (by unfold Rep;rw[r2.length])⟩
   · exact q.elim
 · exact q.elim
def FH(g:Int→Int):gZ:=fun ds st K=>match ds with| [.int i]=>K (.int (g i)) st|_=>False
abbrev vT:gZ:=FH fun i=>if i<0 then-i else i
theorem E6:cH X (.builtin "abs") (jn vT):=cH.imp yV fun xs H Q ⟨α,ds,st,K,G,F',P,r,S,q,k⟩=>by
 unfold vT FH at q
 split at q
 · obtain⟨v,rfl,r1⟩:=jC r rfl
   unfold Rep at r1
   subst r1
   exact⟨_,rfl,k.here P q S (by unfold Rep;rfl)⟩
 · exact q.elim
def nq:gZ:=fun ds st K=>match ds with| [d]=>(match items? st d with|some xs=>K (.tup xs) st|none=>False)|_=>False
theorem AZ:cH X (.type "tuple") (jn nq):=cH.imp rg fun xs H Q ⟨α,ds,st,K,G,F',P,r,S,q,k⟩=>by
 unfold nq at q
 split at q
 · rename_i d
   split at q
   · rename_i ys e
     obtain⟨v,rfl,r1⟩:=jC r rfl
     cases d with
     |tup zs=>
      cases e
      have r0:=r1
      unfold Rep at r1
      obtain⟨a,vs,rfl,na,h1,h2⟩:=r1
      exact⟨a,vs,rfl,.inr ⟨.of (P.get h1),k.here P q S r0⟩⟩
     |_=>
      obtain⟨p,vs,rfl,r2,h⟩:=kh S r1 e
      refine⟨p,vs,rfl,?_⟩
      rcases h with h|h
      · exact .inl ⟨.inl (gH P h),fun l hl=>k.tup P q S r2 hl⟩
      · first
         |(cases e;done)
         |(exfalso
           unfold items? at e
           simp only at e
           first
            |(split at e
              · rename_i z
                obtain⟨a,ea,vs',h1,h2⟩:=S.gd z
                have e':=et ea r1
                cases e'
                rw[h]at h1;cases h1
              · cases e)
            |(unfold Rep at r1
              obtain⟨a,vs',e',_,h1,_⟩:=r1
              cases e'
              rcases h1 with h1|⟨o,h1⟩<;>(rw[h]at h1;cases h1)))
   · exact q.elim
 · exact q.elim
def o4:gZ:=fun ds st K=>match ds with| [d]=>(match items? st d with|some xs=>K (.lst xs) st|none=>False)|_=>False
theorem C1:cH X (.type "list") (jn o4):=cH.imp mM fun xs H Q ⟨α,ds,st,K,G,F',P,r,S,q,k⟩=>by
 unfold o4 at q
 split at q
 · split at q
   · rename_i ys e
     obtain⟨v,rfl,r1⟩:=jC r rfl
     obtain⟨p,vs,rfl,r2,h⟩:=kh S r1 e
     exact⟨p,vs,rfl,wb P h,fun l hl=>k.lst P q S r2 hl⟩
   · exact q.elim
 · exact q.elim
def nO:gZ:=fun ds st K=>match ds with| [d]=>(match items? st d with|some xs=>K (.ref st.length) (st++[.lst xs])|none=>False)|_=>False
theorem Aw:cH X (.type "list") (jn nO):=cH.imp mM fun xs H Q ⟨α,ds,st,K,G,F',P,r,S,q,k⟩=>by
 unfold nO at q
 split at q
 · split at q
   · rename_i ys e
     obtain⟨v,rfl,r1⟩:=jC r rfl
     obtain⟨p,vs,rfl,r2,h⟩:=kh S r1 e
     exact⟨p,vs,rfl,wb P h,fun l hl=>k.new P q S r2 hl⟩
   · exact q.elim
 · exact q.elim
end
end L3
namespace L3
open PySem PySem.Spec L2
open PyProof.Rows hiding St
section
variable {X:Cx}
def nR(st:af):D→Option String
 | .aJ=>some "NoneType"
 | .bl _=>some "bool"
 | .int _=>some "int"
 | .str _=>some "str"
 | .lst _=>some "list"
 | .tup _=>some "tuple"
 | .ref n=>(match st[n]? with|some (.lst _)=>some "list"|_=>none)
 | .ty _=>none
@[simp] theorem GA(st:af)(xs:List D):nR st (.lst xs)=some "list":=rfl
@[simp] theorem GG(st:af)(xs:List D):nR st (.tup xs)=some "tuple":=rfl
@[simp] theorem ty_int(st:af)(i:Int):nR st (.int i)=some "int":=rfl
@[simp] theorem GS(st:af)(i:Bool):nR st (.bl i)=some "bool":=rfl
@[simp] theorem ty_str(st:af)(i:Str):nR st (.str i)=some "str":=rfl
@[simp] theorem GD(st:af):nR st .aJ=some "NoneType":=rfl
end
end L3
namespace L3
open PySem PySem.Spec L2 PySem.SeqAt
open PyProof.Rows hiding St
mutual
def cq:D→D→Bool
 | .aJ,.aJ=>true
 | .bl a,.bl b=>a==b
 | .bl a,.int b=>(if a then 1 else 0)==b
 | .int a,.bl b=>a==(if b then 1 else 0)
 | .int a,.int b=>a==b
 | .str a,.str b=>a==b
 | .lst xs,.lst ys=>eU xs ys
 | .tup xs,.tup ys=>eU xs ys
 |_,_=>false
def eU:List D→List D→Bool
 | [],[]=>true
 |x::xs,y::ys=>cq x y&&eU xs ys
 |_,_=>false
end
def pl:Nat→D→Bool
 |_,.aJ=>true
 |_,.bl _=>true
 |_,.int _=>true
 |_,.str _=>true
 |n+1,.lst xs=>xs.all (pl n)
 |n+1,.tup xs=>xs.all (pl n)
 |_,_=>false
mutual
theorem lT:∀(n:Nat) (d:D),pl n d=true→cq d d=true
 |_,.aJ,_=>rfl
 |_,.bl _,_=>by simp[cq]
 |_,.int _,_=>by simp[cq]
 |_,.str _,_=>by simp[cq]
 |n+1,.lst xs,h=>by unfold cq;exact m7 n xs (by unfold pl at h;exact h)
 |n+1,.tup xs,h=>by unfold cq;exact m7 n xs (by unfold pl at h;exact h)
 |0,.lst xs,h=>by cases h
 |0,.tup xs,h=>by cases h
 |_,.ref _,h=>by unfold pl at h;cases h
 |_,.ty _,h=>by unfold pl at h;cases h
theorem m7:∀(n:Nat) (xs:List D),xs.all (pl n)=true→eU xs xs=true
 |_,[],_=>by unfold eU;rfl
 |n,x::xs,h=>by
  rw[List.all_cons,Bool.and_eq_true]at h
  unfold eU
  rw[lT n x h.1,m7 n xs h.2]
  rfl
end
mutual
theorem Rep.inj{α:List (Option Addr)}{H:Hp}:∀ {d e:D} {v:V} (n:Nat),pl n d=true→pl n e=true→Rep α H d v→Rep α H e v→d=e
 | .aJ,e,v,n,_,he,h1,h2=>by
   unfold Rep at h1;subst h1
   cases e<;>first|(unfold pl at he;cases he;done)|(unfold Rep at h2;cases h2;rfl)|(unfold Rep at h2;cases h2;done)|(unfold Rep at h2;obtain⟨_,_,h2,_⟩:=h2;cases h2)|rfl|(cases h2;done)|(obtain⟨_,_,h2,_⟩:=h2;cases h2)|(obtain⟨_,_,h2⟩:=h2;cases h2)
 | .bl b,e,v,n,_,he,h1,h2=>by
   unfold Rep at h1;subst h1
   cases e<;>first|(unfold pl at he;cases he;done)|(unfold Rep at h2;cases h2;rfl)|(unfold Rep at h2;cases h2;done)|(unfold Rep at h2;obtain⟨_,_,h2,_⟩:=h2;cases h2)|(cases h2;rfl)|(cases h2;done)|(obtain⟨_,_,h2,_⟩:=h2;cases h2)|(obtain⟨_,_,h2⟩:=h2;cases h2)
 | .int b,e,v,n,_,he,h1,h2=>by
   unfold Rep at h1;subst h1
   cases e<;>first|(unfold pl at he;cases he;done)|(unfold Rep at h2;cases h2;rfl)|(unfold Rep at h2;cases h2;done)|(unfold Rep at h2;obtain⟨_,_,h2,_⟩:=h2;cases h2)|(cases h2;rfl)|(cases h2;done)|(obtain⟨_,_,h2,_⟩:=h2;cases h2)|(obtain⟨_,_,h2⟩:=h2;cases h2)
 | .str b,e,v,n,_,he,h1,h2=>by
   unfold Rep at h1;subst h1
   cases e<;>first|(unfold pl at he;cases he;done)|(unfold Rep at h2;cases h2;rfl)|(unfold Rep at h2;cases h2;done)|(unfold Rep at h2;obtain⟨_,_,h2,_⟩:=h2;cases h2)|(cases h2;rfl)|(cases h2;done)|(obtain⟨_,_,h2,_⟩:=h2;cases h2)|(obtain⟨_,_,h2⟩:=h2;cases h2)
 | .ty b,e,v,n,hd,he,h1,h2=>by unfold pl at hd;cases hd
 | .ref b,e,v,n,hd,he,h1,h2=>by unfold pl at hd;cases hd
 | .lst xs,e,v,0,hd,he,h1,h2=>by cases hd
 | .tup xs,e,v,0,hd,he,h1,h2=>by cases hd
 | .lst xs,e,v,n+1,hd,he,h1,h2=>by
   unfold Rep at h1
   obtain⟨a,vs,rfl,na,ha,ra⟩:=h1
   cases e<;>unfold Rep at h2<;>try(cases h2;done)
   · unfold pl at he;cases he
   · obtain⟨a',vs',e',na',ha',ra'⟩:=h2
     cases e'
     have:vs=vs':=by
      rcases ha with ha|⟨o,ha⟩<;>rcases ha' with ha'|⟨o',ha'⟩<;>(rw[ha]at ha';first|(cases ha';rfl)|(cases ha';done))
     subst this
     rw[aH.inj n (by unfold pl at hd;exact hd) (by unfold pl at he;exact he) ra ra']
   · obtain⟨a',vs',e',na',ha',ra'⟩:=h2
     cases e'
     rcases ha with ha|⟨o,ha⟩<;>(rw[ha]at ha';cases ha')
 | .tup xs,e,v,n+1,hd,he,h1,h2=>by
   unfold Rep at h1
   obtain⟨a,vs,rfl,na,ha,ra⟩:=h1
   cases e<;>unfold Rep at h2<;>try(cases h2;done)
   · unfold pl at he;cases he
   · obtain⟨a',vs',e',na',ha',ra'⟩:=h2
     cases e'
     rcases ha' with ha'|⟨o,ha'⟩<;>(rw[ha]at ha';cases ha')
   · obtain⟨a',vs',e',na',ha',ra'⟩:=h2
     cases e'
     rw[ha]at ha'
     cases ha'
     rw[aH.inj n (by unfold pl at hd;exact hd) (by unfold pl at he;exact he) ra ra']
theorem aH.inj{α:List (Option Addr)}{H:Hp}:∀ {ds es:List D} {vs:List V} (n:Nat),ds.all (pl n)=true→es.all (pl n)=true→aH α H ds vs→aH α H es vs→ds=es
 | [],es,vs,n,_,_,h1,h2=>by
   unfold aH at h1
   subst h1
   cases es with
   |nil=>rfl
   |cons e es=>unfold aH at h2;obtain⟨_,_,h,_⟩:=h2;cases h
 |d::ds,es,vs,n,hd,he,h1,h2=>by
  unfold aH at h1
  obtain⟨v,r,rfl,r1,r2⟩:=h1
  cases es with
  |nil=>unfold aH at h2;cases h2
  |cons e es=>
   unfold aH at h2
   obtain⟨v',r',h,q1,q2⟩:=h2
   cases h
   rw[List.all_cons,Bool.and_eq_true]at hd he
   rw[Rep.inj n hd.1 he.1 r1 q1,aH.inj n hd.2 he.2 r2 q2]
end
theorem ka:∀ {xs ys:List D},xs.length≠ys.length→eU xs ys=false
 | [],[],h=>absurd rfl h
 | [],_::_,_=>by unfold eU;rfl
 |_::_,[],_=>by unfold eU;rfl
 |x::xs,y::ys,h=>by
  unfold eU
  rw[ka (by simpa using h),Bool.and_false]
theorem jP:∀ {xs ys:List D},xs.length=ys.length→eU xs ys=(List.range xs.length).all fun j=>cq (xs.getD j .aJ) (ys.getD j .aJ)
 | [],[],_=>by unfold eU;rfl
 | [],_::_,h=>by cases h
 |_::_,[],h=>by cases h
 |x::xs,y::ys,h=>by
  unfold eU
  rw[List.length_cons,List.range_succ_eq_map,List.all_cons,List.all_map,jP (by simpa using h)]
  rfl
section
variable {X:Cx}{pins:List (Addr×Obj)}{σ:L2.St}{H:Hp}{s:Shared}{α:List (Option Addr)}
theorem ij{xs:List D}{vs:List V}{its:List Value}(r:aH α H xs vs)(v:Vals vs its)(j:Nat)(hj:j<its.length):∃x,xs[j]?=some (xs.getD j .aJ)∧Rep α H (xs.getD j .aJ) x∧RelV x its[j]:=by
 have h1:=r.length
 have h2:=v.length
 have hx:j<xs.length:=by omega
 have e:xs[j]?=some (xs.getD j .aJ):=by rw[List.getElem?_eq_getElem hx,List.getD_eq_getElem?_getD,List.getElem?_eq_getElem hx];rfl
 obtain⟨x,q,rr⟩:=r.get e
 obtain⟨u,q2,rv⟩:=v.get q
 rw[List.getElem?_eq_getElem hj]at q2
 cases q2
 exact⟨x,e,rr,rv⟩
theorem gz{xs:List D}{n:Nat}(h:xs.all (pl n)=true)(j:Nat):pl n (xs.getD j .aJ)=true:=by
 rw[List.getD_eq_getElem?_getD]
 cases e:xs[j]? with
 |none=>cases n<;>rfl
 |some d=>exact List.all_eq_true.mp h d (List.mem_of_getElem? e)
def qA:D→Bool
 | .aJ=>true
 | .bl _=>true
 | .int _=>true
 | .str _=>true
 |_=>false
theorem uS{A:Around}{d e:D}{x y:V}{u v:Value}(hd:qA d=true)(he:qA e=true)(rd:Rep α H d x)(re:Rep α H e y)(rx:RelV x u)(ry:RelV y v):RcAt A s u v (cq d e)∧EqAt A s u v (cq d e):=by
 cases d<;>cases e<;>try(first|(cases hd;done)|(cases he;done))
 all_goals(unfold Rep at rd re;subst rd re)
 all_goals(first|(obtain⟨t,rfl⟩:=rx;obtain⟨t',rfl⟩:=ry)|(obtain⟨t,rfl⟩:=rx;cases ry)|(cases rx;obtain⟨t,rfl⟩:=ry)|(cases rx;cases ry))
 all_goals unfold cq
 · exact⟨RcAt.none_none,EqAt.same _⟩
 · exact⟨RcAt.none_bool _,EqAt.none_bool _⟩
 · exact⟨RcAt.none_int _ _,EqAt.none_int _ _⟩
 · exact⟨RcAt.none_str _ _,EqAt.none_str _ _⟩
 · exact⟨RcAt.bool_none _,EqAt.bool_none _⟩
 · exact⟨RcAt.bool_bool _ _,EqAt.bool_bool _ _⟩
 · exact⟨RcAt.bool_int _ _ _,EqAt.bool_int _ _ _⟩
 · exact⟨RcAt.bool_str _ _ _,EqAt.bool_str _ _ _⟩
 · exact⟨RcAt.int_none _ _,EqAt.int_none _ _⟩
 · exact⟨RcAt.int_bool _ _ _,EqAt.int_bool _ _ _⟩
 · exact⟨RcAt.int_int _ _ _ _,EqAt.int_int _ _ _ _⟩
 · exact⟨RcAt.int_str _ _ _ _,EqAt.int_str _ _ _ _⟩
 · exact⟨RcAt.str_none _ _,EqAt.str_none _ _⟩
 · exact⟨RcAt.str_bool _ _ _,EqAt.str_bool _ _ _⟩
 · exact⟨RcAt.str_int _ _ _ _,EqAt.str_int _ _ _ _⟩
 · exact⟨RcAt.str_str _ _ _ _,EqAt.str_str _ _ _ _⟩
theorem lst_is(I:Inv X pins σ H s){xs:List D}{x:V}{u:Value}(r:Rep α H (.lst xs) x)(rx:RelV x u):∃a vs its,u= .ref a∧aH α H xs vs∧Vals vs its∧s.heap.IsList a its.toArray:=by
 unfold Rep at r
 obtain⟨a,vs,rfl,na,ha,ra⟩:=r
 cases rx
 obtain⟨z,its,n,rv,hl,eo⟩:=Inv.vZ I ha
 exact⟨a,vs,its,rfl,ra,rv,⟨_,eo,rfl,n,rfl⟩⟩
theorem tup_is(I:Inv X pins σ H s){xs:List D}{x:V}{u:Value}(r:Rep α H (.tup xs) x)(rx:RelV x u):∃a vs its,u= .ref a∧aH α H xs vs∧Vals vs its∧s.heap.IsTuple a its.toArray:=by
 unfold Rep at r
 obtain⟨a,vs,rfl,na,ha,ra⟩:=r
 cases rx
 obtain⟨its,r',p,hz⟩:=I.tuple (gR.of ha)
 exact⟨a,vs,its,rfl,ra,r',p⟩
theorem qz(I:Inv X pins σ H s){A:Around}{xs:List D}{e:D}{x y:V}{u v:Value}(he:qA e=true)(rd:Rep α H (.lst xs) x)(re:Rep α H e y)(rx:RelV x u)(ry:RelV y v)(hu:A.units<cLine):
 (RcAt A s u v (cq (.lst xs) e)∧EqAt A s u v (cq (.lst xs) e))∧RcAt A s v u (cq e (.lst xs))∧EqAt A s v u (cq e (.lst xs)):=by
 obtain⟨a,vs,its,rfl,_,_,hl⟩:=lst_is I rd rx
 cases e<;>try(cases he;done)
 all_goals(unfold Rep at re;subst re)
 all_goals(first|(obtain⟨t,rfl⟩:=ry)|(cases ry))
 all_goals unfold cq
 · exact⟨⟨RcAt.list_none hl hu,EqAt.list_none hl hu⟩,RcAt.none_list hl hu,EqAt.none_list hl hu⟩
 · exact⟨⟨RcAt.list_bool _ hl hu,EqAt.list_bool _ hl hu⟩,RcAt.bool_list _ hl hu,EqAt.bool_list _ hl hu⟩
 · exact⟨⟨RcAt.list_int _ _ hl hu,EqAt.list_int _ _ hl hu⟩,RcAt.int_list _ _ hl hu,EqAt.int_list _ _ hl hu⟩
 · exact⟨⟨RcAt.list_str _ _ hl hu,EqAt.list_str _ _ hl hu⟩,RcAt.str_list _ _ hl hu,EqAt.str_list _ _ hl hu⟩
theorem qK(I:Inv X pins σ H s){A:Around}{xs:List D}{e:D}{x y:V}{u v:Value}(he:qA e=true)(rd:Rep α H (.tup xs) x)(re:Rep α H e y)(rx:RelV x u)(ry:RelV y v)(hu:A.units<cLine):
 (RcAt A s u v (cq (.tup xs) e)∧EqAt A s u v (cq (.tup xs) e))∧RcAt A s v u (cq e (.tup xs))∧EqAt A s v u (cq e (.tup xs)):=by
 obtain⟨a,vs,its,rfl,_,_,hl⟩:=tup_is I rd rx
 cases e<;>try(cases he;done)
 all_goals(unfold Rep at re;subst re)
 all_goals(first|(obtain⟨t,rfl⟩:=ry)|(cases ry))
 all_goals unfold cq
 · exact⟨⟨RcAt.tuple_none hl hu,EqAt.tuple_none hl hu⟩,RcAt.none_tuple hl hu,EqAt.none_tuple hl hu⟩
 · exact⟨⟨RcAt.tuple_bool _ hl hu,EqAt.tuple_bool _ hl hu⟩,RcAt.bool_tuple _ hl hu,EqAt.bool_tuple _ hl hu⟩
 · exact⟨⟨RcAt.tuple_int _ _ hl hu,EqAt.tuple_int _ _ hl hu⟩,RcAt.int_tuple _ _ hl hu,EqAt.int_tuple _ _ hl hu⟩
 · exact⟨⟨RcAt.tuple_str _ _ hl hu,EqAt.tuple_str _ _ hl hu⟩,RcAt.str_tuple _ _ hl hu,EqAt.str_tuple _ _ hl hu⟩
theorem uW{A:Around}{n:Nat}{d e:D}{x y:V}{a b:Addr}(hd:pl n d=true)(he:pl n e=true)(rd:Rep α H d x)(re:Rep α H e y)(rx:RelV x (.ref a))(ry:RelV y (.ref b))(h:RcAt A s (.ref a) (.ref b) (cq d e)):
 RcAt A s (.ref a) (.ref b) (cq d e)∧EqAt A s (.ref a) (.ref b) (cq d e):=by
 refine⟨h,?_⟩
 by_cases hab:a=b
 · subst hab
   have hx:x=y:=RelV.inj rx ry
   subst hx
   have:=Rep.inj n hd he rd re
   subst this
   rw[lT n d hd]
   exact EqAt.same _
 · exact EqAt.of_refs hab h
theorem wM(I:Inv X pins σ H s):∀(n:Nat) (A:Around) (d e:D) (x y:V) (u v:Value),pl n d=true→pl n e=true→Rep α H d x→Rep α H e y→RelV x u→RelV y v→A.units+n<cLine→
 RcAt A s u v (cq d e)∧EqAt A s u v (cq d e):=by
 intro n
 induction n with
 |zero=>
  intro A d e x y u v hd he rd re rx ry hu
  refine uS ?_ ?_ rd re rx ry
  · cases d<;>first|rfl|(cases hd)
  · cases e<;>first|rfl|(cases he)
 |succ n ih=>
  intro A d e x y u v hd he rd re rx ry hu
  have hu0:A.units<cLine:=by omega
  have hin:A.in1.units+n<cLine:=by rw[Around.in1_units];omega
  cases d<;>try(cases hd;done)
  case lst xs=>
   cases e<;>try(cases he;done)
   case lst ys=>
    have rd0:=rd
    have re0:=re
    have rx0:=rx
    have ry0:=ry
    obtain⟨a,vs,its,rfl,r1,v1,l1⟩:=lst_is I rd rx
    obtain⟨b,ws,jts,rfl,r2,v2,l2⟩:=lst_is I re ry
    have e1:=r1.length
    have e2:=v1.length
    have e3:=r2.length
    have e4:=v2.length
    refine uW hd he rd0 re0 rx0 ry0 ?_
    unfold cq
    by_cases hlen:xs.length=ys.length
    · rw[jP hlen]
      have hsz:its.toArray.size=jts.toArray.size:=by simp only[List.size_toArray];omega
      have hx:xs.length=its.toArray.size:=by simp only[List.size_toArray];omega
      rw[hx]
      refine RcAt.lists l1 l2 hsz hu0 fun j h1 h2=>?_
      have h1':j<its.length:=by simpa using h1
      have h2':j<jts.length:=by simpa using h2
      obtain⟨p,_,q1,q2⟩:=ij r1 v1 j h1'
      obtain⟨p',_,q1',q2'⟩:=ij r2 v2 j h2'
      exact(ih A.in1 _ _ p p' _ _ (gz (by unfold pl at hd;exact hd) j) (gz (by unfold pl at he;exact he) j) q1 q1' (by simpa using q2) (by simpa using q2') hin).2
    · rw[ka hlen]
      exact RcAt.lists_lengths l1 l2 (by simp only[List.size_toArray,bne_iff_ne,ne_eq];omega) hu0
   case tup ys=>
    obtain⟨a,vs,its,rfl,r1,v1,l1⟩:=lst_is I rd rx
    obtain⟨b,ws,jts,rfl,r2,v2,l2⟩:=tup_is I re ry
    unfold cq
    exact⟨RcAt.list_tuple l1 l2 hu0,EqAt.list_tuple l1 l2 hu0⟩
   all_goals exact(qz I rfl rd re rx ry hu0).1
  case tup xs=>
   cases e<;>try(cases he;done)
   case tup ys=>
    have rd0:=rd
    have re0:=re
    have rx0:=rx
    have ry0:=ry
    obtain⟨a,vs,its,rfl,r1,v1,l1⟩:=tup_is I rd rx
    obtain⟨b,ws,jts,rfl,r2,v2,l2⟩:=tup_is I re ry
    have e1:=r1.length
    have e2:=v1.length
    have e3:=r2.length
    have e4:=v2.length
    refine uW hd he rd0 re0 rx0 ry0 ?_
    unfold cq
    have key:=RcAt.tuples (e:=fun j=>cq (xs.getD j .aJ) (ys.getD j .aJ)) l1 l2 hu0 fun j h1 h2=>by
     have h1':j<its.length:=by simpa using h1
     have h2':j<jts.length:=by simpa using h2
     obtain⟨p,_,q1,q2⟩:=ij r1 v1 j h1'
     obtain⟨p',_,q1',q2'⟩:=ij r2 v2 j h2'
     exact(ih A.in1 _ _ p p' _ _ (gz (by unfold pl at hd;exact hd) j) (gz (by unfold pl at he;exact he) j) q1 q1' (by simpa using q2) (by simpa using q2') hin).2
    by_cases hlen:xs.length=ys.length
    · rw[jP hlen]
      have hsz:its.toArray.size=jts.toArray.size:=by simp only[List.size_toArray];omega
      have hx:xs.length=its.toArray.size:=by simp only[List.size_toArray];omega
      rw[hsz,Nat.min_self,beq_self_eq_true,Bool.and_true,←hsz,←hx]at key
      exact key
    · rw[ka hlen]
      have hne:(its.toArray.size==jts.toArray.size)=false:=by simp only[List.size_toArray,beq_eq_false_iff_ne,ne_eq];omega
      rw[hne,Bool.and_false]at key
      exact key
   case lst ys=>
    obtain⟨a,vs,its,rfl,r1,v1,l1⟩:=tup_is I rd rx
    obtain⟨b,ws,jts,rfl,r2,v2,l2⟩:=lst_is I re ry
    unfold cq
    exact⟨RcAt.tuple_list l1 l2 hu0,EqAt.tuple_list l1 l2 hu0⟩
   all_goals exact(qK I rfl rd re rx ry hu0).1
  all_goals
   cases e<;>try(cases he;done)
   case lst ys=>exact(qz I rfl re rd ry rx hu0).2
   case tup ys=>exact(qK I rfl re rd ry rx hu0).2
   all_goals exact uS rfl rfl rd re rx ry
def Cn:dJ:=fun x y st K=>pl 40 x=true∧pl 40 y=true∧K (.bl (cq x y)) st
theorem Gh{k:Nat}(hr:cC k X.A):cm X (compareOp .Eq) (LR Cn):=fun pins s σ H x y v u Q I rx ry ⟨α,d,e,st,K,G,F',P,r1,r2,S,q,k⟩=>by
 have hu:=hr.units
 exact(wM I 40 X.A d e x y v u q.1 q.2.1 (r1.mono P.same) (r2.mono P.same) rx ry (by omega)).1 _ _ _ _ ⟨.bl (cq d e),H,I,rfl,k.here P q.2.2 S (by unfold Rep;rfl)⟩
def BM:dJ:=fun x y st K=>match x,y with
 | .int i,.int j=>K (.bl (!decide (i=j))) st
 | .bl i,.bl j=>K (.bl (!decide (i=j))) st
 | .str i,.str j=>K (.bl (!decide (i=j))) st
 |_,_=>False
theorem FX:cm X (compareOp .NotEq) (LR BM):=cm.imp ER fun x y H Q ⟨α,d,e,st,K,G,F',P,r1,r2,S,q,k⟩=>by
 cases d<;>cases e<;>try exact q.elim
 all_goals(unfold Rep at r1 r2;subst r1 r2)
 · exact⟨rfl,k.here P q S (by unfold Rep;congr 2;exact decide_eq_decide.mpr ⟨fun h=>by cases h;rfl,fun h=>by rw[h]⟩)⟩
 · exact⟨rfl,k.here P q S (by unfold Rep;congr 2;exact decide_eq_decide.mpr ⟨fun h=>by cases h;rfl,fun h=>by rw[h]⟩)⟩
 · exact⟨rfl,k.here P q S (by unfold Rep;congr 2;exact decide_eq_decide.mpr ⟨fun h=>by cases h;rfl,fun h=>by rw[h]⟩)⟩
end
end L3
namespace L3
open PySem PySem.Spec L2
open PyProof.Rows hiding St
def LC(α:List (Option Addr))(G F:Hp)(K:bF→af→Prop)(Q:L2.St→Hp→Prop):Prop:=∀σd' st',K σd' st'→∀α' G' H' σ',Step α G α' G'→bL G' F H'→dt α' G' σd' σ'→aR α' st' G'→Q σ' H'
structure rN(α:List (Option Addr))(G F:Hp)(DD:jE)(D:Ends):Prop where
 nx:LC α G F DD.nx D.nx
 rt:LK α G F DD.rt D.rt
 bk:LC α G F DD.bk D.bk
 ct:LC α G F DD.ct D.ct
inductive Fu(t:DS)(D:Ends)(σ:L2.St)(H:Hp):Prop
 |mk (α:List (Option Addr)) (σd:bF) (st:af) (DD:jE) (G F:Hp) (P:bL G F H) (R:dt α G σd σ) (S:aR α st G) (h:t DD σd st) (k:rN α G F DD D):Fu t D σ H
def LS(t:DS):TS:=Fu t
theorem LC.at{α α1:List (Option Addr)}{G F G1:Hp}{K:bF→af→Prop}{Q:L2.St→Hp→Prop}(h:LC α G F K Q)(s:Step α G α1 G1):LC α1 G1 F K Q:=fun d st' k α' G' H' v s' P R S=>h d st' k α' G' H' v (s.trans s') P R S
theorem LC.here{α:List (Option Addr)}{G F H:Hp}{K:bF→af→Prop}{Q:L2.St→Hp→Prop}(h:LC α G F K Q)(P:bL G F H){σd:bF}{st:af}{σ:L2.St}(k:K σd st)(R:dt α G σd σ)(S:aR α st G):Q σ H:=h σd st k α G H σ Step.refl P R S
theorem rN.at{α α1:List (Option Addr)}{G F G1:Hp}{DD:jE}{D:Ends}(h:rN α G F DD D)(s:Step α G α1 G1):rN α1 G1 F DD D:=⟨h.nx.at s,h.rt.at s,h.bk.at s,h.ct.at s⟩
section
variable {X:Cx}{a b c e o i:Expr}{es:List Expr}{ta tb tc te:DE}{pos:Pos}{st:Stmt}{sts:List Stmt}{t u:DS}
theorem PS.imp{t t':TS}(h:PS X st t)(f:∀D σ H,t' D σ H→t D σ H):PS X st t':=fun pins s σ H D I q=>h pins s σ H D I (f D σ H q)
theorem fK.imp{t t':TS}(h:fK X sts t)(f:∀D σ H,t' D σ H→t D σ H):fK X sts t':=fun pins s σ H D I q=>h pins s σ H D I (f D σ H q)
def dE:DS:=fun D σ st=>D.nx σ st
def aS(t u:DS):DS:=fun D σ st=>t {D with nx:=u D} σ st
theorem Bf:fK X [] (LS dE):=fK.imp Bd fun D σ H ⟨α,σd,st,DD,G,F,P,R,S,t,k⟩=>k.nx.here P t R S
theorem AO(h:PS X st (LS t)):fK X [st] (LS t):=AD h
theorem yN(h:PS X st (LS t))(h2:fK X sts (LS u)):fK X (st::sts) (LS (aS t u)):=fK.imp (zj h h2) fun D σ H ⟨α,σd,st,DD,G,F,P,R,S,t,k⟩=>
 ⟨α,σd,st,_,G,F,P,R,S,t,fun σd' st' q α' G' H' σ' s' P' R' S'=>⟨α',σd',st',DD,G',F,P',R',S',q,k.at s'⟩,k.rt,k.bk,k.ct⟩
def cR(te:DE):DS:=fun D σ st=>te σ st D.rt
theorem Cv(h:PE X e (LE te)):PS X (.Return (some e) pos) (LS (cR te)):=PS.imp (CC h) fun D σ H ⟨α,σd,st,DD,G,F,P,R,S,t,k⟩=>⟨α,σd,st,_,G,F,P,R,S,t,k.rt⟩
def iX(te:DE):DS:=fun D σ st=>te σ st fun _ st1=>D.nx σ st1
theorem BF(h:PE X e (LE te))(hs:swapsWith e none pos.line X.env=pure false:=by rfl):PS X (.Expr e pos) (LS (iX te)):=PS.imp (Bv h hs) fun D σ H ⟨α,σd,st,DD,G,F,P,R,S,t,k⟩=>
 ⟨α,σd,st,_,G,F,P,R,S,t,fun d st1 q α1 G1 H1 v s1 P1 S1 r1=>(k.nx.at s1).here P1 q (R.step s1) S1⟩
def eS(c:DT)(t u:DS):DS:=fun D σ st=>c σ st fun b st1=>if b=true then t D σ st1 else u D σ st1
theorem DY{x y:List Stmt}{tc:DT}(hc:PT X c (LT tc))(ha:fK X x (LS t))(hb:fK X y (LS u)):PS X (.If c x y pos) (LS (eS tc t u)):=PS.imp (Ed hc ha hb) fun D σ H ⟨α,σd,st,DD,G,F,P,R,S,t,k⟩=>by
 refine⟨α,σd,st,_,G,F,P,R,S,t,fun b st1 q α1 G1 H1 s1 P1 S1=>?_⟩
 cases b with
 |true=>exact⟨α1,σd,st1,DD,G1,F,P1,R.step s1,S1,q,k.at s1⟩
 |false=>exact⟨α1,σd,st1,DD,G1,F,P1,R.step s1,S1,q,k.at s1⟩
abbrev eM:=D→bF→Option bF
def bY(i:Nat):eM:=fun d σ=>some (σ.set i (some d))
def gO(i j:Nat):eM:=fun d σ=>match d with| .tup [x,y]=>some ((σ.set i (some x)).set j (some y))|_=>none
inductive FG(t:eM)(v:V)(σ:L2.St)(H:Hp)(Q:L2.St→Hp→Prop):Prop
 |mk (α:List (Option Addr)) (σd:bF) (st:af) (d:D) (K:bF→af→Prop) (G F:Hp) (P:bL G F H) (R:dt α G σd σ) (S:aR α st G) (r:Rep α G d v) (h:∃σ',t d σd=some σ'∧K σ' st) (k:LC α G F K Q):FG t v σ H Q
def LG(t:eM):TG:=FG t
theorem PG.imp{tg:Expr}{t t':TG}(h:PG X tg t)(f:∀v σ H Q,t' v σ H Q→t v σ H Q):PG X tg t':=fun pins s σ H v u Q I r q=>h pins s σ H v u Q I r (f v σ H Q q)
theorem Ax{tg:Expr}{i:Nat}(h:PG X tg (i4 i)):PG X tg (LG (bY i)):=PG.imp h fun v σ H Q ⟨α,σd,st,d,K,G,F,P,R,S,r,⟨σ',e,q⟩,k⟩=>by
 cases e
 exact k.here P q (R.set i r) S
theorem C3{tg:Expr}{i j:Nat}(h:PG X tg (Ck X.K 2 (pV (i4 i) (pV (i4 j) zu)))):PG X tg (LG (gO i j)):=PG.imp h fun v σ H Q ⟨α,σd,st,d,K,G,F,P,R,S,r,⟨σ',e,q⟩,k⟩=>by
 unfold gO at e
 split at e
 · rename_i x y
   cases e
   unfold Rep at r
   obtain⟨a,vs,rfl,na,h1,h2⟩:=r
   obtain⟨v1,v2,rfl,r1,r2⟩:=o5 h2 rfl
   exact⟨a,_,rfl,.of (P.get h1),rfl,v1,_,rfl,v2,_,rfl,rfl,k.here P q ((R.set i r1).set j r2) S⟩
 · cases e
def bP(i:Nat)(te:DE):DS:=fun D σ st=>te σ st fun d st1=>D.nx (σ.set i (some d)) st1
theorem CL{i:Nat}(h:PS X st (iR (LE te) (i4 i))):PS X st (LS (bP i te)):=PS.imp h fun D σ H ⟨α,σd,st,DD,G,F,P,R,S,t,k⟩=>
 ⟨α,σd,st,_,G,F,P,R,S,t,fun d st1 q α1 G1 H1 v s1 P1 S1 r1=>(k.nx.at s1).here P1 q ((R.step s1).set i r1) S1⟩
def vQ(tg:eM)(te:DE):DS:=fun D σ st=>te σ st fun d st1=>∃σ',tg d σ=some σ'∧D.nx σ' st1
theorem CA{tg:eM}(h:PS X st (iR (LE te) (LG tg))):PS X st (LS (vQ tg te)):=PS.imp h fun D σ H ⟨α,σd,st,DD,G,F,P,R,S,t,k⟩=>
 ⟨α,σd,st,_,G,F,P,R,S,t,fun d st1 q α1 G1 H1 v s1 P1 S1 r1=>⟨α1,σd,st1,d,DD.nx,G1,F,P1,R.step s1,S1,r1,q,k.nx.at s1⟩⟩
def wa(i:Nat)(r:dJ)(te:DE):DS:=fun D σ st=>match σ[i]? with|some (some x)=>te σ st fun y st1=>r x y st1 fun z st2=>D.nx (σ.set i (some z)) st2|_=>False
def tw(f:Int→Int→Int):dJ:=fun x y st K=>match x,y with| .int i,.int j=>K (.int (f i j)) st|_,_=>False
theorem Dc{i:Nat}{f:Int→Int→Int}(h:PS X st (DR i (LE te) (DF f))):PS X st (LS (wa i (tw f) te)):=PS.imp h fun D σ H ⟨α,σd,st,DD,G,F,P,R,S,t,k⟩=>by
 unfold wa at t
 split at t
 · rename_i x e
   obtain⟨v,ev,rv⟩:=R.at' i x e
   refine⟨v,ev,α,σd,st,_,G,F,P,R,S,t,fun y st1 q α1 G1 H1 w s1 P1 S1 r1=>?_⟩
   cases x<;>cases y<;>try exact q.elim
   have rv':=rv
   unfold Rep at rv r1
   exact⟨_,_,rv,r1,(k.nx.at s1).here P1 q ((R.step s1).set i (by unfold Rep;rfl)) S1⟩
 · exact t.elim
def uc(x y d:D)(st:af)(K:af→Prop):Prop:=match x,y with
 | .ref n,.int k=>(match st[n]? with
   |some (.lst xs)=>(match jr xs.length k with|some j=>K (st.set n (.lst (xs.set j d)))|none=>False)
   |_=>False)
 |_,_=>False
def Cc(to ti te:DE):DS:=fun D σ st=>te σ st fun d st1=>to σ st1 fun x st2=>ti σ st2 fun y st3=>uc x y d st3 fun st4=>D.nx σ st4
theorem yF{to ti:DE}(h:PS X st (iR (LE te) (pZ (LE to) (LE ti) nI))):PS X st (LS (Cc to ti te)):=PS.imp h fun D σ H ⟨α,σd,st,DD,G,F,P,R,S,t,k⟩=>by
 refine⟨α,σd,st,_,G,F,P,R,S,t,fun d st1 q α1 G1 H1 v s1 P1 S1 r1=>?_⟩
 refine⟨α1,σd,st1,_,G1,F,P1,R.step s1,S1,q,fun x st2 q2 α2 G2 H2 v2 s2 P2 S2 r2=>?_⟩
 refine⟨α2,σd,st2,_,G2,F,P2,(R.step s1).step s2,S2,q2,fun y st3 q3 α3 G3 H3 v3 s3 P3 S3 r3=>?_⟩
 cases x<;>cases y<;>try exact q3.elim
 rename_i n kk
 unfold uc at q3
 simp only at q3
 split at q3
 · rename_i xs e
   split at q3
   · rename_i j ej
     obtain⟨p,ep,vs,hv,rv⟩:=S3.gd e
     have r2':=et ep (r2.step s3)
     subst r2'
     unfold Rep at r3
     have hm:some p∈α3:=List.mem_of_getElem? ep
     have rd:=(r1.step s2).step s3
     refine⟨p,vs,kk,j,rfl,r3,P3.get hv,by rw[←rv.length];exact ej,?_⟩
     refine(((k.nx.at s1).at s2).at s3) σd _ q3 α3 (upd G3 p (.lst (vs.set j v))) _ σ (Step.write hm) (P3.write hv) ((((R.step s1).step s2).step s3).step (Step.write hm)) ?_
     exact S3.write ep ⟨vs.set j v,aO,(ba.mpr (lD rd j (ba.mp rv))).step (Step.write hm)⟩
   · exact q3.elim
 · exact q3.elim
def tF(c:DT)(tb:DS):DS:=fun D σ st=>∃W:Nat→bF→af→Prop,(∃m,W m σ st)∧∀m σ st,W m σ st→
 c σ st fun b st1=>if b=true then tb {D with nx:=fun σ' st'=>∃m',m'<m∧W m' σ' st',ct:=fun σ' st'=>∃m',m'<m∧W m' σ' st',bk:=D.nx} σ st1 else D.nx σ st1
theorem yR{tc:DT}(h:PS X st (yc (LT tc) (LS t))):PS X st (LS (tF tc t)):=PS.imp h fun D σ H ⟨α,σd,st,DD,G,F,P,R,S,⟨W,⟨m0,w0⟩,turn⟩,k⟩=>by
 refine⟨fun m σ' H'=>∃α' σd' st' G',Step α G α' G'∧bL G' F H'∧dt α' G' σd' σ'∧aR α' st' G'∧W m σd' st',⟨m0,α,σd,st,G,Step.refl,P,R,S,w0⟩,?_⟩
 rintro m σ1 H1 ⟨α1,σd1,st1,G1,s1,P1,R1,S1,w1⟩
 refine⟨α1,σd1,st1,_,G1,F,P1,R1,S1,turn m σd1 st1 w1,fun b st2 q α2 G2 H2 s2 P2 S2=>?_⟩
 cases b with
 |false=>exact((k.nx.at s1).at s2).here P2 q (R1.step s2) S2
 |true=>
  refine⟨fun σ' H'=>∃m',m'<m∧∃α' σd' st' G',Step α G α' G'∧bL G' F H'∧dt α' G' σd' σ'∧aR α' st' G'∧W m' σd' st',fun σ' H' z=>z,?_⟩
  refine⟨α2,σd1,st2,_,G2,F,P2,R1.step s2,S2,q,?_⟩
  refine⟨?_,(k.rt.at s1).at s2,(k.nx.at s1).at s2,?_⟩
  · rintro σd3 st3 ⟨m',hm,w3⟩ α3 G3 H3 σ3 s3 P3 R3 S3
    exact⟨m',hm,α3,σd3,st3,G3,(s1.trans s2).trans s3,P3,R3,S3,w3⟩
  · rintro σd3 st3 ⟨m',hm,w3⟩ α3 G3 H3 σ3 s3 P3 R3 S3
    exact⟨m',hm,α3,σd3,st3,G3,(s1.trans s2).trans s3,P3,R3,S3,w3⟩
abbrev DI:=bF→af→(List D→(af→Prop)→af→Prop)→Prop
structure tV(J:It)(α:List (Option Addr))(G:Hp)(ok:af→Prop)(xs:List D):Prop where
 stop:∀(n:Nat) α' G' F' H' st',Step α G α' G'→bL G' F' H'→aR α' st' G'→ok st'→xs.length≤n→J.stop n H'
 go:∀(n:Nat) d α' G' F' H' st',Step α G α' G'→bL G' F' H'→aR α' st' G'→ok st'→xs[n]?=some d→J.go n H'
 mw:∀(n:Nat) d α' G' F' H' st' x H'',Step α G α' G'→bL G' F' H'→aR α' st' G'→ok st'→xs[n]?=some d→J.mw n H' x H''→∃G'',Step α' G' α' G''∧bL G'' F' H''∧aR α' st' G''∧Rep α' G'' d x
def LI(t:DI):TI:=fun σ H R=>∃α σd st K G F,bL G F H∧dt α G σd σ∧aR α st G∧t σd st K∧∀xs ok st1,K xs ok st1→∀J α1 G1 H1,Step α G α1 G1→bL G1 F H1→aR α1 st1 G1→tV J α1 G1 ok xs→R J H1
def tK(d:D)(st1:af)(K:List D→(af→Prop)→af→Prop):Prop:=match d with
 | .lst xs=>K xs (fun _=>True) st1
 | .tup xs=>K xs (fun _=>True) st1
 | .ref n=>(match st1[n]? with|some (.lst xs)=>K xs (fun st'=>st'[n]?=some (.lst xs)) st1|_=>False)
 |_=>False
def EY(t:DE):DI:=fun σ st K=>t σ st fun d st1=>tK d st1 K
theorem vm{K:PySem.W.Frag}{a:Addr}{α:List (Option Addr)}{G:Hp}{ok:af→Prop}{xs:List D}
 (h:∀α' G' st',Step α G α' G'→aR α' st' G'→ok st'→∃vs,Rd G' a (.lst vs)∧aH α' G' xs vs):tV (BQ K a) α G ok xs where
 stop:=fun n α' G' F' H' st' s P S o hn=>by
  obtain⟨vs,h1,h2⟩:=h α' G' st' s S o
  exact⟨vs,.inl (gH P h1),by rw[←h2.length];exact hn⟩
 go:=fun n d α' G' F' H' st' s P S o hn=>by
  obtain⟨vs,h1,h2⟩:=h α' G' st' s S o
  obtain⟨v,e,_⟩:=h2.get hn
  exact⟨vs,v,.inl (gH P h1),e⟩
 mw:=fun n d α' G' F' H' st' x H'' s P S o hn y=>by
  obtain⟨vs,h1,h2⟩:=h α' G' st' s S o
  obtain⟨v,e,r⟩:=h2.get hn
  obtain⟨rfl,y⟩:=y
  have:=y vs (.inl (gH P h1))
  rw[e]at this
  cases this
  exact⟨G',Step.refl,P,S,r⟩
theorem BS{K:PySem.W.Frag}{a:Addr}{α:List (Option Addr)}{G:Hp}{ok:af→Prop}{xs:List D}
 (h:∀α' G' st',Step α G α' G'→aR α' st' G'→ok st'→∃vs,G' a=some (.tup vs)∧aH α' G' xs vs):tV (BW K a) α G ok xs where
 stop:=fun n α' G' F' H' st' s P S o hn=>by
  obtain⟨vs,h1,h2⟩:=h α' G' st' s S o
  exact⟨vs,.of (P.get h1),by rw[←h2.length];exact hn⟩
 go:=fun n d α' G' F' H' st' s P S o hn=>by
  obtain⟨vs,h1,h2⟩:=h α' G' st' s S o
  obtain⟨v,e,_⟩:=h2.get hn
  exact⟨vs,v,.of (P.get h1),e⟩
 mw:=fun n d α' G' F' H' st' x H'' s P S o hn y=>by
  obtain⟨vs,h1,h2⟩:=h α' G' st' s S o
  obtain⟨v,e,r⟩:=h2.get hn
  obtain⟨rfl,y⟩:=y
  have:=y vs (.of (P.get h1))
  rw[e]at this
  cases this
  exact⟨G',Step.refl,P,S,r⟩
theorem zr{α α':List (Option Addr)}{G G':Hp}{a:Addr}{vs:List V}{xs:List D}(s:Step α G α' G')(na:some a∉α)(h1:Rd G a (.lst vs))(h2:aH α G xs vs):Rd G' a (.lst vs)∧aH α' G' xs vs:=by
 refine⟨?_,h2.step s⟩
 rcases h1 with h|⟨o,h⟩
 · exact .inl (s.ext _ _ na h)
 · exact .inr ⟨o,s.ext _ _ na h⟩
theorem Ce{l tg:Expr}{tl:DE}(hl:PE X l (LE tl)):PI X tg l (LI (EY tl)):=by
 intro pins s σ H R I h
 obtain⟨α,σd,st,K,G,F,P,RS,S,t,k⟩:=h
 refine bM (hl pins s σ H (fun x H1=>∃d α1 G1 st1,Step α G α1 G1∧bL G1 F H1∧aR α1 st1 G1∧Rep α1 G1 d x∧tK d st1 K) I ⟨α,σd,st,_,G,F,P,RS,S,t,fun d st1 q α1 G1 H1 v s1 P1 S1 r1=>⟨d,α1,G1,st1,s1,P1,S1,r1,q⟩⟩) fun v s1 ⟨x,H1,I1,rx,d,α1,G1,st1,s1',P1,S1,r1,q⟩=>?_
 unfold tK at q
 have viaL:∀ {a:Addr} {vs:List V},x= .ref a→Rd H1 a (.lst vs)→R (BQ X.K a) H1→wpAny (model X.prog X.w) X.A (pyIter v) (zE X pins σ tg R) X.xe s1:=by
  intro a vs ex hr hR
  subst ex
  cases rx
  obtain⟨its,rv,p,hz⟩:=I1.list (.inl hr)
  refine wpAny_pyIter_list p.isList ?_
  refine⟨s1.heap.objs.size,[s1.heap.objs.size],_,_,H1,rfl,I1.kept (t':=s1.toks) fun b o e=>Heap.get?_push_of_some _ e,xw a _,⟨_,Heap.get?_push_size _ rfl,rfl,rfl⟩,fun b hb=>?_,hR⟩
  have e:b=s1.heap.objs.size:=by simpa using hb
  subst e
  exact I1.rV (Nat.le_refl _) (I1.aL.fresh (Nat.le_refl _))
 have viaT:∀ {a:Addr} {vs:List V},x= .ref a→H1 a=some (.tup vs)→R (BW X.K a) H1→wpAny (model X.prog X.w) X.A (pyIter v) (zE X pins σ tg R) X.xe s1:=by
  intro a vs ex hr hR
  subst ex
  cases rx
  obtain⟨its,rv,p,hz⟩:=I1.tuple (gR.of hr)
  refine wpAny_pyIter_tuple (show s1.heap.IsTuple a its.toArray from p) ?_
  refine⟨s1.heap.objs.size,[s1.heap.objs.size],_,_,H1,rfl,I1.kept (t':=s1.toks) fun b o e=>Heap.get?_push_of_some _ e,vw a _,⟨_,Heap.get?_push_size _ rfl,rfl,rfl⟩,fun b hb=>?_,hR⟩
  have e:b=s1.heap.objs.size:=by simpa using hb
  subst e
  exact I1.rV (Nat.le_refl _) (I1.aL.fresh (Nat.le_refl _))
 cases d<;>try exact q.elim
 · rename_i n
   simp only at q
   split at q
   · rename_i xs e
     obtain⟨a,ea,vs,h1,h2⟩:=S1.gd e
     have r1':=et ea r1
     subst r1'
     refine viaL rfl (gH P1 (.of h1)) (k _ _ st1 q _ α1 G1 H1 s1' P1 S1 (vm fun α' G' st' s S o=>?_))
     obtain⟨b,eb,ws,g1,g2⟩:=S.gd o
     have hb:b=a:=by
      rcases s.pre _ _ ea with z|z<;>(rw[z]at eb;cases eb)
      rfl
     subst hb
     exact⟨ws,.of g1,g2⟩
   · exact q.elim
 · unfold Rep at r1
   obtain⟨a,vs,rfl,na,ha,ra⟩:=r1
   exact viaL rfl (gH P1 ha) (k _ _ st1 q _ α1 G1 H1 s1' P1 S1 (vm fun α' G' st' s S o=>⟨vs,zr s na ha ra⟩))
 · unfold Rep at r1
   obtain⟨a,vs,rfl,na,ha,ra⟩:=r1
   exact viaT rfl (P1.get ha) (k _ _ st1 q _ α1 G1 H1 s1' P1 S1 (BS fun α' G' st' s S o=>⟨vs,s.ext _ _ na ha,ra.step s⟩))
def df(lo:Int)(n:Nat):List D:=(List.range n).map fun(k:Nat)=>D.int (lo+(k:Int))
theorem ph{lo:Int}{n k:Nat}:(df lo n)[k]?=if k<n then some (.int (lo+(k:Int)))else none:=by
 unfold df
 rw[List.getElem?_map]
 by_cases h:k<n
 · rw[List.getElem?_range h,if_pos h];rfl
 · rw[List.getElem?_eq_none (by simpa using h),if_neg h];rfl
theorem fM{lo:Int}{n:Nat}:(df lo n).length=n:=by unfold df;simp
theorem tN{α:List (Option Addr)}{G:Hp}{lo:Int}{n:Nat}:tV (qD lo n) α G (fun _=>True) (df lo n) where
 stop:=fun m α' G' F' H' st' s P S o hn=>by rw[fM]at hn;exact hn
 go:=fun m d α' G' F' H' st' s P S o hn=>by
  rw[ph]at hn
  split at hn
  · assumption
  · cases hn
 mw:=fun m d α' G' F' H' st' x H'' s P S o hn y=>by
  obtain⟨rfl,rfl⟩:=y
  rw[ph]at hn
  split at hn
  · cases hn
    exact⟨G',Step.refl,P,S,by unfold Rep;rfl⟩
  · cases hn
theorem PI.imp{tg iter:Expr}{t t':TI}(h:PI X tg iter t)(f:∀σ H R,t' σ H R→t σ H R):PI X tg iter t':=fun pins s σ H R I q=>h pins s σ H R I (f σ H R q)
def zZ(ds:List D)(st1:af)(K:List D→(af→Prop)→af→Prop):Prop:=match ds with
 | [.int j]=>(-(2^62)≤j∧j<2^62)∧K (df 0 j.toNat) (fun _=>True) st1
 |_=>False
def z8(ds:List D)(st1:af)(K:List D→(af→Prop)→af→Prop):Prop:=match ds with
 | [.int i,.int j]=>(-(2^62)≤i∧i<2^62∧ -(2^62)≤j∧j<2^62)∧K (df i (j-i).toNat) (fun _=>True) st1
 |_=>False
def As(t:DA):DI:=fun σ st K=>t σ st fun ds st1=>zZ ds st1 K
def Bm(t:DA):DI:=fun σ st K=>t σ st fun ds st1=>z8 ds st1 K
theorem wZ{tg iter:Expr}{t:DA}(h:PI X tg iter (vX (LA t))):PI X tg iter (LI (As t)):=PI.imp h fun σ H R ⟨α,σd,st,K,G,F,P,RS,S,t,k⟩=>by
 refine⟨α,σd,st,_,G,F,P,RS,S,t,fun ds st1 q α1 G1 H1 vs s1 P1 S1 r1=>?_⟩
 match ds,q,r1 with
 | [.int j],q,r1=>
   obtain⟨v,rfl,r2⟩:=jC r1 rfl
   unfold Rep at r2
   subst r2
   exact⟨j,rfl,q.1.1,q.1.2,k _ _ st1 q.2 _ α1 G1 H1 s1 P1 S1 tN⟩
theorem wQ{tg iter:Expr}{t:DA}(h:PI X tg iter (v9 (LA t))):PI X tg iter (LI (Bm t)):=PI.imp h fun σ H R ⟨α,σd,st,K,G,F,P,RS,S,t,k⟩=>by
 refine⟨α,σd,st,_,G,F,P,RS,S,t,fun ds st1 q α1 G1 H1 vs s1 P1 S1 r1=>?_⟩
 match ds,q,r1 with
 | [.int i,.int j],q,r1=>
   obtain⟨v,u,rfl,r2,r3⟩:=o5 r1 rfl
   unfold Rep at r2 r3
   subst r2 r3
   exact⟨i,j,rfl,q.1,k _ _ st1 q.2 _ α1 G1 H1 s1 P1 S1 tN⟩
def gv(tg:eM)(body:DS)(ok:af→Prop)(E:jE):List D→bF→af→Prop
 | [],σ,st=>ok st∧E.nx σ st
 |x::xs,σ,st=>ok st∧∃σ1,tg x σ=some σ1∧body {E with nx:=gv tg body ok E xs,ct:=gv tg body ok E xs,bk:=E.nx} σ1 st
def nj(src:DI)(tg:eM)(body:DS):DS:=fun D σ st=>src σ st fun xs ok st1=>gv tg body ok D xs σ st1
theorem CB{src:DI}{tg:eM}(h:PS X st (Dp (LI src) (LG tg) (LS t))):PS X st (LS (nj src tg t)):=PS.imp h fun D σ H ⟨α,σd,st,DD,G,F,P,R,S,tt,k⟩=>by
 refine⟨α,σd,st,_,G,F,P,R,S,tt,fun xs ok st1 q J α1 G1 H1 s1 P1 S1 it=>?_⟩
 refine⟨fun i m σ' H'=>∃α' σd' st' G',Step α1 G1 α' G'∧bL G' F H'∧dt α' G' σd' σ'∧aR α' st' G'∧gv tg t ok DD (xs.drop i) σd' st'∧m=xs.length-i,⟨xs.length,α1,σd,st1,G1,Step.refl,P1,R.step s1,S1,q,rfl⟩,?_⟩
 rintro i m σ2 H2 ⟨α2,σd2,st2,G2,s2,P2,R2,S2,q2,rfl⟩
 cases e:xs[i]? with
 |none=>
  have hl:xs.length≤i:=List.getElem?_eq_none_iff.mp e
  rw[List.drop_eq_nil_of_le hl]at q2
  unfold gv at q2
  exact .inl ⟨it.stop i α2 G2 F H2 st2 s2 P2 S2 q2.1 hl,((k.nx.at s1).at s2).here P2 q2.2 R2 S2⟩
 |some d=>
  have hl:i<xs.length:=(List.getElem?_eq_some_iff.mp e).1
  have ed:xs.drop i=d::xs.drop (i+1):=by
   rw[List.drop_eq_getElem_cons hl]
   congr 1
   rw[List.getElem?_eq_getElem hl]at e
   exact Option.some.inj e
  rw[ed]at q2
  unfold gv at q2
  obtain⟨aL,σ3,e3,q3⟩:=q2
  refine .inr ⟨it.go i d α2 G2 F H2 st2 s2 P2 S2 aL e,fun σ' H'=>∃α' σd' st' G',Step α1 G1 α' G'∧bL G' F H'∧dt α' G' σd' σ'∧aR α' st' G'∧gv tg t ok DD (xs.drop (i+1)) σd' st',?_,?_⟩
  · rintro σ' H' ⟨α',σd',st',G',z1,z2,z3,z4,z5⟩
    exact⟨xs.length-(i+1),by omega,α',σd',st',G',z1,z2,z3,z4,z5,rfl⟩
  · intro x H' y
    obtain⟨G3,s3,P3,S3,r3⟩:=it.mw i d α2 G2 F H2 st2 x H' s2 P2 S2 aL e y
    refine⟨α2,σd2,st2,d,fun σ' st'=>σ'=σ3∧st'=st2,G3,F,P3,R2.step s3,S3,r3,⟨σ3,e3,rfl,rfl⟩,?_⟩
    rintro σ' st' ⟨rfl,rfl⟩ α4 G4 H4 σ4 s4 P4 R4 S4
    have s24:=(s2.trans s3).trans s4
    refine⟨α4,σ',st',_,G4,F,P4,R4,S4,q3,?_,((k.rt.at s1).at s24),(k.nx.at s1).at s24,?_⟩
    · intro σd5 st5 q5 α5 G5 H5 σ5 s5 P5 R5 S5
      exact⟨α5,σd5,st5,G5,s24.trans s5,P5,R5,S5,q5⟩
    · intro σd5 st5 q5 α5 G5 H5 σ5 s5 P5 R5 S5
      exact⟨α5,σd5,st5,G5,s24.trans s5,P5,R5,S5,q5⟩
end
end L3
namespace L3
open PySem PySem.Spec L2
open PyProof.Rows hiding St
def fG(fr:List (Option Nat))(σ:bF):bF:=fr.map fun o=>o.bind fun j=>(σ[j]?).join
theorem dt.comp{α:List (Option Addr)}{G:Hp}{σd:bF}{σ:L2.St}{fr:List (Option Nat)}(h:dt α G σd σ):dt α G (fG fr σd) (σC fr σ):=by
 refine⟨by unfold fG σC;simp,fun i d e=>?_⟩
 unfold fG at e
 rw[List.getElem?_map]at e
 cases q:fr[i]? with
 |none=>rw[q]at e;cases e
 |some o=>
  rw[q]at e
  cases o with
  |none=>simp at e
  |some j=>
   simp only[Option.map_some,Option.some.injEq,Option.bind_some]at e
   have ej:σd[j]?=some (some d):=by
    cases r:σd[j]? with
    |none=>rw[r]at e;cases e
    |some u=>rw[r]at e;simp at e;rw[e]
   obtain⟨v,ev,rv⟩:=h.at' j d ej
   refine⟨v,?_,rv⟩
   unfold σC
   rw[List.getElem?_map,q]
   simp[ev]
def cZ(tg:eM)(c:DT)(te:DE)(ok:af→Prop)(σc:bF):List D→List D→af→(List D→af→Prop)→Prop
 | [],acc,st,K=>ok st∧K acc st
 |x::xs,acc,st,K=>ok st∧∃σ2,tg x σc=some σ2∧c σ2 st fun b st1=>if b=true then te σ2 st1 fun y st2=>cZ tg c te ok σc xs (acc++[y]) st2 K else cZ tg c te ok σc xs acc st1 K
def dm(src:DI)(fr:List (Option Nat))(tg:eM)(c:DT)(te:DE):DE:=fun σ st K=>src σ st fun xs ok st1=>xs.length≤sizeLine∧cZ tg c te ok (fG fr σ) xs [] st1 fun ys st2=>K (.lst ys) st2
def i8(src:DI)(fr:List (Option Nat))(tg:eM)(c:DT)(te:DE):DE:=fun σ st K=>src σ st fun xs ok st1=>xs.length≤sizeLine∧cZ tg c te ok (fG fr σ) xs [] st1 fun ys st2=>K (.ref st2.length) (st2++[.lst ys])
def cy:DT:=fun _ st K=>K true st
def m9(fr:List (Option Nat))(tg:eM):Prop:=∀(σ:bF) (d:D) (σ2:bF),tg d (fG fr σ)=some σ2→σ2.length=(fG fr σ).length∧∀(i:Nat) (e:D),(fG fr σ)[i]?=some (some e)→σ2[i]?=some (some e)
theorem mV{fr:List (Option Nat)}{σ:bF}{k:Nat}(h:fr[k]?=some none){e:D}(q:(fG fr σ)[k]?=some (some e)):False:=by
 unfold fG at q
 rw[List.getElem?_map,h]at q
 simp at q
theorem cw{fr:List (Option Nat)}{k:Nat}(h:fr[k]?=some none:=by rfl):m9 fr (bY k):=fun σ d σ2 e=>by
 cases e
 refine⟨List.length_set,fun i x q=>?_⟩
 by_cases hi:i=k
 · subst hi;exact(mV h q).elim
 · rw[List.getElem?_set_ne (Ne.symm hi)];exact q
theorem kM{fr:List (Option Nat)}{k j:Nat}(h:fr[k]?=some none:=by rfl)(h':fr[j]?=some none:=by rfl):m9 fr (gO k j):=fun σ d σ2 e=>by
 unfold gO at e
 split at e
 · cases e
   refine⟨by rw[List.length_set,List.length_set],fun i x q=>?_⟩
   by_cases hi:i=k
   · subst hi;exact(mV h q).elim
   · by_cases hj:i=j
     · subst hj;exact(mV h' q).elim
     · rw[List.getElem?_set_ne (Ne.symm hj),List.getElem?_set_ne (Ne.symm hi)];exact q
 · cases e
section
variable {X:Cx}
theorem BV{c:Expr}{t:DT}(h:PT X c (LT t)):mY X [c] (LT t):=BH h
theorem zl:mY X [] (LT cy):=fun pins s σ H Q I ⟨α,σd,st,K,G,F,P,R,S,t,k⟩=>Av pins s σ H Q I (k true st t α G H Step.refl P S)
theorem LE.comp{src:DI}{fr:List (Option Nat)}{tg:eM}{c:DT}{te:DE}(fit:m9 fr tg){σ:L2.St}{H:Hp}{Q:VK}{α:List (Option Addr)}{σd:bF}{st:af}{KE:List D→af→Prop}{G F:Hp}(P:bL G F H)(R:dt α G σd σ)(S:aR α st G)
 (t:src σd st fun xs ok st1=>xs.length≤sizeLine∧cZ tg c te ok (fG fr σd) xs [] st1 KE)
 (fin:∀ys st2 α2 G2 H2 l vs,KE ys st2→Step α G α2 G2→bL G2 (upd F l (.lst vs)) H2→F l=none→aR α2 st2 G2→aH α2 G2 ys vs→Q (.ref l) H2):
 nv (LI src) fr (LG tg) (LT c) (LE te) σ H Q:=by
 refine⟨α,σd,st,_,G,F,P,R,S,t,fun xs ok st1 q J α1 G1 H1 s1 P1 S1 it l hl=>?_⟩
 obtain⟨hsz,q⟩:=q
 obtain⟨hG,hF⟩:=P1.none hl
 refine⟨fun i m σ' H'=>∃α' st' G' acc vs,Step α1 G1 α' G'∧bL G' (upd F l (.lst vs)) H'∧dt α' G' (fG fr σd) σ'∧aR α' st' G'∧aH α' G' acc vs∧acc.length≤i∧i≤xs.length∧cZ tg c te ok (fG fr σd) (xs.drop i) acc st' KE∧m=xs.length-i,
  ⟨xs.length,α1,st1,G1,[],[],Step.refl,P1.hide hl,(R.step s1).comp,S1,by unfold aH;rfl,Nat.le_refl _,Nat.zero_le _,q,rfl⟩,?_⟩
 rintro i m σ2 H2 ⟨α2,st2,G2,acc,vs,s2,P2,R2,S2,ra,hacc,hi,q2,rfl⟩
 cases e:xs[i]? with
 |none=>
  have hl2:xs.length≤i:=List.getElem?_eq_none_iff.mp e
  rw[List.drop_eq_nil_of_le hl2]at q2
  unfold cZ at q2
  exact .inl ⟨it.stop i α2 G2 _ H2 st2 s2 P2 S2 q2.1 hl2,fin acc st2 α2 G2 H2 l vs q2.2 (s1.trans s2) P2 hF S2 ra⟩
 |some d=>
  have hl2:i<xs.length:=(List.getElem?_eq_some_iff.mp e).1
  have ed:xs.drop i=d::xs.drop (i+1):=by
   rw[List.drop_eq_getElem_cons hl2]
   congr 1
   rw[List.getElem?_eq_getElem hl2]at e
   exact Option.some.inj e
  rw[ed]at q2
  unfold cZ at q2
  obtain⟨aL,σ3,e3,q3⟩:=q2
  refine .inr ⟨it.go i d α2 G2 _ H2 st2 s2 P2 S2 aL e,fun σ' H'=>∃α' st' G' acc vs,Step α1 G1 α' G'∧bL G' (upd F l (.lst vs)) H'∧dt α' G' (fG fr σd) σ'∧aR α' st' G'∧aH α' G' acc vs∧acc.length≤i+1∧cZ tg c te ok (fG fr σd) (xs.drop (i+1)) acc st' KE,?_,?_⟩
  · rintro σ' H' ⟨α',st',G',acc',vs',z1,z2,z3,z4,z5,z6,z7⟩
    exact⟨xs.length-(i+1),by omega,α',st',G',acc',vs',z1,z2,z3,z4,z5,z6,hl2,z7,rfl⟩
  · intro x H' y
    obtain⟨G3,s3,P3,S3,r3⟩:=it.mw i d α2 G2 _ H2 st2 x H' s2 P2 S2 aL e y
    refine⟨α2,fG fr σd,st2,d,fun σ' st'=>σ'=σ3∧st'=st2,G3,_,P3,R2.step s3,S3,r3,⟨σ3,e3,rfl,rfl⟩,?_⟩
    rintro σ' st' ⟨rfl,rfl⟩ α4 G4 H4 σ4 s4 P4 R4 S4
    have s24:=(s2.trans s3).trans s4
    have Rc:dt α4 G4 (fG fr σd) σ4:=⟨by rw[←(fit σd d σ' e3).1];exact R4.len,fun j z hz=>R4.at' j z ((fit σd d σ' e3).2 j z hz)⟩
    refine⟨α4,σ',st',_,G4,_,P4,R4,S4,q3,fun b st5 q5 α5 G5 H5 s5 P5 S5=>?_⟩
    cases b with
    |false=>exact⟨α5,st5,G5,acc,vs,s24.trans s5,P5,Rc.step s5,S5,((ra.step s3).step s4).step s5,by omega,q5⟩
    |true=>
     refine⟨α5,σ',st5,_,G5,_,P5,R4.step s5,S5,q5,fun z st6 q6 α6 G6 H6 v6 s6 P6 S6 r6=>?_⟩
     have hr:=(((ra.step s3).step s4).step s5).step s6
     refine⟨vs,(P6.frame aO).1,by rw[←hr.length];omega,α6,st6,G6,acc++[z],vs++[v6],(s24.trans s5).trans s6,?_,(Rc.step s5).step s6,S6,ba.mpr (fc (ba.mp hr) (.cons r6 .nil)),by rw[List.length_append,List.length_singleton];omega,q6⟩
     have:=P6.GN (p:=l) (o':= .lst (vs++[v6])) aO
     rw[Bu]at this
     exact this
theorem DG{scope:Scope}{Nc:List Str}{elt tg iter:Expr}{ifs:List Expr}{pos:Pos}{src:DI}{fr:List (Option Nat)}{dtg:eM}{c:DT}{te:DE}(S:bj X scope Nc fr)(hi:PI X tg iter (LI src))
 (hg:∀C s H ex,PG (d8 X scope Nc C s H ex) tg (LG dtg)) (ht:∀C s H ex,mY (d8 X scope Nc C s H ex) ifs (LT c)) (he:∀C s H ex,PE (d8 X scope Nc C s H ex) elt (LE te)) (fit:m9 fr dtg)
 (hx:X.xe=fun _ _=>False:=by rfl) (hc:X.calm=true:=by rfl) (hs:∀x,foldedSetIterable iter X.env x=pure x:=by intro _;rfl):PE X (.ListComp elt [⟨tg,iter,ifs,0⟩] scope pos) (LE (dm src fr dtg c te)):=
 PE.imp (va hx hc S hi hg ht he hs) fun σ H Q ⟨α,σd,st,K,G,F,P,R,S,t,k⟩=>LE.comp fit P R S t fun ys st2 α2 G2 H2 l vs q s2 P2 hl S2 r=>by
  have hg:G2 l=none:=(P2.frame aO).2
  refine k _ st2 q α2 (upd G2 l (.lst vs)) H2 (.ref l) (s2.trans (Step.laid hg)) (P2.show hl) (S2.laid hg) ?_
  unfold Rep
  exact⟨l,vs,rfl,S2.i3 hg,.of aO,r.step (Step.laid hg)⟩
theorem AW{scope:Scope}{Nc:List Str}{elt tg iter:Expr}{ifs:List Expr}{pos:Pos}{src:DI}{fr:List (Option Nat)}{dtg:eM}{c:DT}{te:DE}(S:bj X scope Nc fr)(hi:PI X tg iter (LI src))
 (hg:∀C s H ex,PG (d8 X scope Nc C s H ex) tg (LG dtg)) (ht:∀C s H ex,mY (d8 X scope Nc C s H ex) ifs (LT c)) (he:∀C s H ex,PE (d8 X scope Nc C s H ex) elt (LE te)) (fit:m9 fr dtg)
 (hx:X.xe=fun _ _=>False:=by rfl) (hc:X.calm=true:=by rfl) (hs:∀x,foldedSetIterable iter X.env x=pure x:=by intro _;rfl):PE X (.ListComp elt [⟨tg,iter,ifs,0⟩] scope pos) (LE (i8 src fr dtg c te)):=
 PE.imp (va hx hc S hi hg ht he hs) fun σ H Q ⟨α,σd,st,K,G,F,P,R,S,t,k⟩=>LE.comp fit P R S t fun ys st2 α2 G2 H2 l vs q s2 P2 hl S2 r=>by
  have hg:G2 l=none:=(P2.frame aO).2
  refine k _ _ q (α2++[some l]) (upd G2 l (.lst vs)) H2 (.ref l) (s2.trans (Step.cell hg)) (P2.show hl) (S2.cell hg ⟨vs,aO,r.step (Step.cell hg)⟩) ?_
  unfold Rep
  refine .inr ⟨l,?_,rfl⟩
  rw[List.getElem?_append_right (by rw[S2.len];exact Nat.le_refl _),S2.len,Nat.sub_self]
  rfl
theorem AY{st:Stmt}{k:Nat}{src:DI}{fr:List (Option Nat)}{dtg:eM}{c:DT}{te:DE}(fit:m9 fr dtg)(h:PS X st (iR (nv (LI src) fr (LG dtg) (LT c) (LE te)) (i4 k))):PS X st (LS (bP k (dm src fr dtg c te))):=
 PS.imp h fun D σ H ⟨α,σd,st,DD,G,F,P,R,S,t,q⟩=>LE.comp fit P R S t fun ys st2 α2 G2 H2 l vs qq s2 P2 hl S2 r=>by
  have hg:G2 l=none:=(P2.frame aO).2
  have s3:=s2.trans (Step.laid (o:= .lst vs) hg)
  refine q.nx _ st2 qq α2 (upd G2 l (.lst vs)) H2 _ s3 (P2.show hl) ((R.step s3).set k ?_) (S2.laid hg)
  unfold Rep
  exact⟨l,vs,rfl,S2.i3 hg,.of aO,r.step (Step.laid hg)⟩
theorem yH{st:Stmt}{k:Nat}{src:DI}{fr:List (Option Nat)}{dtg:eM}{c:DT}{te:DE}(fit:m9 fr dtg)(h:PS X st (iR (nv (LI src) fr (LG dtg) (LT c) (LE te)) (i4 k))):PS X st (LS (bP k (i8 src fr dtg c te))):=
 PS.imp h fun D σ H ⟨α,σd,st,DD,G,F,P,R,S,t,q⟩=>LE.comp fit P R S t fun ys st2 α2 G2 H2 l vs qq s2 P2 hl S2 r=>by
  have hg:G2 l=none:=(P2.frame aO).2
  have s3:=s2.trans (Step.cell (o:= .lst vs) hg)
  refine q.nx _ _ qq (α2++[some l]) (upd G2 l (.lst vs)) H2 _ s3 (P2.show hl) ((R.step s3).set k ?_) (S2.cell hg ⟨vs,aO,r.step (Step.cell hg)⟩)
  unfold Rep
  refine .inr ⟨l,?_,rfl⟩
  rw[List.getElem?_append_right (by rw[S2.len];exact Nat.le_refl _),S2.len,Nat.sub_self]
  rfl
def bG(N:List Str)(ds:List D):bF:=ds.map some++List.replicate (N.length-ds.length) none
theorem dt.start{α:List (Option Addr)}{G:Hp}{N:List Str}{ds:List D}{vs:List V}(r:aH α G ds vs):dt α G (bG N ds) (L2.start N vs):=by
 have hl:=r.length
 refine⟨by unfold bG L2.start;simp[hl],fun i d e=>?_⟩
 unfold bG at e
 by_cases hi:i<ds.length
 · rw[List.getElem?_append_left (by simpa using hi),List.getElem?_map]at e
   cases q:ds[i]? with
   |none=>rw[q]at e;cases e
   |some x=>
    rw[q]at e
    cases e
    obtain⟨v,ev,rv⟩:=r.get q
    refine⟨v,?_,rv⟩
    unfold L2.start
    rw[List.getElem?_append_left (by rw[List.length_map];omega),List.getElem?_map,ev]
    rfl
 · rw[List.getElem?_append_right (by simpa using hi),List.getElem?_replicate]at e
   split at e<;>cases e
theorem EI{P:Program}{w:World}{K:PySem.W.Frag}{mg:Str→Option Value}{base:Heap}{x qual:Str}{st:Stmt}{f:Addr}{fd:FuncData}{N ps:List Str}{k:Nat}{sp:dc}{t:DS}(F:k_ K x qual st f fd)(S:bw N ps (ai st))
 (hbody:∀(cdv:Value) (A:Around) (outer:List Env) (s:Shared) (H:Hp) (E:XK),cC k (A.deeper (envOfC qual (ai st) s.heap.objs.size f cdv))→fK (lB aU P w K mg base N qual (ai st) f cdv A outer s H E).qM (bf st) (LS t))
 (hsp:∀ds st K,sp ds st K→ds.length=ps.length∧t {nx:=fun _ st'=>K .aJ st',rt:=K} (bG N ds) st):aB P w K mg base aU (k+1) f fd ps (aX sp):=by
 refine F.ok S (fun vs H Q E h=>?_) fun cdv A outer s H vs Q E hr h=>⟨_,hbody cdv A outer s H E hr,?_⟩
 · obtain⟨α,ds,st,K,G,F,P,r,S,q,k⟩:=h
   rw[←r.length]
   exact(hsp ds st K q).1
 · obtain⟨α,ds,st,K,G,F,P,r,S,q,k⟩:=h
   refine⟨α,bG N ds,st,_,G,F,P,dt.start r,S,(hsp ds st K q).2,?_,k,?_,?_⟩
   · intro σd' st' kk α' G' H' σ' s' P' R' S'
     exact k .aJ st' kk α' G' H' .aJ s' P' S' (by unfold Rep;rfl)
   · intro σd' st' kk
     exact kk.elim
   · intro σd' st' kk
     exact kk.elim
def kZ(to te:DE):DE:=fun σ st K=>to σ st fun x st1=>match x with
 | .ref n=>(match st1[n]? with
   |some (.lst _)=>te σ st1 fun y st2=>∃y',[y]=[y']∧(match st2[n]? with|some (.lst xs)=>xs.length<sizeLine∧K .aJ (st2.set n (.lst (xs++[y'])))|_=>False)
   |_=>False)
 |_=>False
end
end L3
namespace L3
open PySem PySem.Spec L2
open PyProof.Rows hiding St
structure aI(K:PySem.W.Frag)(mg:Str→Option Value)(x qual:Str)(st:Stmt)(ps:List Str)(f:Addr)(fd:FuncData):Prop where
 fn:k_ K x qual st f fd
 mg:mg x=some (.ref f)
 bd:Binds K fd ps []
def pf(sc:Scope)(N:List Str)(scope:Scope)(Nc:List Str)(fr:List (Option Nat)):Bool:=
 (scope.kind== .function)&&scope.names.all (fun x=>x.2 != .cell||scope.names.lookup x.1==some .cell)&&scope.names.all (fun x=>x.2 != .local||scope.names.lookup x.1==some .local)&&
 scope.names.all (fun x=>x.2 != .free||sc.names.lookup x.1==some .cell||sc.names.lookup x.1==some .free)&&(fr.length==Nc.length)&&
 (List.range fr.length).all fun i=>match fr[i]?,Nc[i]? with
   |some (some j),some x=>(N[j]?==some x)&&(scope.names.lookup x==some .free)&&(sc.names.lookup x==some .cell||sc.names.lookup x==some .free)
   |_,_=>true
theorem bj.look{X:Cx}{scope:Scope}{Nc:List Str}{fr:List (Option Nat)}(sc:Scope)(N:List Str)(h:pf sc N scope Nc fr=true)(hsc:X.env.scope=sc:=by rfl)(hN:X.N=N:=by rfl):bj X scope Nc fr:=by
 unfold pf at h
 simp only[Bool.and_eq_true]at h
 obtain⟨⟨⟨⟨⟨h1,h2⟩,h3⟩,h4⟩,h5⟩,h6⟩:=h
 subst hsc hN
 refine⟨by simpa using h1,fun x hx hk=>?_,fun x hx hk=>?_,fun x hx hk=>?_,by simpa using h5,fun i j x e1 e2=>?_⟩
 · have:=List.all_eq_true.mp h2 x hx
   rw[hk]at this
   simpa using this
 · have:=List.all_eq_true.mp h3 x hx
   rw[hk]at this
   simpa using this
 · have:=List.all_eq_true.mp h4 x hx
   rw[hk]at this
   have z:X.env.scope.names.lookup x.1=some .cell∨X.env.scope.names.lookup x.1=some .free:=by simpa using this
   exact z
 · have hi:i<fr.length:=(List.getElem?_eq_some_iff.mp e2).1
   have:=List.all_eq_true.mp h6 i (List.mem_range.mpr hi)
   rw[e1,e2]at this
   simp only[Bool.and_eq_true,Bool.or_eq_true,beq_iff_eq]at this
   exact⟨this.1.1,this.1.2,this.2⟩
section
variable {X:Cx}
theorem F_{e:Expr}{es:List Expr}{pos p:Pos}{x:Str}{id:String}{r:gZ}{t:DA}(hc:cH X (.builtin id) (jn r))(ha:PA X (e::es) (LA t))(hm:X.mg x=none)(hv:bootBuiltins x=some (.builtin id))(hg:Gl X x:=by rfl)(hn:x≠"__name__":=by decide)(hdb:(x==("__debug__":Str))=false:=by decide)
 (he:starEach (e::es) X.env=(false,eval e X.env)::starEach es X.env:=by rfl) (hpl:(backTo pos (starEach es X.env)).any (·.1)=false:=by rfl):PE X (.Call (.Name x p) (e::es) [] pos) (LE (cU r t)):=PE.imp (yZ hc hg hm hv ha hn hdb he hpl) fun _ _ _ h=>LE.cb h
theorem FP{e:Expr}{es:List Expr}{pos p:Pos}{x:Str}{T:String}{r:gZ}{t:DA}(hc:cH X (.type T) (jn r))(ha:PA X (e::es) (LA t))(hm:X.mg x=none)(hv:bootBuiltins x=some (.type T))(hg:Gl X x:=by rfl)(hn:x≠"__name__":=by decide)(hdb:(x==("__debug__":Str))=false:=by decide)
 (he:starEach (e::es) X.env=(false,eval e X.env)::starEach es X.env:=by rfl) (hpl:(backTo pos (starEach es X.env)).any (·.1)=false:=by rfl):PE X (.Call (.Name x p) (e::es) [] pos) (LE (cU r t)):=PE.imp (ym hc hg hm hv ha hn hdb he hpl) fun _ _ _ h=>LE.cb h
theorem FK{e:Expr}{es:List Expr}{pos p:Pos}{x qual:Str}{st:Stmt}{ps:List Str}{f:Addr}{fd:FuncData}{k:Nat}{S:dc}{t:DA}(A:aI X.K X.mg x qual st ps f fd)(F:aB X.prog X.w X.K X.mg X.base aU k f fd ps (aX S))(hr:cC k X.A)
 (ha:PA X (e::es) (LA t)) (hg:Gl X x:=by rfl) (hdb:(x==("__debug__":Str))=false:=by decide) (he:starEach (e::es) X.env=(false,eval e X.env)::starEach es X.env:=by rfl) (hpl:(backTo pos (starEach es X.env)).any (·.1)=false:=by rfl):
 PE X (.Call (.Name x p) (e::es) [] pos) (LE (aY S t)):=Dx F hr hg A.mg A.fn.kp A.bd ha hdb he hpl
theorem LE.append{to te:DE}{σ:L2.St}{H:Hp}{Q:VK}(h:LE (kZ to te) σ H Q):CT X.K "list" vk (LE to) (LA (ag te av)) σ H Q:=by
 obtain⟨α,σd,st,K,G,F,P,R,S,t,k⟩:=h
 refine⟨α,σd,st,_,G,F,P,R,S,t,fun x st1 q α1 G1 H1 v s1 P1 S1 r1=>?_⟩
 cases x<;>try exact q.elim
 rename_i n
 simp only at q
 split at q
 · rename_i ys e
   obtain⟨p,ep,vs,h1,h2⟩:=S1.gd e
   have r1':=et ep r1
   subst r1'
   refine⟨.inl ⟨rfl,vs,.inl (.of (P1.get h1))⟩,α1,σd,st1,fun ds st2=>∃y,ds=[y]∧(match st2[n]? with|some (.lst xs)=>xs.length<sizeLine∧K .aJ (st2.set n (.lst (xs++[y])))|_=>False),G1,F,P1,R.step s1,S1,?_,?_⟩
   · refine Eq.mp ?_ q
     rfl
   · rintro ds st2 ⟨y,rfl,q2⟩ α2 G2 H2 ws s2 P2 S2 r2
     obtain⟨w,rfl,rw'⟩:=jC r2 rfl
     split at q2
     · rename_i xs e2
       obtain⟨p2,ep2,us,g1,g2⟩:=S2.gd e2
       have:p2=p:=by
        rcases s2.pre _ _ ep with z|z<;>(rw[z]at ep2;cases ep2)
        rfl
       subst this
       have hm:some p2∈α2:=List.mem_of_getElem? ep2
       refine⟨p2,us,w,rfl,rfl,P2.get g1,by rw[←g2.length];exact q2.1,?_⟩
       refine((k.at s1).at s2) _ _ q2.2 α2 (upd G2 p2 (.lst (us++[w]))) _ .aJ (Step.write hm) (P2.write g1) ?_ (by unfold Rep;rfl)
       exact S2.write ep2 ⟨us++[w],aO,(ba.mpr (fc (ba.mp g2) (.cons rw' .nil))).step (Step.write hm)⟩
     · exact q2.elim
 · exact q.elim
theorem yQ{o e:Expr}{to te:DE}{apos cpos:Pos}(ho:PE X o (LE to))(he:PE X e (LE te))(hbase:attributeBase o "append" X.env (eval o X.env)=eval o X.env:=by rfl)
 (hfew:((backTo cpos (starEach [e] X.env)).all (fun x=> !x.1)&&(backToKw cpos (keywordEach [] X.env)).all (fun x=>x.1.isSome)
   &&decide (([e]:List Expr).length+([]:List Keyword).length+(if([]:List Keyword).isEmpty then 0 else 1)<30))=true:=by rfl)
 (hline:(apos.endLine==cpos.line)=true:=by rfl) (hs:starEach [e] X.env=(false,eval e X.env)::starEach [] X.env:=by rfl) (hplain:(backTo cpos (starEach [] X.env)).any (·.1)=false:=by rfl):PE X (.Call (.Attribute o "append" apos) [e] [] cpos) (LE (kZ to te)):=
 PE.imp (zU PySem.F.plainAttrs_list PySem.F.slot_list_append PySem.F.type_list_append qr ho (kT he pG hs) hbase hfew hline hs hplain) fun _ _ _ h=>LE.append h
end
end L3
namespace L3
open PySem L2
open PySem.Spec hiding items?
open PyProof.Rows hiding St
section
variable {X:Cx}
@[irreducible] def cO:dJ:=zI
theorem dq:cm X (binaryOp .Add) (LR cO):=by unfold cO;exact EF
@[irreducible] def kG:dJ:=Ac
theorem nM:cm X (binaryOp .Sub) (LR kG):=by unfold kG;exact Er
@[irreducible] def cY:dJ:=zT
theorem eD:cm X (binaryOp .Mult) (LR cY):=by unfold cY;exact Eo
@[irreducible] def lW:dJ:=ya
theorem xi:cm X (binaryOp .FloorDiv) (LR lW):=by unfold lW;exact CS
@[irreducible] def gB:dJ:=zG
theorem ki:cm X (binaryOp .Mod) (LR gB):=by unfold gB;exact ES
@[irreducible] def mI:dJ:=zW
theorem rO:cm X (binaryOp .Pow) (LR mI):=by unfold mI;exact Ep
@[irreducible] def mx:dJ:=Dj
theorem s_:cm X (compareOp .Lt) (LR mx):=by unfold mx;exact FU
@[irreducible] def lb:dJ:=Dh
theorem qi:cm X (compareOp .Gt) (LR lb):=by unfold lb;exact Gn
@[irreducible] def ow:dJ:=BM
theorem ze:cm X (compareOp .NotEq) (LR ow):=by unfold ow;exact FX
@[irreducible] def gg:dJ:=Cn
theorem gW{k:Nat}(hr:cC k X.A):cm X (compareOp .Eq) (LR gg):=by unfold gg;exact Gh hr
@[irreducible] def g_:rR:=z9
theorem DX:u4 X (unaryOp .USub) (z_ g_):=by unfold g_;exact Ec
@[irreducible] def bz:dJ:=lQ
theorem Gu{a b:Expr}{ta tb:DE}{pos:Pos}(ha:PE X a (LE ta))(hb:PE X b (LE tb))(hs:nK b:=by intro _ _;rfl):PE X (.Subscript a b pos) (LE (au bz ta tb)):=by unfold bz;exact Gd ha hb hs
@[irreducible] def eY:gZ:=rD
theorem eG:cH X (.builtin "len") (jn eY):=by unfold eY;exact Ff
@[irreducible] def qo:gZ:=vT
theorem zL:cH X (.builtin "abs") (jn qo):=by unfold qo;exact E6
@[irreducible] def eC:gZ:=nq
theorem fe:cH X (.type "tuple") (jn eC):=by unfold eC;exact AZ
@[irreducible] def jt:gZ:=o4
theorem mK:cH X (.type "list") (jn jt):=by unfold jt;exact C1
@[irreducible] def mS:gZ:=nO
theorem Bh:cH X (.type "list") (jn mS):=by unfold mS;exact Aw
@[irreducible] def mW:D→af→(List D→(af→Prop)→af→Prop)→Prop:=tK
def fh(t:DE):DI:=fun σ st K=>t σ st fun d st1=>mW d st1 K
theorem Cu{l tg:Expr}{tl:DE}(hl:PE X l (LE tl)):PI X tg l (LI (fh tl)):=by unfold fh mW;exact Ce hl
@[irreducible] def rJ:List D→af→(List D→(af→Prop)→af→Prop)→Prop:=zZ
@[irreducible] def rP:List D→af→(List D→(af→Prop)→af→Prop)→Prop:=z8
def fg(t:DA):DI:=fun σ st K=>t σ st fun ds st1=>rJ ds st1 K
def nP(t:DA):DI:=fun σ st K=>t σ st fun ds st1=>rP ds st1 K
theorem x3{tg iter:Expr}{t:DA}(h:PI X tg iter (vX (LA t))):PI X tg iter (LI (fg t)):=by unfold fg rJ;exact wZ h
theorem xT{tg iter:Expr}{t:DA}(h:PI X tg iter (v9 (LA t))):PI X tg iter (LI (nP t)):=by unfold nP rP;exact wQ h
@[irreducible] def oA:D→D→D→af→(af→Prop)→Prop:=uc
def dO(to ti te:DE):DS:=fun D σ st=>te σ st fun d st1=>to σ st1 fun x st2=>ti σ st2 fun y st3=>oA x y d st3 fun st4=>D.nx σ st4
theorem ug{st:Stmt}{to ti te:DE}(h:PS X st (iR (LE te) (pZ (LE to) (LE ti) nI))):PS X st (LS (dO to ti te)):=by unfold dO oA;exact yF h
end
section
variable {st:af}{K:DK}{i j:Int}{b c:Bool}{xs ys:List D}{d e:D}{n:Nat}
theorem dz(k:K (.int (i+j)) st):cO (.int i) (.int j) st K:=by unfold cO;exact k
theorem kY(h:xs.length+ys.length≤sizeLine)(k:K (.tup (xs++ys)) st):cO (.tup xs) (.tup ys) st K:=by unfold cO;exact⟨h,k⟩
theorem lj(k:K (.int (i-j)) st):kG (.int i) (.int j) st K:=by unfold kG;exact⟨trivial,k⟩
theorem fE(h:IntMulOk i j)(k:K (.int (i*j)) st):cY (.int i) (.int j) st K:=by unfold cY;exact⟨h,k⟩
theorem Bg(h: -(2^63)≤i∧i<2^63∧xs.length*i.toNat≤sizeLine)(k:K (.lst (List.replicate i.toNat xs).flatten) st):cY (.lst xs) (.int i) st K:=by unfold cY;exact⟨h,k⟩
theorem qk(h: -(2^63)≤i∧i<2^63∧xs.length*i.toNat≤sizeLine)(k:K (.tup (List.replicate i.toNat xs).flatten) st):cY (.tup xs) (.int i) st K:=by unfold cY;exact⟨h,k⟩
theorem vb(h0:j≠0)(h:j.natAbs.log2<9000)(k:K (.int (i.fdiv j)) st):lW (.int i) (.int j) st K:=by unfold lW;exact⟨⟨h0,h⟩,k⟩
theorem jS(h0:j≠0)(k:K (.int (i.fmod j)) st):gB (.int i) (.int j) st K:=by unfold gB;exact⟨h0,k⟩
theorem BX(h:yL i j)(k:K (.int (i^j.toNat)) st):mI (.int i) (.int j) st K:=by unfold mI;exact⟨h,k⟩
theorem vP(k:K (.bl (decide (i<j))) st):mx (.int i) (.int j) st K:=by unfold mx;exact⟨trivial,k⟩
theorem nA(k:K (.bl (decide (j<i))) st):lb (.int i) (.int j) st K:=by unfold lb;exact⟨trivial,k⟩
theorem zY(k:K (.bl (!decide (i=j))) st):ow (.int i) (.int j) st K:=by unfold ow;exact k
theorem pk(h1:pl 40 d=true)(h2:pl 40 e=true)(k:K (.bl (cq d e)) st):gg d e st K:=by unfold gg;exact⟨h1,h2,k⟩
theorem BA(a b:Int):(a==b)=decide (a=b):=by
 by_cases h:a=b
 · subst h;simp
 · simp[h]
theorem yf(k:K (.bl (decide (i=j))) st):gg (.int i) (.int j) st K:=by
 refine pk rfl rfl ?_
 have:cq (.int i) (.int j)=decide (i=j):=by unfold cq;exact BA i j
 rw[this];exact k
theorem iC(k:K (.int (-i)) st):g_ (.int i) st K:=by unfold g_;exact k
theorem zD(h:items? st d=some xs)(a:eK xs i=some e)(k:K e st):lQ d (.int i) st K:=by
 cases d<;>unfold items? at h<;>first
  |(cases h;done)
  |(cases h;simp only[lQ,a];exact k)
  |(simp only at h
    split at h
    · rename_i q
      cases h
      simp only[lQ,q,a]
      exact k
    · cases h)
theorem aM(h:items? st d=some xs)(a:eK xs i=some e)(k:K e st):bz d (.int i) st K:=by unfold bz;exact zD h a k
theorem dD(h:items? st d=some xs)(k:K (.int xs.length) st):eY [d] st K:=by
 unfold eY rD
 split
 · rename_i z;cases z;cases h
 · rename_i z;cases z;rw[h];exact k
 · rename_i z1 z2;exact absurd rfl (z2 d)
theorem A4(i:Int):(if i<0 then-i else i)=((i.natAbs:Nat):Int):=by split<;>omega
theorem wR(k:K (.int ((i.natAbs:Nat):Int)) st):qo [.int i] st K:=by unfold qo;show K (.int (if i<0 then-i else i)) st;rw[A4];exact k
theorem ef(h:items? st d=some xs)(k:K (.tup xs) st):eC [d] st K:=by unfold eC nq;simp only[h];exact k
theorem ll(h:items? st d=some xs)(k:K (.lst xs) st):jt [d] st K:=by unfold jt o4;simp only[h];exact k
theorem yC(h:items? st d=some xs)(k:K (.ref st.length) (st++[.lst xs])):mS [d] st K:=by unfold mS nO;simp only[h];exact k
theorem m6{K:List D→(af→Prop)→af→Prop}(h:items? st d=some xs)(k:∀ok:af→Prop,ok st→K xs ok st):mW d st K:=by
 unfold mW tK
 cases d<;>unfold items? at h<;>first
  |(cases h;done)
  |(cases h;exact k _ trivial)
  |(simp only at h
    split at h
    · rename_i q
      cases h
      simp only[q]
      exact k _ q
    · cases h)
theorem u9{K:List D→(af→Prop)→af→Prop}(k:K xs (fun _=>True) st):mW (.lst xs) st K:=by unfold mW;exact k
theorem jM{K:List D→(af→Prop)→af→Prop}(k:K xs (fun _=>True) st):mW (.tup xs) st K:=by unfold mW;exact k
theorem gF{K:List D→(af→Prop)→af→Prop}(h: -(2^62)≤j∧j<2^62)(k:K (df 0 j.toNat) (fun _=>True) st):rJ [.int j] st K:=by unfold rJ;exact⟨h,k⟩
theorem Ba{K:List D→(af→Prop)→af→Prop}(h: -(2^62)≤i∧i<2^62∧ -(2^62)≤j∧j<2^62)(k:K (df i (j-i).toNat) (fun _=>True) st):rP [.int i,.int j] st K:=by unfold rP;exact⟨h,k⟩
theorem fI{K:af→Prop}{m:Nat}(h:st[n]?=some (.lst xs))(e:jr xs.length i=some m)(k:K (st.set n (.lst (xs.set m d)))):oA (.ref n) (.int i) d st K:=by unfold oA uc;simp only[h,e];exact k
end
end L3
namespace L3
open PySem L2
open PySem.Spec hiding items?
open PyProof.Rows hiding St
def sQ(K:PySem.W.Frag):Bool:=K.all fun p=>p.2.cls != .type "list"
theorem ox{a:Addr}{o:Obj}:∀ {l:List (Addr×Obj)},l.lookup a=some o→(a,o)∈l
 | [],h=>by cases h
 |(b,u)::r,h=>by
  rw[List.lookup_cons]at h
  split at h
  · rename_i z
    cases h
    have:a=b:=by simpa using z
    subst this
    exact List.mem_cons_self
  · exact List.mem_cons_of_mem _ (ox h)
theorem qY{K:PySem.W.Frag}(h:sQ K=true){a:Addr}{o:Obj}(e:K.lookup a=some o):o.cls≠ .type "list":=by
 have:=List.all_eq_true.mp h (a,o) (ox e)
 simpa using this
theorem qU{α:List (Option Addr)}{G:Hp}:∀ns:List Int,aH α G (ns.map D.int) (ns.map V.int)
 | []=>by unfold aH;rfl
 |n::ns=>by
  rw[List.map_cons,List.map_cons]
  unfold aH
  exact⟨_,_,rfl,by unfold Rep;rfl,qU ns⟩
end L3
namespace L3
open PySem L2
open PySem.Spec hiding items?
open PyProof.Rows hiding St
def notStar:Expr→Bool
 | .Starred .. =>false
 |_=>true
theorem bR{e:Expr}{es:List Expr}{env:Env}(h:notStar e=true):starEach (e::es) env=(false,eval e env)::starEach es env:=by
 cases e<;>first|rfl|cases h
def fC:List Expr→Bool
 | []=>true
 |e::es=>notStar e&&fC es
theorem iP{pos:Pos}{env:Env}:∀ {es:List Expr},fC es=true→(backTo pos (starEach es env)).any (·.1)=false
 | [],_=>rfl
 |e::es,h=>by
  unfold fC at h
  rw[Bool.and_eq_true]at h
  rw[bR h.1]
  have ih:=iP (pos:=pos) (env:=env) h.2
  unfold backTo at ih⊢
  rw[List.map_cons,List.any_cons,ih]
  rfl
def hJ:Expr→Bool
 | .Slice .. =>false
 |_=>true
def m4:Expr→Bool
 | .Name .. =>true
 | .Call .. =>true
 | .Subscript .. =>true
 | .Attribute .. =>true
 |_=>false
def iO:Expr→Bool
 | .ListComp .. =>false
 | .SetComp .. =>false
 | .DictComp .. =>false
 |_=>true
section
variable {X:Cx}
theorem zp{b:Expr}(h:hJ b=true):nK b:=by
 intro o i
 cases b<;>first|rfl|cases h
theorem wd{e:Expr}(h:m4 e=true):∀whole,isTrue e X.env whole=(do let v ←whole;standAt e.pos;holding [v] (truthy v)):=by
 intro whole
 cases e<;>first|(cases h;done)|rfl
theorem pY{e:Expr}{tg:Option Expr}{n:Nat}{env:Env}(h:iO e=true):swapsWith e tg n env=pure false:=by
 cases e<;>first|(cases h;done)|rfl
theorem yy{e:Expr}{es:List Expr}{te:DE}{tr:DA}(ha:PE X e (LE te))(hr:PA X es (LA tr))(hs:notStar e=true:=by rfl):PA X (e::es) (LA (ag te tr)):=kT ha hr (bR hs)
theorem EZ{e:Expr}{es:List Expr}{pos p:Pos}{x:Str}{id:String}{r:gZ}{t:DA}(hc:cH X (.builtin id) (jn r))(ha:PA X (e::es) (LA t))(hm:X.mg x=none)(hv:bootBuiltins x=some (.builtin id))(hn:x≠"__name__")(hdb:(x==("__debug__":Str))=false)(hg:Gl X x:=by rfl)(hs:notStar e=true:=by rfl)(hs2:fC es=true:=by rfl):
 PE X (.Call (.Name x p) (e::es) [] pos) (LE (cU r t)):=F_ hc ha hm hv hg hn hdb (bR hs) (iP hs2)
theorem Fb{e:Expr}{es:List Expr}{pos p:Pos}{x:Str}{T:String}{r:gZ}{t:DA}(hc:cH X (.type T) (jn r))(ha:PA X (e::es) (LA t))(hm:X.mg x=none)(hv:bootBuiltins x=some (.type T))(hn:x≠"__name__")(hdb:(x==("__debug__":Str))=false)(hg:Gl X x:=by rfl)(hs:notStar e=true:=by rfl)(hs2:fC es=true:=by rfl):
 PE X (.Call (.Name x p) (e::es) [] pos) (LE (cU r t)):=FP hc ha hm hv hg hn hdb (bR hs) (iP hs2)
theorem EB{e:Expr}{es:List Expr}{pos p:Pos}{x qual:Str}{st:Stmt}{ps:List Str}{f:Addr}{fd:FuncData}{k:Nat}{S:dc}{t:DA}(A:aI X.K X.mg x qual st ps f fd)(F:aB X.prog X.w X.K X.mg X.base aU k f fd ps (aX S))(hr:cC k X.A)
 (ha:PA X (e::es) (LA t)) (hdb:(x==("__debug__":Str))=false) (hg:Gl X x:=by rfl) (hs:notStar e=true:=by rfl) (hs2:fC es=true:=by rfl):
 PE X (.Call (.Name x p) (e::es) [] pos) (LE (aY S t)):=FK A F hr ha hg hdb (bR hs) (iP hs2)
theorem Ef{a b:Expr}{ta tb:DE}{pos:Pos}(ha:PE X a (LE ta))(hb:PE X b (LE tb))(hs:hJ b=true:=by rfl):PE X (.Subscript a b pos) (LE (au bz ta tb)):=Gu ha hb (zp hs)
theorem AI{e:Expr}{te:DE}(he:PE X e (LE te))(h:m4 e=true:=by rfl):PT X e (LT (bS te)):=CW he (wd h)
theorem y9{e:Expr}{te:DE}{pos:Pos}(he:PE X e (LE te))(h:iO e=true:=by rfl):PS X (.Expr e pos) (LS (iX te)):=BF he (pY h)
theorem A3{i:Nat}{x:Str}{e:Expr}{te:TE}{pos pos':Pos}(hN:X.N.Nodup)(hi:X.N[i]?=some x)(hx:Loc X.env.scope x)(he:PE X e te)(hf:X.fn x=true∨X.env.scope.names.lookup x=some .local:=by first|exact .inl rfl|exact .inr rfl)(h:iO e=true:=by rfl):
 PS X (.Assign [.Name x pos'] e pos) (iR te (i4 i)):=DP hN hi hx he (pY h) hf
theorem Br{i:Nat}{x:Str}{pos:Pos}(hd:(x==("__debug__":Str))=false)(hcd:(x==("__classdict__":Str))=false)(hv:sW X.env.scope x)(hN:X.N[i]?=some x:=by rfl):PE X (.Name x pos) (LE (aa i)):=EG (C0 hN hv hd hcd)
theorem CF{o i e:Expr}{to ti te:TE}{pos pos':Pos}(he:PE X e te)(ho:PE X o to)(hi:PE X i ti)(h1:iO e=true:=by rfl)(h2:hJ i=true:=by rfl):PS X (.Assign [.Subscript o i pos'] e pos) (iR te (pZ to ti nI)):=
 pM he (pJ ho hi set_list (by intro v;cases i<;>first|rfl|cases h2)) (by unfold swapsWithSole;exact pY h1) (by cases e<;>rfl) rfl
end
end L3
namespace L3
open PySem L2
open PySem.Spec hiding items?
open PyProof.Rows hiding St
@[irreducible] def JE(X:Cx)(e:Expr)(t:DE):Prop:=PE X e (LE t)
@[irreducible] def JT(X:Cx)(e:Expr)(t:DT):Prop:=PT X e (LT t)
@[irreducible] def JW(X:Cx)(e:Expr)(t:DT):Prop:=PW X e (LT t)
@[irreducible] def JA(X:Cx)(es:List Expr)(t:DA):Prop:=PA X es (LA t)
@[irreducible] def JS(X:Cx)(s:Stmt)(t:DS):Prop:=PS X s (LS t)
@[irreducible] def JB(X:Cx)(s:List Stmt)(t:DS):Prop:=fK X s (LS t)
@[irreducible] def JG(X:Cx)(e:Expr)(t:eM):Prop:=PG X e (LG t)
@[irreducible] def JI(X:Cx)(tg e:Expr)(t:DI):Prop:=PI X tg e (LI t)
@[irreducible] def JC(X:Cx)(es:List Expr)(t:DT):Prop:=mY X es (LT t)
section
variable {X:Cx}{a b c e o i:Expr}{es:List Expr}{ta tb tc te to ti:DE}{t u:DT}{ar:DA}{pos p pos':Pos}{s:Stmt}{ss:List Stmt}{T U:DS}
theorem yq{n:Nat}{x:Str}(hd:(x==("__debug__":Str))=false)(hcd:(x==("__classdict__":Str))=false)(hv:sW X.env.scope x)(hN:X.N[n]?=some x:=by rfl):JE X (.Name x pos) (aa n):=by unfold JE;exact Br hd hcd hv hN
theorem aq{k:Int}{j:Nat}:JE X (.Constant (.int k) j pos) (dC (.int k)):=by unfold JE;exact DW
theorem qb{k:Bool}{j:Nat}:JE X (.Constant (.bool k) j pos) (dC (.bl k)):=by unfold JE;exact FV
theorem bh{op:Operator}{r:dJ}(ho:cm X (binaryOp op) (LR r))(ha:JE X a ta)(hb:JE X b tb):JE X (.BinOp a op b pos) (au r ta tb):=by unfold JE at*;exact Gf ho ha hb
theorem iZ(ha:JE X a ta):JE X (.UnaryOp .USub a pos) (lg g_ ta):=by unfold JE at*;exact Gv DX ha
theorem EC{op:BoolOp}(ha:JE X a ta):JE X (.BoolOp op [a] pos) ta:=by unfold JE at*;exact Ey ha
theorem Ei(ha:JE X a ta)(hb:JE X (.BoolOp .And (b::es) pos) tb):JE X (.BoolOp .And (a::b::es) pos) (vS ta tb):=by unfold JE at*;exact Ea ha hb
theorem rE{op:CmpOp}{r:dJ}(ho:cm X (compareOp op) (LR r))(hm:behindInMarks op b=false)(ha:JE X a ta)(hb:JE X b tb):JE X (.Compare a [op] [b] pos) (au r ta tb):=by unfold JE at*;exact EA ho ha hb hm
theorem Fd(hc:JT X c t)(ha:JE X a ta)(hb:JE X b tb):JE X (.IfExp c a b pos) (Cs t ta tb):=by unfold JE at*;unfold JT at hc;exact Ew hc ha hb
theorem g8{n:Nat}(h:JA X es ar):JE X (.Tuple es n pos) (h_ ar):=by unfold JE;unfold JA at h;exact E3 h
theorem pN(h:JA X es ar):JE X (.List es pos) (oC ar):=by unfold JE;unfold JA at h;exact EL h
theorem Aa(h:JA X es ar):JE X (.List es pos) (vR ar):=by unfold JE;unfold JA at h;exact EO h
theorem ao:JA X [] av:=by unfold JA;exact pG
theorem ae(ha:JE X e te)(hr:JA X es ar)(hs:notStar e=true:=by rfl):JA X (e::es) (ag te ar):=by unfold JA at*;unfold JE at ha;exact yy ha hr hs
theorem bg(ha:JE X a ta)(hb:JE X b tb)(hs:hJ b=true:=by rfl):JE X (.Subscript a b pos) (au bz ta tb):=by unfold JE at*;exact Ef ha hb hs
theorem fu{x:Str}{id:String}{r:gZ}(hc:cH X (.builtin id) (jn r))(ha:JA X (e::es) ar)(hm:X.mg x=none)(hv:bootBuiltins x=some (.builtin id))(hn:x≠"__name__")(hdb:(x==("__debug__":Str))=false)(hg:Gl X x)(hs:notStar e=true:=by rfl)(hs2:fC es=true:=by rfl):JE X (.Call (.Name x p) (e::es) [] pos) (cU r ar):=by
 unfold JE;unfold JA at ha;exact EZ hc ha hm hv hn hdb hg hs hs2
theorem f_{x:Str}{T:String}{r:gZ}(hc:cH X (.type T) (jn r))(ha:JA X (e::es) ar)(hm:X.mg x=none)(hv:bootBuiltins x=some (.type T))(hn:x≠"__name__")(hdb:(x==("__debug__":Str))=false)(hg:Gl X x)(hs:notStar e=true:=by rfl)(hs2:fC es=true:=by rfl):JE X (.Call (.Name x p) (e::es) [] pos) (cU r ar):=by
 unfold JE;unfold JA at ha;exact Fb hc ha hm hv hn hdb hg hs hs2
theorem bI{x qual:Str}{st:Stmt}{ps:List Str}{f:Addr}{fd:FuncData}{k:Nat}{S:dc}(A:aI X.K X.mg x qual st ps f fd)(F:aB X.prog X.w X.K X.mg X.base aU k f fd ps (aX S))(hr:cC k X.A)(ha:JA X (e::es) ar)(hdb:(x==("__debug__":Str))=false)(hg:Gl X x)(hs:notStar e=true:=by rfl)(hs2:fC es=true:=by rfl):
 JE X (.Call (.Name x p) (e::es) [] pos) (aY S ar):=by unfold JE;unfold JA at ha;exact EB A F hr ha hdb hg hs hs2
theorem yX{apos cpos:Pos}(ho:JE X o to)(he:JE X e te)(hbase:attributeBase o "append" X.env (eval o X.env)=eval o X.env:=by rfl)(hline:(apos.endLine==cpos.line)=true:=by rfl)(hs:notStar e=true:=by rfl):JE X (.Call (.Attribute o "append" apos) [e] [] cpos) (kZ to te):=by
 unfold JE at*
 refine yQ ho he hbase ?_ hline (bR hs) rfl
 rw[bR hs]
 rfl
theorem bX{op:CmpOp}{r:dJ}(ho:cm X (compareOp op) (LR r))(hm:behindInMarks op b=false)(ha:JE X a ta)(hb:JE X b tb):JT X (.Compare a [op] [b] pos) (bS (au r ta tb)):=by unfold JE at*;unfold JT;exact C8 ho ha hb hm
theorem B7(ha:JT X a t):JT X (.UnaryOp .Not a pos) (vB t):=by unfold JT at*;exact DB ha
theorem xQ(he:JE X e te)(h:m4 e=true:=by rfl):JT X e (bS te):=by unfold JT;unfold JE at he;exact AI he h
theorem la(ha:JT X a t):JW X (.BoolOp .And [a] pos) t:=by unfold JW;unfold JT at ha;exact Be ha
theorem xF(ha:JT X a t):JW X (.BoolOp .Or [a] pos) t:=by unfold JW;unfold JT at ha;exact CP ha
theorem nc(ha:JT X a t)(hb:JW X (.BoolOp .And (b::es) pos) u):JW X (.BoolOp .And (a::b::es) pos) (kg t u):=by unfold JW at*;unfold JT at ha;exact C_ ha hb
theorem zJ(ha:JT X a t)(hb:JW X (.BoolOp .Or (b::es) pos) u):JW X (.BoolOp .Or (a::b::es) pos) (sh t u):=by unfold JW at*;unfold JT at ha;exact Eh ha hb
theorem mi(h:JW X e t):JT X e t:=by unfold JT;unfold JW at h;exact PW.pt h
theorem gh{l tg:Expr}(hl:JE X l ta):JI X tg l (fh ta):=by unfold JI;unfold JE at hl;exact Cu hl
theorem fP{tg:Expr}(hg:Gl X "range")(hm:X.mg "range"=none)(ha:JA X [a] ar)(hs:notStar a=true:=by rfl):JI X tg (.Call (.Name "range" p) [a] [] pos) (fg ar):=by unfold JI;unfold JA at ha;exact x3 (xy hg hm ha (bR hs))
theorem yG{tg:Expr}(hg:Gl X "range")(hm:X.mg "range"=none)(ha:JA X [a,b] ar)(hs:notStar a=true:=by rfl)(hs2:notStar b=true:=by rfl):JI X tg (.Call (.Name "range" p) [a,b] [] pos) (nP ar):=by unfold JI;unfold JA at ha;exact xT (xk hg hm ha (by rw[bR hs,bR hs2];rfl) (bR hs2))
theorem eJ{k:Nat}{x:Str}(hN:X.N.Nodup)(hx:Loc X.env.scope x)(hf:X.fn x=true∨X.env.scope.names.lookup x=some .local)(hi:X.N[k]?=some x:=by rfl):JG X (.Name x pos) (bY k):=by unfold JG;exact Ax (p7 hN hi hx hf)
theorem kB{k j n:Nat}{x y:Str}{px py:Pos}(hc:X.calm=true)(hN:X.N.Nodup)(hx:Loc X.env.scope x)(hf:X.fn x=true∨X.env.scope.names.lookup x=some .local)(hy:Loc X.env.scope y)(hg:X.fn y=true∨X.env.scope.names.lookup y=some .local)(hi:X.N[k]?=some x:=by rfl)(hj:X.N[j]?=some y:=by rfl):
 JG X (.Tuple [.Name x px,.Name y py] n pos) (gO k j):=by unfold JG;exact C3 (w6 hc (lE (p7 hN hi hx hf) (lE (p7 hN hj hy hg) vh)))
theorem cz:JC X [] cy:=by unfold JC;exact zl
theorem tZ(h:JT X c t):JC X [c] t:=by unfold JC;unfold JT at h;exact BV h
theorem eA{scope:Scope}{Nc:List Str}{elt tg iter:Expr}{ifs:List Expr}{src:DI}{fr:List (Option Nat)}{dtg:eM}(S:bj X scope Nc fr)(hi:JI X tg iter src)(hg:∀C s H ex,JG (d8 X scope Nc C s H ex) tg dtg)(ht:∀C s H ex,JC (d8 X scope Nc C s H ex) ifs t)(he:∀C s H ex,JE (d8 X scope Nc C s H ex) elt te)(fit:m9 fr dtg)
 (hx:X.xe=fun _ _=>False:=by rfl) (hc:X.calm=true:=by rfl) (hs:∀x,foldedSetIterable iter X.env x=pure x:=by intro _;rfl):JE X (.ListComp elt [⟨tg,iter,ifs,0⟩] scope pos) (dm src fr dtg t te):=by
 unfold JE JI JG JC at*;exact DG S hi hg ht he fit hx hc hs
theorem qh{scope:Scope}{Nc:List Str}{elt tg iter:Expr}{ifs:List Expr}{src:DI}{fr:List (Option Nat)}{dtg:eM}(S:bj X scope Nc fr)(hi:JI X tg iter src)(hg:∀C s H ex,JG (d8 X scope Nc C s H ex) tg dtg)(ht:∀C s H ex,JC (d8 X scope Nc C s H ex) ifs t)(he:∀C s H ex,JE (d8 X scope Nc C s H ex) elt te)(fit:m9 fr dtg)
 (hx:X.xe=fun _ _=>False:=by rfl) (hc:X.calm=true:=by rfl) (hs:∀x,foldedSetIterable iter X.env x=pure x:=by intro _;rfl):JE X (.ListComp elt [⟨tg,iter,ifs,0⟩] scope pos) (i8 src fr dtg t te):=by
 unfold JE JI JG JC at*;exact AW S hi hg ht he fit hx hc hs
theorem di:JB X [] dE:=by unfold JB;exact Bf
theorem aP(h:JS X s T):JB X [s] T:=by unfold JB;unfold JS at h;exact AO h
theorem ax(h:JS X s T)(h2:JB X ss U):JB X (s::ss) (aS T U):=by unfold JB at*;unfold JS at h;exact yN h h2
theorem bV(h:JE X e te):JS X (.Return (some e) pos) (cR te):=by unfold JS;unfold JE at h;exact Cv h
theorem iK(h:JE X e te)(hc:iO e=true:=by rfl):JS X (.Expr e pos) (iX te):=by unfold JS;unfold JE at h;exact y9 h hc
theorem dQ{x y:List Stmt}(hc:JT X c t)(ha:JB X x T)(hb:JB X y U):JS X (.If c x y pos) (eS t T U):=by unfold JS;unfold JB at*;unfold JT at hc;exact DY hc ha hb
theorem y_{x:List Stmt}(hc:JT X c t)(hb:JB X x T)(hx:X.xe=fun _ _=>False:=by rfl):JS X (.While c x [] pos) (tF t T):=by unfold JS;unfold JB at hb;unfold JT at hc;exact yR (yS (by rw[hx];exact PassesOwn.never) hc hb)
theorem mH{tg iter:Expr}{x:List Stmt}{src:DI}{dtg:eM}(hi:JI X tg iter src)(hg:JG X tg dtg)(hb:JB X x T)(hx:X.xe=fun _ _=>False:=by rfl)(hc:X.calm=true:=by rfl)(hs:∀x,foldedSetIterable iter X.env x=pure x:=by intro _;rfl):JS X (.For tg iter x [] pos) (nj src dtg T):=by
 unfold JS;unfold JI at hi;unfold JG at hg;unfold JB at hb;exact CB (Cm (by rw[hx];exact PassesOwn.never) hc hi hg hb hs)
theorem bO{k:Nat}{x:Str}(hN:X.N.Nodup)(hx:Loc X.env.scope x)(he:JE X e te)(hf:X.fn x=true∨X.env.scope.names.lookup x=some .local:=by first|exact .inl rfl|exact .inr rfl)(h:iO e=true:=by rfl)(hi:X.N[k]?=some x:=by rfl):JS X (.Assign [.Name x pos'] e pos) (bP k te):=by
 unfold JS;unfold JE at he;exact CL (A3 hN hi hx he hf h)
theorem kX{scope:Scope}{Nc:List Str}{elt tg iter:Expr}{ifs:List Expr}{src:DI}{fr:List (Option Nat)}{dtg:eM}{k:Nat}{x:Str}(hN:X.N.Nodup)(hl:Loc X.env.scope x)(S:bj X scope Nc fr)(hi:JI X tg iter src)(hg:∀C s H ex,JG (d8 X scope Nc C s H ex) tg dtg)(ht:∀C s H ex,JC (d8 X scope Nc C s H ex) ifs t)(he:∀C s H ex,JE (d8 X scope Nc C s H ex) elt te)(fit:m9 fr dtg)
 (hf:X.fn x=true∨X.env.scope.names.lookup x=some .local:=by first|exact .inl rfl|exact .inr rfl) (hsw:swapsWith (.ListComp elt [⟨tg,iter,ifs,0⟩] scope p) (some (.Name x pos')) pos.line X.env=pure true:=by rfl) (hni:X.N[k]?=some x:=by rfl) (hx:X.xe=fun _ _=>False:=by rfl) (hc:X.calm=true:=by rfl) (hs:∀x,foldedSetIterable iter X.env x=pure x:=by intro _;rfl):
 JS X (.Assign [.Name x pos'] (.ListComp elt [⟨tg,iter,ifs,0⟩] scope p) pos) (bP k (dm src fr dtg t te)):=by
 unfold JS;unfold JE JI JG JC at*;exact AY fit (vj hx hc S hi hg ht he hN hni hl hf hsw hs)
theorem yO{scope:Scope}{Nc:List Str}{elt tg iter:Expr}{ifs:List Expr}{src:DI}{fr:List (Option Nat)}{dtg:eM}{k:Nat}{x:Str}(hN:X.N.Nodup)(hl:Loc X.env.scope x)(S:bj X scope Nc fr)(hi:JI X tg iter src)(hg:∀C s H ex,JG (d8 X scope Nc C s H ex) tg dtg)(ht:∀C s H ex,JC (d8 X scope Nc C s H ex) ifs t)(he:∀C s H ex,JE (d8 X scope Nc C s H ex) elt te)(fit:m9 fr dtg)
 (hf:X.fn x=true∨X.env.scope.names.lookup x=some .local:=by first|exact .inl rfl|exact .inr rfl) (hsw:swapsWith (.ListComp elt [⟨tg,iter,ifs,0⟩] scope p) (some (.Name x pos')) pos.line X.env=pure true:=by rfl) (hni:X.N[k]?=some x:=by rfl) (hx:X.xe=fun _ _=>False:=by rfl) (hc:X.calm=true:=by rfl) (hs:∀x,foldedSetIterable iter X.env x=pure x:=by intro _;rfl):
 JS X (.Assign [.Name x pos'] (.ListComp elt [⟨tg,iter,ifs,0⟩] scope p) pos) (bP k (i8 src fr dtg t te)):=by
 unfold JS;unfold JE JI JG JC at*;exact yH fit (vj hx hc S hi hg ht he hN hni hl hf hsw hs)
theorem eh(he:JE X e te)(ho:JE X o to)(hi:JE X i ti)(h1:iO e=true:=by rfl)(h2:hJ i=true:=by rfl):JS X (.Assign [.Subscript o i pos'] e pos) (dO to ti te):=by unfold JS;unfold JE at*;exact ug (CF he ho hi h1 h2)
theorem C5{k:Nat}{x:Str}{op:Operator}{f:Int→Int→Int}(hN:X.N.Nodup)(hx:Loc X.env.scope x)(he:JE X e te)(ho:Cg X op (DF f))(hf:X.fn x=true∨X.env.scope.names.lookup x=some .local:=by first|exact .inl rfl|exact .inr rfl)(hi:X.N[k]?=some x:=by rfl):JS X (.AugAssign (.Name x pos') op e pos) (wa k (tw f) te):=by
 unfold JS;unfold JE at he;exact Dc (DQ hN hi hx he ho hf)
theorem xR{tg:Expr}{dtg:eM}(he:JE X e te)(hg:JG X tg dtg)(hs:swapsWithSole [tg] e pos.line X.env=pure false:=by rfl)(hw:swappedStores [tg] e X.env=pure none:=by rfl)(h1:(assignEach [tg] X.env).map (·.2)=[assign tg X.env]:=by rfl):JS X (.Assign [tg] e pos) (vQ dtg te):=by
 unfold JS;unfold JE at he;unfold JG at hg;exact CA (pM he hg hs hw h1)
end
theorem cW{P:Program}{w:World}{K:PySem.W.Frag}{mg:Str→Option Value}{base:Heap}{x qual:Str}{st:Stmt}{f:Addr}{fd:FuncData}{N ps:List Str}{k:Nat}{sp:dc}{t:DS}(F:k_ K x qual st f fd)(S:bw N ps (ai st))
 (hbody:∀(cdv:Value) (A:Around) (outer:List Env) (s:Shared) (H:Hp) (E:XK),cC k (A.deeper (envOfC qual (ai st) s.heap.objs.size f cdv))→JB (lB aU P w K mg base N qual (ai st) f cdv A outer s H E).qM (bf st) t)
 (hsp:∀ds st K,sp ds st K→ds.length=ps.length∧t {nx:=fun _ st'=>K .aJ st',rt:=K} (bG N ds) st):aB P w K mg base aU (k+1) f fd ps (aX sp):=by
 unfold JB at hbody;exact EI F S hbody hsp
end L3
namespace HT
open PySem PyProof.Rows
section
variable {prog:Program}{w:World}{A:Around}{E:Value→Shared→Prop}{s:Shared}
theorem mD{t sl:Addr}{items:Array Value}{vl vu:Value}{lo hi:Option Int}{Q:Value→Shared→Prop}(ht:IsTup s.heap t items)(hs:s.heap.IsSliceOf sl vl vu .none)(pl:IsPart vl lo)(pu:IsPart vu hi)
 (hw:bE items.size 0 lo=0∧bE items.size items.size hi=items.size) (h:Q (.ref t) s):wpAny (model prog w) A (getItem (.ref t) (.ref sl)) Q E s:=by
 obtain⟨os,hos,hcs,hds⟩:=id hs
 have hTs:s.TypeIs (.ref sl) "slice":=⟨os,hos,hcs⟩
 unfold getItem
 try with_reducible refine wpAny_holding ?_
 first|refine wpAny_bind (wpAny_pure ?_)|skip
 refine wpAny_bind (wpAny_sequenceKey ht.typeIs (by decide) ?_)
 refine wpAny_bind (wpAny_callSpecial?_slot (name:=Str.ofString "__getitem__") ht.typeIs PyProof.Rows.slot_tuple_getitem
  (wpAny_call_entry PyProof.Rows.slot_tuple_getitem ht.typeIs entry_tuple_getitem ?_ (args_tuple_getitem _ _)))
 show wpAny _ _ (Builtin.Tuple.tupleItemsOf (.ref t) >>= _) _ _ s
 refine wpAny_bind (tupleItemsOf_ ht ?_)
 refine wpAny_bind (wpAny_typeOf hTs ?_)
 rw[if_pos (by decide)]
 refine wpAny_bind (j4 hs pl pu ?_)
 have hyes:(((bE items.size 0 lo:Nat):Int)==0&&(1:Int)==1&&(bE items.size items.size hi-bE items.size 0 lo)==items.size)=true:=by
  rw[hw.1,hw.2]
  simp
 show wpAny _ _ (if(((bE items.size 0 lo:Nat):Int)==0&&(1:Int)==1&&(bE items.size items.size hi-bE items.size 0 lo)==items.size)=true then _ else _) _ _ s
 rw[if_pos hyes]
 refine wpAny_bind ?_
 unfold Builtin.Tuple.tupleIsExact
 exact wpAny_bind (wpAny_typeOf ht.typeIs (wpAny_pure (wpAny_bind (wpAny_rule (wpAny_pure ⟨_,rfl,wpAny_pure h⟩)))))
end
end HT
namespace L3
open PySem L2
open PySem.Spec hiding items?
open PyProof.Rows hiding St
abbrev DO:=bF→af→(Option Int→af→Prop)→Prop
def ib:DO:=fun _ st K=>K none st
def kq(t:DE):DO:=fun σ st K=>t σ st fun d st1=>match d with| .int i=>K (some i) st1|_=>False
def cutD(xs:List D)(lo hi:Option Int):List D:=(xs.drop (HT.bE xs.length 0 lo)).take (HT.bE xs.length xs.length hi-HT.bE xs.length 0 lo)
def sU(d:D)(lo hi:Option Int)(st:af)(K:DK):Prop:=match d with
 | .lst xs=>K (.lst (cutD xs lo hi)) st
 | .tup xs=>K (.tup (cutD xs lo hi)) st
 | .ref n=>(match st[n]? with|some (.lst xs)=>K (.lst (cutD xs lo hi)) st|_=>False)
 |_=>False
@[irreducible] def iE:D→Option Int→Option Int→af→DK→Prop:=sU
def jj(t:DE)(lo hi:DO):DE:=fun σ st K=>t σ st fun d st1=>lo σ st1 fun l st2=>hi σ st2 fun u st3=>iE d l u st3 K
theorem oR{α:List (Option Addr)}{G:Hp}{xs:List D}{vs:List V}{lo hi:Option Int}(r:aH α G xs vs):aH α G (cutD xs lo hi) (lH vs lo hi):=by
 unfold cutD lH
 rw[←r.length]
 exact ba.mpr (oy _ (oh _ (ba.mp r)))
def GC(α:List (Option Addr))(G F:Hp)(K:Option Int→af→Prop)(Q:Option Int→Hp→Prop):Prop:=∀o st',K o st'→∀α' G' H',Step α G α' G'→bL G' F H'→aR α' st' G'→Q o H'
inductive Fp(t:DO)(σ:L2.St)(H:Hp)(Q:Option Int→Hp→Prop):Prop
 |mk (α:List (Option Addr)) (σd:bF) (st:af) (K:Option Int→af→Prop) (G F:Hp) (P:bL G F H) (R:dt α G σd σ) (S:aR α st G) (h:t σd st K) (k:GC α G F K Q):Fp t σ H Q
def LO(t:DO):TO:=Fp t
section
variable {X:Cx}
theorem PO.imp{e:Option Expr}{t t':TO}(h:PO X e t)(f:∀σ H Q,t' σ H Q→t σ H Q):PO X e t':=fun pins s σ H Q I q=>h pins s σ H Q I (f σ H Q q)
theorem BB:PO X none (LO ib):=PO.imp Bq fun σ H Q ⟨α,σd,st,K,G,F,P,R,S,t,k⟩=>k none st t α G H Step.refl P S
theorem Ar{e:Expr}{te:DE}(h:PE X e (LE te)):PO X (some e) (LO (kq te)):=PO.imp (Ay h) fun σ H Q ⟨α,σd,st,K,G,F,P,R,S,t,k⟩=>by
 refine⟨α,σd,st,_,G,F,P,R,S,t,fun d st1 q α1 G1 H1 v s1 P1 S1 r1=>?_⟩
 cases d<;>try exact q.elim
 unfold Rep at r1
 exact⟨_,r1,k _ st1 q α1 G1 H1 s1 P1 S1⟩
def GH(x:V)(lo hi:Option Int)(H:Hp)(Q:VK):Prop:=∃α d st K G F,bL G F H∧Rep α G d x∧aR α st G∧iE d lo hi st K∧LK α G F K Q
theorem A5:wN X (fun x lo hi H Q=>∃a xs,x= .ref a∧H a=some (.tup xs)∧((HT.bE xs.length 0 lo=0∧HT.bE xs.length xs.length hi=xs.length)→Q (.ref a) H)∧(¬(HT.bE xs.length 0 lo=0∧HT.bE xs.length xs.length hi=xs.length)→∀p,H p=none→Q (.ref p) (upd H p (.tup (lH xs lo hi))))):=by
 intro pins s σ H x v vl vu lo hi sl Q I rx hs pl pu h
 obtain⟨a,xs,rfl,hx,q1,q2⟩:=h
 by_cases hw:HT.bE xs.length 0 lo=0∧HT.bE xs.length xs.length hi=xs.length
 · cases rx
   obtain⟨its,r,ht,hz⟩:=I.tuple (gR.of hx)
   have hlen:its.toArray.size=xs.length:=by rw[List.size_toArray];exact r.length.symm
   exact⟨"tuple",_,PyProof.Rows.slot_tuple_getitem.lookup,ht.typeIs,HT.mD ht hs pl pu (by rw[hlen];exact hw) ⟨.ref a,H,I,rfl,q1 hw⟩⟩
 · exact C6 pins s σ H _ v vl vu lo hi sl Q I rx hs pl pu ⟨a,xs,rfl,.of hx,hw,q2 hw⟩
theorem w9{xs:List D}{lo hi:Option Int}(hw:HT.bE xs.length 0 lo=0∧HT.bE xs.length xs.length hi=xs.length):cutD xs lo hi=xs:=by
 unfold cutD
 rw[hw.1,hw.2]
 simp
theorem CY:wN X GH:=by
 intro pins s σ H x v vl vu lo hi sl Q I rx hs pl pu ⟨α,d,st,K,G,F',P,r1,S,q,k⟩
 unfold iE sU at q
 cases d<;>try exact q.elim
 · rename_i n
   simp only at q
   split at q
   · rename_i xs e
     obtain⟨a,ea,vs,h1,h2⟩:=S.gd e
     have r1':=et ea r1
     subst r1'
     exact u_ pins s σ H _ v vl vu lo hi sl Q I rx hs pl pu ⟨a,vs,rfl,.inl (.of (P.get h1)),fun p hp=>k.lst P q S (oR h2) hp⟩
   · exact q.elim
 · unfold Rep at r1
   obtain⟨a,vs,rfl,na,ha,ra⟩:=r1
   exact u_ pins s σ H _ v vl vu lo hi sl Q I rx hs pl pu ⟨a,vs,rfl,.inl (gH P ha),fun p hp=>k.lst P q S (oR ra) hp⟩
 · rename_i xs
   have r0:=r1
   unfold Rep at r1
   obtain⟨a,vs,rfl,na,ha,ra⟩:=r1
   refine A5 pins s σ H _ v vl vu lo hi sl Q I rx hs pl pu ⟨a,vs,rfl,P.get ha,fun hw=>?_,fun _ p hp=>k.tup P q S (oR ra) hp⟩
   rw[←ra.length]at hw
   simp only at q
   rw[w9 hw]at q
   exact k.here P q S r0
theorem BG{e:Expr}{lo hi:Option Expr}{te:DE}{tl th:DO}{p2 pos:Pos}(he:PE X e (LE te))(hl:PO X lo (LO tl))(hh:PO X hi (LO th)):PE X (.Subscript e (.Slice lo hi none p2) pos) (LE (jj te tl th)):=PE.imp (yD CY he hl hh) fun σ H Q ⟨α,σd,st,K,G,F,P,R,S,t,k⟩=>by
 refine⟨α,σd,st,_,G,F,P,R,S,t,fun d st1 q α1 G1 H1 v s1 P1 S1 r1=>?_⟩
 refine⟨α1,σd,st1,_,G1,F,P1,R.step s1,S1,q,fun l st2 q2 α2 G2 H2 s2 P2 S2=>?_⟩
 refine⟨α2,σd,st2,_,G2,F,P2,(R.step s1).step s2,S2,q2,fun u st3 q3 α3 G3 H3 s3 P3 S3=>?_⟩
 exact⟨α3,d,st3,K,G3,F,P3,(r1.step s2).step s3,S3,q3,((k.at s1).at s2).at s3⟩
@[irreducible] def JO(X:Cx)(e:Option Expr)(t:DO):Prop:=PO X e (LO t)
theorem jJ:JO X none ib:=by unfold JO;exact BB
theorem jI{e:Expr}{te:DE}(h:JE X e te):JO X (some e) (kq te):=by unfold JO;unfold JE at h;exact Ar h
theorem jH{e:Expr}{lo hi:Option Expr}{te:DE}{tl th:DO}{p2 pos:Pos}(he:JE X e te)(hl:JO X lo tl)(hh:JO X hi th):JE X (.Subscript e (.Slice lo hi none p2) pos) (jj te tl th):=by unfold JE at*;unfold JO at*;exact BG he hl hh
end
theorem yb{st:af}{K:DK}{xs:List D}{lo hi:Option Int}(k:K (.lst (cutD xs lo hi)) st):iE (.lst xs) lo hi st K:=by unfold iE;exact k
theorem kn{st:af}{K:DK}{xs:List D}{lo hi:Option Int}(k:K (.tup (cutD xs lo hi)) st):iE (.tup xs) lo hi st K:=by unfold iE;exact k
theorem yr{st:af}{K:DK}{xs:List D}{lo hi:Option Int}{n:Nat}(h:st[n]?=some (.lst xs))(k:K (.lst (cutD xs lo hi)) st):iE (.ref n) lo hi st K:=by unfold iE sU;simp only[h];exact k
end L3
namespace L3
open PySem L2
open PySem.Spec hiding items?
open PyProof.Rows hiding St
section
variable {prog:Program}{w:World}{A:Around}{E:Value→Shared→Prop}{s:Shared}
theorem wI{iT tp:Addr}{n:Nat}{its:Array Value}{v:Value}{Q:Value→Shared→Prop}(hI:s.heap.IsTupleIter iT tp n)(hT:s.heap.IsTuple tp its)(hv:its[n]?=some v)
 (q:∀g,g.IsTupleIter iT tp (n+1)→Heap.SameBut iT s.heap g→Q v {s with heap:=g}):wpAny (model prog w) A (Builtin.SmallTypes.nextOf (.ref iT)) Q E s:=by
 obtain⟨oI,eI,cI,dI⟩:=id hI
 obtain⟨oT,eT,_,nT,dT⟩:=hT
 unfold Builtin.SmallTypes.nextOf
 refine wpAny_bind (wpAny_callSpecial?_slot (name:=Str.ofString "__next__") hI.typeIs F.slot_tuple_iterator_next (wpAny_call_entry F.slot_tuple_iterator_next hI.typeIs F.entry_tuple_iterator_next ?_ (F.args_tuple_iterator_next_1 _)))
 show wpAny _ _ (field (.ref iT) 0 >>= _) _ _ s
 refine wpAny_bind (wpAny_field eI dI (x:= .ref tp) rfl ?_)
 show wpAny _ _ (if(Value.ref tp==Value.none)=true then _ else _) _ _ s
 rw[if_neg (show¬((Value.ref tp==Value.none)=true)from Bool.false_ne_true)]
 show wpAny _ _ (field (.ref iT) 1 >>= _) _ _ s
 refine wpAny_bind (wpAny_field eI dI (x:= .int n 0) rfl ?_)
 show wpAny _ _ (seqItems? (.ref tp) >>= _) _ _ s
 refine wpAny_bind (wpAny_seqItems eT dT ?_)
 simp only[Int.toNat_natCast,hv]
 refine wpAny_bind (wpAny_setField eI dI (by simp) (wpAny_pure ⟨v,rfl,wpAny_pure (q _ ?_ (Heap.SameBut.update ..))⟩))
 refine⟨_,Heap.get?_update_self _ eI (Obj.isFreed_of_fields (Obj.data_mapFields dI _)),(Obj.cls_mapFields ..).trans cI,?_⟩
 rw[Obj.data_mapFields dI]
 simp[rawInt]
theorem w_{iT tp:Addr}{n:Nat}{its:Array Value}{Q:Value→Shared→Prop}(hh:A.handled=none)(hI:s.heap.IsTupleIter iT tp n)(hT:s.heap.IsTuple tp its)(hv:its[n]?=none)
 (q:∀g e,Heap.ExtBut iT s.heap g→(∃o,g.get? e=some o∧o.cls= .type "StopIteration")→E (.ref e) {s with heap:=g}):wpAny (model prog w) A (Builtin.SmallTypes.nextOf (.ref iT)) Q E s:=by
 obtain⟨oI,eI,cI,dI⟩:=id hI
 obtain⟨oT,eT,_,nT,dT⟩:=hT
 unfold Builtin.SmallTypes.nextOf
 refine wpAny_bind (wpAny_callSpecial?_slot (name:=Str.ofString "__next__") hI.typeIs F.slot_tuple_iterator_next (wpAny_call_entry F.slot_tuple_iterator_next hI.typeIs F.entry_tuple_iterator_next ?_ (F.args_tuple_iterator_next_1 _)))
 show wpAny _ _ (field (.ref iT) 0 >>= _) _ _ s
 refine wpAny_bind (wpAny_field eI dI (x:= .ref tp) rfl ?_)
 show wpAny _ _ (if(Value.ref tp==Value.none)=true then _ else _) _ _ s
 rw[if_neg (show¬((Value.ref tp==Value.none)=true)from Bool.false_ne_true)]
 show wpAny _ _ (field (.ref iT) 1 >>= _) _ _ s
 refine wpAny_bind (wpAny_field eI dI (x:= .int n 0) rfl ?_)
 show wpAny _ _ (seqItems? (.ref tp) >>= _) _ _ s
 refine wpAny_bind (wpAny_seqItems eT dT ?_)
 simp only[Int.toNat_natCast,hv]
 refine wpAny_bind (wpAny_rule (wpAny_bind (wpAny_setField eI dI (by simp) ?_)))
 show wpAny _ _ (newExc (.type "StopIteration") [] >>= _) _ _ _
 refine wpAny_bind ?_
 simp only[newExc,newTuple]
 refine wpAny_bind (wpAny_newObj_type ?_ (by size_fits))
 refine wpAny_bind (m:=firstArgMember _ _) (wpAny_of_eq (a:=Value.none) (by first|rfl|(simp only[firstArgMember];rfl)) ?_)
 refine wpAny_newObj_type ?_ (by size_fits)
 simp only[raiseNew]
 refine wpAny_bind (wpAny_handled ?_)
 first|rw[show A.in1.handled=none from hh]|rw[hh]
 refine wpAny_bind (wpAny_pure (wpAny_throw ?_))
 exact q _ _ (((Heap.SameBut.update ..).extBut.push _).push _) ⟨_,Heap.get?_push_size _ rfl,rfl⟩
end
end L3
namespace L3
open PySem L2
open PySem.Spec hiding items?
open PyProof.Rows hiding St
section
variable {st:af}{K:DK}{i j:Int}{b c:Bool}{xs ys:List D}{d e:D}{n:Nat}
theorem eqT(h:i=j)(k:K (.bl true) st):gg (.int i) (.int j) st K:=yf (by rw[decide_eq_true h];exact k)
theorem mv(h:i≠j)(k:K (.bl false) st):gg (.int i) (.int j) st K:=yf (by rw[decide_eq_false h];exact k)
theorem eq2(h1:i=j→K (.bl true) st)(h2:i≠j→K (.bl false) st):gg (.int i) (.int j) st K:=by
 by_cases h:i=j
 · exact eqT h (h1 h)
 · exact mv h (h2 h)
theorem neT(h:i≠j)(k:K (.bl true) st):ow (.int i) (.int j) st K:=zY (by rw[decide_eq_false h];exact k)
theorem Gz(h:i=j)(k:K (.bl false) st):ow (.int i) (.int j) st K:=zY (by rw[decide_eq_true h];exact k)
theorem ne2(h1:i≠j→K (.bl true) st)(h2:i=j→K (.bl false) st):ow (.int i) (.int j) st K:=by
 by_cases h:i=j
 · exact Gz h (h2 h)
 · exact neT h (h1 h)
theorem Fs(h:i<j)(k:K (.bl true) st):mx (.int i) (.int j) st K:=vP (by rw[decide_eq_true h];exact k)
theorem Fo(h:j≤i)(k:K (.bl false) st):mx (.int i) (.int j) st K:=vP (by rw[decide_eq_false (by omega)];exact k)
theorem Fi(h1:i<j→K (.bl true) st)(h2:j≤i→K (.bl false) st):mx (.int i) (.int j) st K:=by
 by_cases h:i<j
 · exact Fs h (h1 h)
 · exact Fo (by omega) (h2 (by omega))
theorem GI(h:j<i)(k:K (.bl true) st):lb (.int i) (.int j) st K:=nA (by rw[decide_eq_true h];exact k)
theorem GJ(h:i≤j)(k:K (.bl false) st):lb (.int i) (.int j) st K:=nA (by rw[decide_eq_false (by omega)];exact k)
theorem Fh(h1:j<i→K (.bl true) st)(h2:i≤j→K (.bl false) st):lb (.int i) (.int j) st K:=by
 by_cases h:j<i
 · exact GI h (h1 h)
 · exact GJ (by omega) (h2 (by omega))
theorem GP{P:Prop}(h:xs.length≤1000)(k:P):xs.length≤sizeLine∧P:=⟨by rw[sizeLine_eq];omega,k⟩
theorem bU{m:Nat}(h:m≤1000):m≤sizeLine:=by rw[sizeLine_eq];omega
theorem qm(h0:0≤i)(e:xs[i.toNat]?=some d):eK xs i=some d:=by
 have:=iq e
 rw[Int.toNat_of_nonneg h0]at this
 exact this
theorem mX{m:Nat}(h0:0≤i)(h:i.toNat<m):jr m i=some i.toNat:=by
 unfold jr
 have:i<(m:Int):=by omega
 simp[h0,this]
end
theorem qd{tg:eM}{body:DS}{ok:af→Prop}{E:jE}(I:List D→bF→af→Prop)(hend:∀σ st,I [] σ st→ok st∧E.nx σ st)
 (hstep:∀x xs σ st,I (x::xs) σ st→(∀σ' st',I xs σ' st'→gv tg body ok E xs σ' st')→ok st∧∃σ1,tg x σ=some σ1∧body {E with nx:=gv tg body ok E xs,ct:=gv tg body ok E xs,bk:=E.nx} σ1 st):
 ∀xs σ st,I xs σ st→gv tg body ok E xs σ st
 | [],σ,st,h=>by unfold gv;exact hend σ st h
 |x::xs,σ,st,h=>by unfold gv;exact hstep x xs σ st h fun σ' st' h'=>qd I hend hstep xs σ' st' h'
theorem gp{tg:eM}{c:DT}{te:DE}{ok:af→Prop}{σc:bF}{K:List D→af→Prop}(I:List D→List D→af→Prop)(hend:∀acc st,I [] acc st→ok st∧K acc st)
 (hstep:∀x xs acc st,I (x::xs) acc st→(∀acc' st',I xs acc' st'→cZ tg c te ok σc xs acc' st' K)→ok st∧∃σ2,tg x σc=some σ2∧c σ2 st fun b st1=>if b=true then te σ2 st1 fun y st2=>cZ tg c te ok σc xs (acc++[y]) st2 K else cZ tg c te ok σc xs acc st1 K):
 ∀xs acc st,I xs acc st→cZ tg c te ok σc xs acc st K
 | [],acc,st,h=>by unfold cZ;exact hend acc st h
 |x::xs,acc,st,h=>by unfold cZ;exact hstep x xs acc st h fun acc' st' h'=>gp I hend hstep xs acc' st' h'
theorem comp_map{tg:eM}{te:DE}{ok:af→Prop}{σc:bF}{st:af}{K:List D→af→Prop}{g:D→D}(aL:ok st)(xs:List D)(hx:∀x∈xs,∀K',K' (g x) st→∃σ2,tg x σc=some σ2∧te σ2 st K')(k:K (xs.map g) st):cZ tg cy te ok σc xs [] st K:=by
 refine gp (fun r acc st'=>st'=st∧(∀x∈r,x∈xs)∧acc++r.map g=xs.map g) (fun acc st' h=>?_) (fun x r acc st' h next=>?_) xs [] st ⟨rfl,fun _ h=>h,rfl⟩
 · obtain⟨rfl,_,e⟩:=h
   rw[List.map_nil,List.append_nil]at e
   rw[e];exact⟨aL,k⟩
 · obtain⟨rfl,hm,e⟩:=h
   obtain⟨σ2,e2,q⟩:=hx x (hm x List.mem_cons_self) (fun y st2=>cZ tg cy te ok σc r (acc++[y]) st2 K) (next _ _ ⟨rfl,fun z hz=>hm z (List.mem_cons_of_mem _ hz),by rw[←e];simp⟩)
   exact⟨aL,σ2,e2,q⟩
theorem gN{A B:DS}{E:jE}{σ:bF}{st:af}(J:bF→af→Prop)(h:∀nx,(∀σ' st',J σ' st'→nx σ' st')→A {E with nx:=nx} σ st)(k:∀σ' st',J σ' st'→B E σ' st'):aS A B E σ st:=h (B E) k
def Cy(n:Nat)(K:DK)(y:D)(st2:af):Prop:=∃y',[y]=[y']∧(match st2[n]? with|some (.lst xs)=>xs.length<sizeLine∧K .aJ (st2.set n (.lst (xs++[y'])))|_=>False)
theorem AA{n:Nat}{K:DK}{y:D}{st:af}{xs:List D}(e:st[n]?=some (.lst xs))(h:xs.length<sizeLine)(k:K .aJ (st.set n (.lst (xs++[y])))):Cy n K y st:=by
 refine⟨y,rfl,?_⟩;simp only[e];exact⟨h,k⟩
@[irreducible] def kL(to te:DE):DE:=kZ to te
theorem Dk{σ:bF}{st:af}{K:DK}{i n:Nat}{xs:List D}{te:DE}(ei:σ[i]?=some (some (.ref n)))(e:st[n]?=some (.lst xs))(h:te σ st (Cy n K)):kL (aa i) te σ st K:=by
 unfold kL kZ aa
 simp only[ei,e]
 exact h
theorem wU{X:Cx}{o e:Expr}{to te:DE}{apos cpos:Pos}(ho:JE X o to)(he:JE X e te)(hbase:attributeBase o "append" X.env (eval o X.env)=eval o X.env:=by rfl)(hline:(apos.endLine==cpos.line)=true:=by rfl)(hs:notStar e=true:=by rfl):JE X (.Call (.Attribute o "append" apos) [e] [] cpos) (kL to te):=by
 unfold kL;exact yX ho he hbase hline hs
section
variable {X:Cx}
end
end L3
namespace L3
open PySem L2
open PySem.Spec hiding items?
open PyProof.Rows hiding St
structure Src(P:Program)(w:World)(t a:Addr)(J:Nat→Heap→Prop)(us:Array Value):Prop where
 fr:∀n g k,J n g→(∀b,b=t∨b=a→∀o,g.get? b=some o→k.get? b=some o)→J n k
 lv:∀n g,J n g→(∃o,g.get? t=some o)∧∃o,g.get? a=some o
 nx:∀n (A:Around) (s:Shared) (Q:Value→Shared→Prop) (E:Value→Shared→Prop) v,J n s.heap→us[n]?=some v→(∀k,J (n+1) k→Heap.SameBut t s.heap k→Q v {s with heap:=k})→wpAny (model P w) A (Builtin.SmallTypes.nextOf (.ref t)) Q E s
 en:∀n (A:Around) (s:Shared) (Q:Value→Shared→Prop) (E:Value→Shared→Prop),A.handled=none→J n s.heap→us[n]?=none→(∀k e,Heap.ExtBut t s.heap k→(∃o,k.get? e=some o∧o.cls= .type "StopIteration")→E (.ref e) {s with heap:=k})→wpAny (model P w) A (Builtin.SmallTypes.nextOf (.ref t)) Q E s
section
variable {P:Program}{w:World}
theorem src_list(t a:Addr)(hne:a≠t)(us:Array Value):Src P w t a (fun n g=>g.IsListIter t a n∧g.IsList a us) us where
 fr:=fun n g k j kp=>⟨j.1.at fun o e=>kp t (.inl rfl) o e,j.2.at fun o e=>kp a (.inr rfl) o e⟩
 lv:=fun n g j=>⟨let⟨o,e,_⟩:=j.1;⟨o,e⟩,let⟨o,e,_⟩:=j.2;⟨o,e⟩⟩
 nx:=fun n A s Q E v j hv q=>wpAny_nextOf_list_item j.1 j.2 hv fun k jk sb=>q k ⟨jk,j.2.extBut sb.extBut hne⟩ sb
 en:=fun n A s Q E hh j hv q=>wpAny_nextOf_list_end hh j.1 j.2 hv q
theorem AV(t a:Addr)(hne:a≠t)(us:Array Value):Src P w t a (fun n g=>g.IsTupleIter t a n∧g.IsTuple a us) us where
 fr:=fun n g k j kp=>by
  obtain⟨⟨o,e,r⟩,⟨o2,e2,r2⟩⟩:=j
  exact⟨⟨o,kp t (.inl rfl) o e,r⟩,⟨o2,kp a (.inr rfl) o2 e2,r2⟩⟩
 lv:=fun n g j=>⟨let⟨o,e,_⟩:=j.1;⟨o,e⟩,let⟨o,e,_⟩:=j.2;⟨o,e⟩⟩
 nx:=fun n A s Q E v j hv q=>wI j.1 j.2 hv fun k jk sb=>q k ⟨jk,j.2.extBut sb.extBut hne⟩ sb
 en:=fun n A s Q E hh j hv q=>w_ hh j.1 j.2 hv q
theorem Src.ext{t a c:Addr}{J:Nat→Heap→Prop}{us:Array Value}(S:Src P w t a J us){n:Nat}{g k:Heap}(j:J n g)(x:Heap.ExtBut c g k)(h1:c≠t)(h2:c≠a):J n k:=
 S.fr n g k j fun b hb o e=>x b o (by rcases hb with rfl|rfl;exact Ne.symm h1;exact Ne.symm h2) e
structure vd(z ti to t1 t2 a1 a2:Addr):Prop where
 nd: [z,ti,to,t1,t2].Nodup
 a1:a1∉[z,ti,to,t1,t2]
 a2:a2∉[z,ti,to,t1,t2]
section
variable {z ti to t1 t2 a1 a2:Addr}
theorem vd.n(D:vd z ti to t1 t2 a1 a2):(ti≠z∧to≠z∧t1≠z∧t2≠z)∧(ti≠to∧ti≠t1∧ti≠t2)∧(to≠t1∧to≠t2)∧t1≠t2:=by
 have:=D.nd
 simp only[List.nodup_cons,List.mem_cons,not_or,List.not_mem_nil,not_false_eq_true,and_true,List.nodup_nil]at this
 obtain⟨⟨b1,b2,b3,b4⟩,⟨b5,b6,b7⟩,⟨b8,b9⟩,b10⟩:=this
 exact⟨⟨Ne.symm b1,Ne.symm b2,Ne.symm b3,Ne.symm b4⟩,⟨b5,b6,b7⟩,⟨b8,b9⟩,b10⟩
theorem yg{A:Around}{s:Shared}{E:Value→Shared→Prop}{J1 J2:Nat→Heap→Prop}{us vs:Array Value}{n:Nat}{x y a b:Value}{Q:Value→Shared→Prop}(D:vd z ti to t1 t2 a1 a2)(S1:Src P w t1 a1 J1 us)(S2:Src P w t2 a2 J2 vs)
 (Z:IsZip s.heap z ti to .none) (pI:IsPair s.heap ti (.ref t1) (.ref t2)) (pO:IsPair s.heap to a b) (j1:J1 n s.heap) (j2:J2 n s.heap) (ex:us[n]?=some x) (ey:vs[n]?=some y)
 (q:∀k,IsZip k z ti to (rawInt s.heap.objs.size)→IsPair k to x y→J1 (n+1) k→J2 (n+1) k→IsPair k s.heap.objs.size x y→k.objs.size=s.heap.objs.size+1→
   (∀c o,c≠z→c≠to→c≠t1→c≠t2→s.heap.get? c=some o→k.get? c=some o)→Q (.ref s.heap.objs.size) {s with heap:=k}):
 wpAny (model P w) A (Builtin.«zip.__next__» ⟨[.ref z],[]⟩) (fun fin s'=>∃v,fin= .done (.ret v)∧Q v s') E s:=by
 obtain⟨⟨n1,n2,n3,n4⟩,⟨n5,n6,n7⟩,⟨n8,n9⟩,n10⟩:=D.n
 have m1:=D.a1
 have m2:=D.a2
 simp only[List.mem_cons,not_or,List.not_mem_nil,not_false_eq_true,and_true]at m1 m2
 show wpAny _ _ (field (.ref z) 2 >>= _) _ _ _
 refine wpAny_bind (wpAny_field Z rfl (x:= .bool false) rfl ?_)
 show wpAny _ _ (field (.ref z) 3 >>= _) _ _ _
 refine wpAny_bind (wpAny_field Z rfl (x:= .ref ti) rfl ?_)
 refine wpAny_bind (wpAny_seqItems pI rfl ?_)
 show wpAny _ _ (Builtin.SmallTypes.ownedTupleIsFree (.ref z) >>= _) _ _ _
 refine wpAny_bind ?_
 unfold Builtin.SmallTypes.ownedTupleIsFree
 refine wpAny_bind (wpAny_field Z rfl (x:= .none) rfl (wpAny_pure ?_))
 simp only[if_true]
 refine wpAny_bind (wpAny_rule ?_)
 refine wpAny_bind (wpAny_field Z rfl (x:= .ref to) rfl ?_)
 refine wpAny_bind (wpAny_setField_rec Z (by simp) fun k1 Z1 b1=>?_)
 replace Z1:IsZip k1 z ti to .ellipsis:=Z1
 refine wpAny_bind ?_
 simp only[List.zipIdx_cons,List.zipIdx_nil,List.forIn_cons,List.forIn_nil]
 refine wpAny_bind (wpAny_bind (wpAny_onRaise ?_))
 show wpAny _ _ (Builtin.SmallTypes.nextOf (.ref t1) >>= _) _ _ _
 refine wpAny_bind (S1.nx n _ _ _ _ x (S1.ext j1 b1.extBut (Ne.symm n3) (Ne.symm m1.1)) ex fun k2 j1b b2=>wpAny_pure ?_)
 have pO2:IsPair k2 to a b:=b2.extBut _ _ n8 (b1.extBut _ _ n2 pO)
 refine wpAny_bind (wpAny_seqItems pO2 rfl ?_)
 refine wpAny_bind (wpAny_updateSeq_pair pO2 fun k3 pO3 b3=>?_)
 replace pO3:IsPair k3 to x b:=pO3
 refine wpAny_bind (wpAny_letGo (wpAny_pure ?_))
 refine wpAny_bind (wpAny_bind (wpAny_onRaise ?_))
 show wpAny _ _ (Builtin.SmallTypes.nextOf (.ref t2) >>= _) _ _ _
 have j2c:J2 n k3:=S2.ext (S2.ext (S2.ext j2 b1.extBut (Ne.symm n4) (Ne.symm m2.1)) b2.extBut n10 (Ne.symm m2.2.2.2.1)) b3.extBut n9 (Ne.symm m2.2.2.1)
 refine wpAny_bind (S2.nx n _ _ _ _ y j2c ey fun k4 j2d b4=>wpAny_pure ?_)
 have pO4:IsPair k4 to x b:=b4.extBut _ _ n9 pO3
 refine wpAny_bind (wpAny_seqItems pO4 rfl ?_)
 refine wpAny_bind (wpAny_updateSeq_pair pO4 fun k5 pO5 b5=>?_)
 replace pO5:IsPair k5 to x y:=pO5
 refine wpAny_bind (wpAny_letGo (wpAny_pure (wpAny_pure ?_)))
 refine wpAny_bind (wpAny_seqItems pO5 rfl ?_)
 refine wpAny_bind (wpAny_newTuple ?_)
 have sz:k5.objs.size=s.heap.objs.size:=by rw[b5.1,b4.1,b3.1,b2.1,b1.1]
 have Z5:IsZip k5 z ti to .ellipsis:=b5.extBut _ _ (Ne.symm n2) (b4.extBut _ _ (Ne.symm n4) (b3.extBut _ _ (Ne.symm n2) (b2.extBut _ _ (Ne.symm n3) Z1)))
 have kp5:∀c o,c≠z→c≠to→c≠t1→c≠t2→s.heap.get? c=some o→k5.get? c=some o:=fun c o c1 c2 c3 c4 e=>b5.extBut _ _ c2 (b4.extBut _ _ c4 (b3.extBut _ _ c2 (b2.extBut _ _ c3 (b1.extBut _ _ c1 e))))
 have j1e:J1 (n+1) k5:=S1.ext (S1.ext (S1.ext j1b b3.extBut n8 (Ne.symm m1.2.2.1)) b4.extBut (Ne.symm n10) (Ne.symm m1.2.2.2.2)) b5.extBut n8 (Ne.symm m1.2.2.1)
 have j2e:J2 (n+1) k5:=S2.ext j2d b5.extBut n9 (Ne.symm m2.2.2.1)
 have ltz:z<k5.objs.size:=Heap.lt_size Z5
 show wpAny _ _ (Builtin.SmallTypes.ownedTupleHandOut (.ref z) (.ref k5.objs.size) >>= _) _ _ _
 refine wpAny_bind ?_
 unfold Builtin.SmallTypes.ownedTupleHandOut
 have Z6:IsZip (k5.push {cls:= .type "tuple",data:= .seq #[x,y]}) z ti to .ellipsis:=Heap.get?_push_of_some _ Z5
 refine wpAny_bind (wpAny_setField_rec Z6 (by simp) fun k7 Z7 b7=>?_)
 replace Z7:IsZip k7 z ti to (rawInt k5.objs.size):=Z7
 refine wpAny_setField_rec Z7 (by simp) fun k8 Z8 b8=>?_
 replace Z8:IsZip k8 z ti to (rawInt k5.objs.size):=Z8
 have up:∀c o,c≠z→k5.get? c=some o→k8.get? c=some o:=fun c o c1 e=>b8.extBut _ _ c1 (b7.extBut _ _ c1 (Heap.get?_push_of_some _ e))
 have pT:IsPair k8 k5.objs.size x y:=b8.extBut _ _ (Nat.ne_of_gt ltz) (b7.extBut _ _ (Nat.ne_of_gt ltz) (Heap.get?_push_size _ rfl))
 have sz8:k8.objs.size=k5.objs.size+1:=by rw[b8.1,b7.1,Heap.size_push]
 rw[sz]at Z8 pT sz8
 refine wpAny_pure ⟨_,rfl,?_⟩
 show Q (.ref k5.objs.size) _
 rw[sz]
 refine q k8 Z8 (up _ _ n2 pO5) (S1.fr _ _ _ j1e fun b hb o e=>up b o ?_ e) (S2.fr _ _ _ j2e fun b hb o e=>up b o ?_ e) pT sz8 fun c o c1 c2 c3 c4 e=>up c o c1 (kp5 c o c1 c2 c3 c4 e)
 · rcases hb with rfl|rfl
   · exact n3
   · exact m1.1
 · rcases hb with rfl|rfl
   · exact n4
   · exact m2.1
theorem zb{A:Around}{s:Shared}{E:Value→Shared→Prop}{J1 J2:Nat→Heap→Prop}{us vs:Array Value}{n:Nat}{a b:Value}{Q:Fin→Shared→Prop}(hh:A.handled=none)(D:vd z ti to t1 t2 a1 a2)(S1:Src P w t1 a1 J1 us)(S2:Src P w t2 a2 J2 vs)
 (Z:IsZip s.heap z ti to .none) (pI:IsPair s.heap ti (.ref t1) (.ref t2)) (pO:IsPair s.heap to a b) (j1:J1 n s.heap) (j2:J2 n s.heap) (he:us[n]?=none∨vs[n]?=none)
 (q:∀k e,(∀c o,c≠z→c≠to→c≠t1→c≠t2→s.heap.get? c=some o→k.get? c=some o)→(∃o,k.get? e=some o∧o.cls= .type "StopIteration")→E (.ref e) {s with heap:=k}):
 wpAny (model P w) A (Builtin.«zip.__next__» ⟨[.ref z],[]⟩) Q E s:=by
 obtain⟨⟨n1,n2,n3,n4⟩,⟨n5,n6,n7⟩,⟨n8,n9⟩,n10⟩:=D.n
 have m1:=D.a1
 have m2:=D.a2
 simp only[List.mem_cons,not_or,List.not_mem_nil,not_false_eq_true,and_true]at m1 m2
 show wpAny _ _ (field (.ref z) 2 >>= _) _ _ _
 refine wpAny_bind (wpAny_field Z rfl (x:= .bool false) rfl ?_)
 show wpAny _ _ (field (.ref z) 3 >>= _) _ _ _
 refine wpAny_bind (wpAny_field Z rfl (x:= .ref ti) rfl ?_)
 refine wpAny_bind (wpAny_seqItems pI rfl ?_)
 show wpAny _ _ (Builtin.SmallTypes.ownedTupleIsFree (.ref z) >>= _) _ _ _
 refine wpAny_bind ?_
 unfold Builtin.SmallTypes.ownedTupleIsFree
 refine wpAny_bind (wpAny_field Z rfl (x:= .none) rfl (wpAny_pure ?_))
 simp only[if_true]
 refine wpAny_bind (wpAny_rule ?_)
 refine wpAny_bind (wpAny_field Z rfl (x:= .ref to) rfl ?_)
 refine wpAny_bind (wpAny_setField_rec Z (by simp) fun k1 Z1 b1=>?_)
 replace Z1:IsZip k1 z ti to .ellipsis:=Z1
 refine wpAny_bind ?_
 simp only[List.zipIdx_cons,List.zipIdx_nil,List.forIn_cons,List.forIn_nil]
 refine wpAny_bind (wpAny_bind (wpAny_onRaise ?_))
 show wpAny _ _ (Builtin.SmallTypes.nextOf (.ref t1) >>= _) _ _ _
 have j1a:J1 n k1:=S1.ext j1 b1.extBut (Ne.symm n3) (Ne.symm m1.1)
 cases ex:us[n]? with
 |none=>
  refine wpAny_bind (S1.en n _ _ _ _ hh j1a ex fun k2 e b2 hx=>?_)
  obtain⟨oe,he1,he2⟩:=hx
  have Z2:IsZip k2 z ti to .ellipsis:=b2 _ _ (Ne.symm n3) Z1
  have hez:e≠z:=fun c=>by subst c;rw[Z2]at he1;cases he1;simp at he2
  refine wpAny_setField_rec Z2 (by simp) fun k3 _ b3=>q k3 e (fun c o c1 _ c3 _ f=>b3.extBut _ _ c1 (b2 _ _ c3 (b1.extBut _ _ c1 f))) ⟨oe,b3.extBut _ _ hez he1,he2⟩
 |some x=>
  have ey:vs[n]?=none:=by
   rcases he with h|h
   · rw[ex]at h;cases h
   · exact h
  refine wpAny_bind (S1.nx n _ _ _ _ x j1a ex fun k2 j1b b2=>wpAny_pure ?_)
  have pO2:IsPair k2 to a b:=b2.extBut _ _ n8 (b1.extBut _ _ n2 pO)
  refine wpAny_bind (wpAny_seqItems pO2 rfl ?_)
  refine wpAny_bind (wpAny_updateSeq_pair pO2 fun k3 pO3 b3=>?_)
  refine wpAny_bind (wpAny_letGo (wpAny_pure ?_))
  refine wpAny_bind (wpAny_bind (wpAny_onRaise ?_))
  show wpAny _ _ (Builtin.SmallTypes.nextOf (.ref t2) >>= _) _ _ _
  have j2c:J2 n k3:=S2.ext (S2.ext (S2.ext j2 b1.extBut (Ne.symm n4) (Ne.symm m2.1)) b2.extBut n10 (Ne.symm m2.2.2.2.1)) b3.extBut n9 (Ne.symm m2.2.2.1)
  refine wpAny_bind (S2.en n _ _ _ _ hh j2c ey fun k4 e b4 hx=>?_)
  obtain⟨oe,he1,he2⟩:=hx
  have Z4:IsZip k4 z ti to .ellipsis:=b4 _ _ (Ne.symm n4) (b3.extBut _ _ (Ne.symm n2) (b2.extBut _ _ (Ne.symm n3) Z1))
  have hez:e≠z:=fun c=>by subst c;rw[Z4]at he1;cases he1;simp at he2
  refine wpAny_setField_rec Z4 (by simp) fun k5 _ b5=>q k5 e (fun c o c1 c2 c3 c4 f=>b5.extBut _ _ c1 (b4 _ _ c4 (b3.extBut _ _ c2 (b2.extBut _ _ c3 (b1.extBut _ _ c1 f))))) ⟨oe,b5.extBut _ _ hez he1,he2⟩
end
end
end L3
namespace L3
open PySem L2
open PySem.Spec hiding items?
open PyProof.Rows hiding St
theorem EK{X:Cx}{pins:List (Addr×Obj)}{σ:L2.St}{H:Hp}{s:Shared}{g:Heap}{tk:Nat}{fp:List Addr}{T:Addr}{xs:List V}(I:Inv X pins σ H s)(hf:∀b∈fp,iQ X pins H b)
 (k:∀b o,b∉fp→s.heap.get? b=some o→g.get? b=some o) (hT:s.heap.objs.size≤T) (new:ft X.prog X.w (upd H T (.tup xs)) g T (.tup xs)):Inv X pins σ (upd H T (.tup xs)) {s with heap:=g,toks:=tk}:=by
 have hn:H T=none:=I.aL.fresh hT
 have nfp:∀b u,H b=some u→b∉fp:=fun b u e z=>by rw[(hf b z).1]at e;cases e
 have nT:∀b u,H b=some u→b≠T:=fun b u e=>cV e hn
 refine I.step (g':=s.gens) (d':=s.drawn) (ch:=fp) (fun b hb=>?_) (fun b o _ _ hc e _=>k b o hc e) (fun b o _ _ hc e _=>⟨o.slots,k b o hc e⟩) (fun b o _ e n=>?_) (fun b o hc e=>⟨o,k b o hc e⟩)
  (fun b ys e=>by rw[aD (nT b _ e)];exact e) (fun b o u e=>by rw[aD (nT b _ e)];exact e) (fun b ps e=>⟨#[],by rw[aD (nT b _ e),e];simp⟩) (fun m hm=>?_) (fun b u e=>?_) I.bare
 · obtain⟨f0,f1,f2,f3,f4,f5⟩:=hf b hb
   exact⟨f3,f1,f4,f5⟩
 · rw[aD (Nat.ne_of_lt (Nat.lt_of_lt_of_le (Heap.lt_size e) hT))];exact n
 · obtain⟨o,es,ep,ho,r⟩:=hm
   exact⟨o,es,ep,k _ o (fun z=>(hf _ z).2.1 rfl) ho,r⟩
 · by_cases hb:b=T
   · subst hb;rw[aO]at e;cases e;exact new
   · rw[aD hb]at e
     refine(I.aL b u e).kI (fun c v hc q=>k c v ?_ q) (fun c q=>by rw[aD (nT c _ q)];exact q) fun c ys q=>by rw[aD (nT c _ q)];exact q
     rcases hc with z|z
     · rw[z];exact nfp b u e
     · exact nfp c _ z
theorem E_{X:Cx}{pins:List (Addr×Obj)}{σ:L2.St}{H:Hp}{s:Shared}{g:Heap}{tk:Nat}{fp:List Addr}(I:Inv X pins σ H s)(hf:∀b∈fp,iQ X pins H b)
 (k:∀b o,b∉fp→s.heap.get? b=some o→g.get? b=some o):Inv X pins σ H {s with heap:=g,toks:=tk}:=by
 have nfp:∀b u,H b=some u→b∉fp:=fun b u e z=>by rw[(hf b z).1]at e;cases e
 refine I.step (g':=s.gens) (d':=s.drawn) (ch:=fp) (fun b hb=>?_) (fun b o _ _ hc e _=>k b o hc e) (fun b o _ _ hc e _=>⟨o.slots,k b o hc e⟩) (fun b o _ e n=>n) (fun b o hc e=>⟨o,k b o hc e⟩)
  (fun b ys e=>e) (fun b o u e=>e) (fun b ps e=>⟨#[],by rw[e];simp⟩) (fun m hm=>?_) (fun b u e=>?_) I.bare
 · obtain⟨f0,f1,f2,f3,f4,f5⟩:=hf b hb
   exact⟨f3,f1,f4,f5⟩
 · obtain⟨o,es,ep,ho,r⟩:=hm
   exact⟨o,es,ep,k _ o (fun z=>(hf _ z).2.1 rfl) ho,r⟩
 · refine(I.aL b u e).kI (fun c v hc q=>k c v ?_ q) (fun c q=>q) fun c ys q=>q
   rcases hc with z|z
   · rw[z];exact nfp b u e
   · exact nfp c _ z
inductive SK where
 |l|t
def ou(k:SK)(K:PySem.W.Frag)(H:Hp)(a:Addr)(xs:List V):Prop:=match k with
 | .l=>jf K H a xs
 | .t=>gR K H a xs
def pK(k:SK)(t a:Addr)(n:Nat)(g:Heap):Prop:=match k with
 | .l=>g.IsListIter t a n
 | .t=>g.IsTupleIter t a n
def jV(k:SK)(g:Heap)(a:Addr)(us:Array Value):Prop:=match k with
 | .l=>g.IsList a us
 | .t=>g.IsTuple a us
def t7(k:SK)(a:Addr):Obj:=match k with
 | .l=>{cls:= .type "list_iterator",data:= .fields #[.ref a,.int 0 0]}
 | .t=>{cls:= .type "tuple_iterator",data:= .fields #[.ref a,.int 0 0]}
theorem rB{P:Program}{w:World}(k:SK)(t a:Addr)(hne:a≠t)(us:Array Value):Src P w t a (fun n g=>pK k t a n g∧jV k g a us) us:=by
 cases k
 · exact src_list t a hne us
 · exact AV t a hne us
theorem lu{X:Cx}{pins:List (Addr×Obj)}{σ:L2.St}{H:Hp}{s:Shared}{k:SK}{a:Addr}{xs:List V}(I:Inv X pins σ H s)(h:ou k X.K H a xs):∃its:List Value,Vals xs its∧jV k s.heap a its.toArray:=by
 cases k
 · obtain⟨its,rv,p,_⟩:=I.list h
   exact⟨its,rv,p.isList⟩
 · obtain⟨its,rv,p,_⟩:=I.tuple h
   exact⟨its,rv,p⟩
theorem u6{X:Cx}{pins:List (Addr×Obj)}{σ:L2.St}{H:Hp}{s:Shared}{k:SK}{a:Addr}{xs ys:List V}(I:Inv X pins σ H s)(h:ou k X.K H a xs)(h':ou k X.K H a ys):xs=ys:=by
 cases k
 · exact I.sT h h'
 · exact I.qQ h h'
theorem xh{P:Program}{w:World}{A:Around}{s:Shared}{E:Value→Shared→Prop}{k:SK}{a:Addr}{us:Array Value}{Q:Value→Shared→Prop}(h:jV k s.heap a us)(q:Q (.ref s.heap.objs.size) {s with heap:=s.heap.push (t7 k a)}):wpAny (model P w) A (pyIter (.ref a)) Q E s:=by
 cases k
 · exact wpAny_pyIter_list h q
 · exact wpAny_pyIter_tuple h q
theorem jV.push{k:SK}{g:Heap}{a:Addr}{us:Array Value}(h:jV k g a us)(o:Obj):jV k (g.push o) a us:=by
 cases k
 · obtain⟨o',e,r⟩:=h;exact⟨o',Heap.get?_push_of_some _ e,r⟩
 · obtain⟨o',e,r⟩:=h;exact⟨o',Heap.get?_push_of_some _ e,r⟩
theorem jV.some{k:SK}{g:Heap}{a:Addr}{us:Array Value}(h:jV k g a us):∃o,g.get? a=Option.some o:=by
 cases k
 · obtain⟨o',e,r⟩:=h;exact⟨o',e⟩
 · obtain⟨o',e,r⟩:=h;exact⟨o',e⟩
theorem vg{k:SK}{g h:Heap}{t a:Addr}(e:g.get? t=Option.some (t7 k a)):pK k t a 0 g:=by
 cases k
 · exact⟨_,e,rfl,rfl⟩
 · exact⟨_,e,rfl,rfl⟩
theorem pQ{k:SK}{t a:Addr}{n:Nat}{g g':Heap}(h:pK k t a n g)(kp:∀o,g.get? t=Option.some o→g'.get? t=Option.some o):pK k t a n g':=by
 cases k
 · obtain⟨o,e,r⟩:=h;exact⟨o,kp o e,r⟩
 · obtain⟨o,e,r⟩:=h;exact⟨o,kp o e,r⟩
theorem nu{k:SK}{t a:Addr}{n:Nat}{g:Heap}(h:pK k t a n g):∃o,g.get? t=Option.some o∧∀v,o.data≠ .cell v:=by
 cases k
 · obtain⟨o,e,c,d⟩:=h;exact⟨o,e,fun v z=>by rw[d]at z;cases z⟩
 · obtain⟨o,e,c,d⟩:=h;exact⟨o,e,fun v z=>by rw[d]at z;cases z⟩
def Fq(K:PySem.W.Frag)(k1 k2:SK)(a1 a2:Addr):It:=
 ⟨fun i H=>∃xs ys x y,ou k1 K H a1 xs∧ou k2 K H a2 ys∧xs[i]?=some x∧ys[i]?=some y,
  fun i H v H'=>∃T x y,H T=none∧v= .ref T∧H'=upd H T (.tup [x,y])∧(∀xs,ou k1 K H a1 xs→xs[i]?=some x)∧∀ys,ou k2 K H a2 ys→ys[i]?=some y,
  fun i H=>∃xs ys,ou k1 K H a1 xs∧ou k2 K H a2 ys∧(xs.length≤i∨ys.length≤i)⟩
def DV(z ti to t1 t2 a1 a2:Addr)(k1 k2:SK)(i:Nat)(h:Heap):Prop:=IsZip h z ti to .none∧IsPair h ti (.ref t1) (.ref t2)∧(∃a b,IsPair h to a b)∧pK k1 t1 a1 i h∧pK k2 t2 a2 i h
theorem zd{P:Program}{w:World}{K:PySem.W.Frag}{elts:List Expr}{kx:Nat}{pos:Pos}{z ti to t1 t2 a1 a2:Addr}(k1 k2:SK)(D:vd z ti to t1 t2 a1 a2):
 Turn P w K (.Tuple elts kx pos) (Fq K k1 k2 a1 a2) [z,ti,to,t1,t2] z (DV z ti to t1 t2 a1 a2 k1 k2) where
 mem:=by simp
 obj:=fun i h st b hb=>by
  obtain⟨Z,pI,⟨a,b',pO⟩,i1,i2⟩:=st
  simp only[List.mem_cons,List.not_mem_nil,or_false]at hb
  rcases hb with rfl|rfl|rfl|rfl|rfl
  · exact⟨_,Z,fun v e=>by cases e⟩
  · exact⟨_,pI,fun v e=>by cases e⟩
  · exact⟨_,pO,fun v e=>by cases e⟩
  · exact nu i1
  · exact nu i2
 keep:=fun i h h' st k=>by
  obtain⟨Z,pI,⟨a,b',pO⟩,i1,i2⟩:=st
  exact⟨k z (by simp) _ Z,k ti (by simp) _ pI,⟨a,b',k to (by simp) _ pO⟩,pQ i1 (k t1 (by simp)),pQ i2 (k t2 (by simp))⟩
 item:=by
  intro X hP hw hK hc i pins s σ H E I hf st hg
  subst hP hw hK
  obtain⟨Z,pI,⟨a,b',pO⟩,i1,i2⟩:=st
  obtain⟨xs,ys,x,y,q1,q2,ex,ey⟩:=hg
  obtain⟨us,r1,l1⟩:=lu I q1
  obtain⟨vs,r2,l2⟩:=lu I q2
  obtain⟨u,eu,ru⟩:=r1.get ex
  obtain⟨v,ev,rv⟩:=r2.get ey
  have m1:=D.a1
  have m2:=D.a2
  simp only[List.mem_cons,not_or,List.not_mem_nil,not_false_eq_true,and_true]at m1 m2
  obtain⟨⟨n1,n2,n3,n4⟩,⟨n5,n6,n7⟩,⟨n8,n9⟩,n10⟩:=D.n
  have tz:s.TypeIs (.ref z) "zip":=⟨_,Z,rfl⟩
  unfold pyNext
  refine wpAny_bind (wpAny_attempt (wpAny_callSpecial?_slot (name:=Str.ofString "__next__") tz F.slot_zip_next (wpAny_call_entry F.slot_zip_next tz F.entry_zip_next (yg D (rB k1 t1 a1 m1.2.2.2.1 us.toArray) (rB k2 t2 a2 m2.2.2.2.2 vs.toArray) Z pI pO ⟨i1,l1⟩ ⟨i2,l2⟩ (x:=u) (y:=v) (by simpa using eu) (by simpa using ev) fun k Z2 pO2 j1 j2 pT szk kp=>wpAny_pure ⟨_,rfl,?_⟩) (F.args_zip_next_1 _))))
  refine wpAny_letOwnedTupleGo_zip (s:={s with heap:=k}) Z2 fun k' Z3 b3=>?_
  have hT:s.heap.objs.size≠z:=Nat.ne_of_gt (Heap.lt_size Z)
  have kp3:∀b o,b∉[z,ti,to,t1,t2]→s.heap.get? b=some o→k'.get? b=some o:=fun b o hb e=>by
   simp only[List.mem_cons,not_or,List.not_mem_nil,not_false_eq_true,and_true]at hb
   exact b3.extBut _ _ hb.1 (kp b o hb.1 hb.2.2.1 hb.2.2.2.1 hb.2.2.2.2 e)
  refine⟨.ref s.heap.objs.size,upd H s.heap.objs.size (.tup [x,y]),EK (s:=s) (tk:=s.toks) I hf kp3 (Nat.le_refl _) ?_,rfl,⟨s.heap.objs.size,x,y,I.aL.fresh (Nat.le_refl _),rfl,rfl,?_,?_⟩,?_,?_⟩
  · refine⟨Nat.le_of_ble_eq_true rfl,[u,v],.cons ru (.cons rv .nil),?_⟩
    exact⟨_,b3.extBut _ _ hT pT,rfl,_,rfl⟩
  · intro xs' q'
    rw[u6 I q' q1];exact ex
  · intro ys' q'
    rw[u6 I q' q2];exact ey
  · refine⟨Z3,b3.extBut _ _ n1 (kp _ _ n1 n5 n6 n7 pI),⟨_,_,b3.extBut _ _ n2 pO2⟩,pQ j1.1 fun o e=>b3.extBut _ _ n3 e,pQ j2.1 fun o e=>b3.extBut _ _ n4 e⟩
  · intro b hb
    have:b≠s.heap.objs.size:=by
     obtain⟨o,e,_⟩:∃o,s.heap.get? b=some o∧True:=by
      simp only[List.mem_cons,List.not_mem_nil,or_false]at hb
      rcases hb with rfl|rfl|rfl|rfl|rfl
      · exact⟨_,Z,trivial⟩
      · exact⟨_,pI,trivial⟩
      · exact⟨_,pO,trivial⟩
      · obtain⟨o,e,_⟩:=nu i1;exact⟨o,e,trivial⟩
      · obtain⟨o,e,_⟩:=nu i2;exact⟨o,e,trivial⟩
     exact Nat.ne_of_lt (Heap.lt_size e)
    rw[aD this]
    exact(hf b hb).1
 done:=by
  intro X hP hw hK hc i pins s σ H E I hf st hg
  subst hP hw hK
  obtain⟨Z,pI,⟨a,b',pO⟩,i1,i2⟩:=st
  obtain⟨xs,ys,q1,q2,he⟩:=hg
  obtain⟨us,r1,l1⟩:=lu I q1
  obtain⟨vs,r2,l2⟩:=lu I q2
  have e1:=r1.length
  have e2:=r2.length
  have m1:=D.a1
  have m2:=D.a2
  simp only[List.mem_cons,not_or,List.not_mem_nil,not_false_eq_true,and_true]at m1 m2
  have tz:s.TypeIs (.ref z) "zip":=⟨_,Z,rfl⟩
  unfold pyNext
  refine wpAny_bind (wpAny_attempt (wpAny_callSpecial?_slot (name:=Str.ofString "__next__") tz F.slot_zip_next (wpAny_call_entry F.slot_zip_next tz F.entry_zip_next (zb (I.ok.hd hc) D (rB k1 t1 a1 m1.2.2.2.1 us.toArray) (rB k2 t2 a2 m2.2.2.2.2 vs.toArray) Z pI pO ⟨i1,l1⟩ ⟨i2,l2⟩ ?_ fun k e kp hx=>?_) (F.args_zip_next_1 _))))
  · rcases he with h|h
    · left;simp;omega
    · right;simp;omega
  · obtain⟨o,ho,hc2⟩:=hx
    refine wpAny_bind (wpAny_isInstance (T:="StopIteration") (b:=true) ⟨o,ho,hc2⟩ isSubtype_stop ?_)
    refine wpAny_pure ⟨rfl,E_ (s:=s) (tk:=s.toks) I hf fun b o hb e=>?_⟩
    simp only[List.mem_cons,not_or,List.not_mem_nil,not_false_eq_true,and_true]at hb
    exact kp b o hb.1 hb.2.2.1 hb.2.2.2.1 hb.2.2.2.2 e
 self:=fun _ _ _ _ _ st h=>wpAny_pyIter_zip st.1 h
end L3
namespace L3
open PySem L2
open PySem.Spec hiding items?
open PyProof.Rows hiding St
abbrev zV(h:Heap)(k1:SK)(a1:Addr):Heap:=h.push (t7 k1 a1)
abbrev Ae(h:Heap)(k1 k2:SK)(a1 a2:Addr):Heap:=(zV h k1 a1).push (t7 k2 a2)
abbrev zO(h:Heap)(k1 k2:SK)(a1 a2:Addr):Heap:=(Ae h k1 k2 a1 a2).push {cls:= .type "tuple",data:= .seq #[.ref h.objs.size,.ref (zV h k1 a1).objs.size]}
abbrev zH(h:Heap)(k1 k2:SK)(a1 a2:Addr):Heap:=(zO h k1 k2 a1 a2).push {cls:= .type "tuple",data:= .seq #[.none,.none]}
abbrev u7(h:Heap)(k1 k2:SK)(a1 a2:Addr):Heap:=(zH h k1 k2 a1 a2).push {cls:= .type "zip",data:= .fields #[.none,.bool false,.bool false,.ref (Ae h k1 k2 a1 a2).objs.size,.ref (zO h k1 k2 a1 a2).objs.size]}
theorem xH(k1 k2:SK)(a1 a2:Addr)(us vs:Array Value):Meets (Builtin.«zip.__new__» ⟨[.type "zip",.ref a1,.ref a2],[]⟩) (fun _ R s=>jV k1 s.heap a1 us∧jV k2 s.heap a2 vs∧
 R (.ok (.ret (.ref (zH s.heap k1 k2 a1 a2).objs.size))) {s with heap:=u7 s.heap k1 k2 a1 a2}):=
 .of_wp fun P w A R s h=>by
  obtain⟨hp,g,d,tk,os⟩:=s
  obtain⟨c1,c2,h⟩:=h
  have hsub:=sub_zip
  have L1:jV k1 (Shared.heap ⟨hp,g,d,tk,os⟩) a1 us:=c1
  have L2:jV k2 (Shared.heap ⟨hp.push (t7 k1 a1),g,d,tk,os⟩) a2 vs:=jV.push c2 _
  wp_walk using xh L1,xh L2
  exact⟨_,rfl,h⟩
theorem yY{P:Program}{w:World}{A:Around}{s:Shared}{E:Value→Shared→Prop}{k1 k2:SK}{a1 a2:Addr}{us vs:Array Value}{Q:Value→Shared→Prop}(c1:jV k1 s.heap a1 us)(c2:jV k2 s.heap a2 vs)
 (q:∀g n,n=s.heap.objs.size→IsZip g (n+4) (n+2) (n+3) .none→IsPair g (n+2) (.ref n) (.ref (n+1))→IsPair g (n+3) .none .none→pK k1 n a1 0 g→pK k2 (n+1) a2 0 g→(∀c o,s.heap.get? c=some o→g.get? c=some o)→Q (.ref (n+4)) {s with heap:=g}):
 wpAny (model P w) A (call (.type "zip") [.ref a1,.ref a2]) Q E s:=by
 refine callType_new F.called_zip (by decide) (F.typeCall_zip_2 _ _) (F.newCall_zip_2 _ _) (fun ob=>F.args_object_init_3 ob _ _) F.entry_zip_new (xH k1 k2 a1 a2 us vs) ⟨c1,c2,?_⟩
 have y1:(zV s.heap k1 a1).objs.size=s.heap.objs.size+1:=Heap.size_push ..
 have y2:(Ae s.heap k1 k2 a1 a2).objs.size=s.heap.objs.size+2:=by rw[Heap.size_push,y1]
 have y3:(zO s.heap k1 k2 a1 a2).objs.size=s.heap.objs.size+3:=by rw[Heap.size_push,y2]
 have y4:(zH s.heap k1 k2 a1 a2).objs.size=s.heap.objs.size+4:=by rw[Heap.size_push,y3]
 have e5:(u7 s.heap k1 k2 a1 a2).get? (zH s.heap k1 k2 a1 a2).objs.size=some _:=Heap.get?_push_size _ rfl
 have e4:(u7 s.heap k1 k2 a1 a2).get? (zO s.heap k1 k2 a1 a2).objs.size=some _:=Heap.get?_push_of_some _ (Heap.get?_push_size _ rfl)
 have e3:(u7 s.heap k1 k2 a1 a2).get? (Ae s.heap k1 k2 a1 a2).objs.size=some _:=Heap.get?_push_of_some _ (Heap.get?_push_of_some _ (Heap.get?_push_size _ rfl))
 have e2:(u7 s.heap k1 k2 a1 a2).get? (zV s.heap k1 a1).objs.size=some (t7 k2 a2):=Heap.get?_push_of_some _ (Heap.get?_push_of_some _ (Heap.get?_push_of_some _ (Heap.get?_push_size _ (by cases k2<;>rfl))))
 have e1:(u7 s.heap k1 k2 a1 a2).get? s.heap.objs.size=some (t7 k1 a1):=Heap.get?_push_of_some _ (Heap.get?_push_of_some _ (Heap.get?_push_of_some _ (Heap.get?_push_of_some _ (Heap.get?_push_size _ (by cases k1<;>rfl)))))
 show _∧_
 rw[y2,y3,y4]at e5
 rw[y1,y2]at e3
 rw[y3]at e4
 rw[y1]at e2
 rw[y4]
 exact⟨⟨_,e5,rfl⟩,q _ _ rfl e5 e3 e4 (vg (h:=s.heap) e1) (vg (h:=s.heap) e2) fun c o x=>Heap.get?_push_of_some _ (Heap.get?_push_of_some _ (Heap.get?_push_of_some _ (Heap.get?_push_of_some _ (Heap.get?_push_of_some _ x))))⟩
def CU:D→SK
 | .tup _=> .t
 |_=> .l
def Af(k:SK)(G:Hp)(a:Addr)(vs:List V):Prop:=match k with
 | .l=>Rd G a (.lst vs)
 | .t=>G a=some (.tup vs)
theorem ku{K:PySem.W.Frag}{k:SK}{G F H:Hp}(P:bL G F H){a:Addr}{vs:List V}(h:Af k G a vs):ou k K H a vs:=by
 cases k
 · exact .inl (gH P h)
 · exact gR.of (P.get h)
theorem nk{α:List (Option Addr)}{H:Hp}{st:af}{d:D}{v:V}{xs:List D}(S:aR α st H)(r:Rep α H d v)(e:items? st d=some xs):∃p vs,v= .ref p∧aH α H xs vs∧Af (CU d) H p vs:=by
 cases d<;>try(cases e;done)
 · unfold items? at e
   simp only at e
   split at e
   · rename_i ys q
     cases e
     obtain⟨a,ea,vs,h1,h2⟩:=S.gd q
     exact⟨a,vs,et ea r,h2,Rd.of h1⟩
   · cases e
 · cases e
   unfold Rep at r
   obtain⟨a,vs,rfl,_,h1,h2⟩:=r
   exact⟨a,vs,rfl,h2,h1⟩
 · cases e
   unfold Rep at r
   obtain⟨a,vs,rfl,_,h1,h2⟩:=r
   exact⟨a,vs,rfl,h2,h1⟩
def fb(xs ys:List D):List D:=(xs.zip ys).map fun p=> .tup [p.1,p.2]
theorem hW{xs ys:List D}:(fb xs ys).length=min xs.length ys.length:=by unfold fb;simp
theorem oM{xs ys:List D}{n:Nat}{d:D}(e:(fb xs ys)[n]?=some d):∃x y,xs[n]?=some x∧ys[n]?=some y∧d= .tup [x,y]:=by
 unfold fb at e
 rw[List.getElem?_map]at e
 cases q:(xs.zip ys)[n]? with
 |none=>rw[q]at e;cases e
 |some p=>
  rw[q]at e
  cases e
  rw[List.getElem?_zip_eq_some]at q
  exact⟨p.1,p.2,q.1,q.2,rfl⟩
theorem B_{K:PySem.W.Frag}{k1 k2:SK}{a1 a2:Addr}{α:List (Option Addr)}{G:Hp}{ok:af→Prop}{xs ys:List D}
 (h:∀α' G' st',Step α G α' G'→aR α' st' G'→ok st'→∃vs ws,Af k1 G' a1 vs∧Af k2 G' a2 ws∧aH α' G' xs vs∧aH α' G' ys ws):tV (Fq K k1 k2 a1 a2) α G ok (fb xs ys) where
 stop:=fun n α' G' F' H' st' s P S o hn=>by
  obtain⟨vs,ws,h1,h2,r1,r2⟩:=h α' G' st' s S o
  rw[hW]at hn
  refine⟨vs,ws,ku P h1,ku P h2,?_⟩
  have:=r1.length
  have:=r2.length
  omega
 go:=fun n d α' G' F' H' st' s P S o hn=>by
  obtain⟨vs,ws,h1,h2,r1,r2⟩:=h α' G' st' s S o
  obtain⟨x,y,ex,ey,rfl⟩:=oM hn
  obtain⟨v,ev,_⟩:=r1.get ex
  obtain⟨u,eu,_⟩:=r2.get ey
  exact⟨vs,ws,v,u,ku P h1,ku P h2,ev,eu⟩
 mw:=fun n d α' G' F' H' st' x H'' s P S o hn y=>by
  obtain⟨vs,ws,h1,h2,r1,r2⟩:=h α' G' st' s S o
  obtain⟨c,e,ec,ee,rfl⟩:=oM hn
  obtain⟨T,v,u,hT,rfl,rfl,y1,y2⟩:=y
  obtain⟨v',ev,rv⟩:=r1.get ec
  obtain⟨u',eu,ru⟩:=r2.get ee
  rw[y1 vs (ku P h1)]at ev
  rw[y2 ws (ku P h2)]at eu
  cases ev
  cases eu
  have hg:=(P.none hT).1
  refine⟨upd G' T (.tup [v,u]),Step.laid hg,P.laid hT,S.laid hg,?_⟩
  unfold Rep
  refine⟨T,[v,u],rfl,S.i3 hg,aO,?_⟩
  unfold aH
  refine⟨v,[u],rfl,rv.step (Step.laid hg),?_⟩
  unfold aH
  exact⟨u,[],rfl,ru.step (Step.laid hg),by unfold aH;rfl⟩
def yI(ds:List D)(st1:af)(K:List D→(af→Prop)→af→Prop):Prop:=match ds with
 | [x,y]=>(match items? st1 x,items? st1 y with
   |some xs,some ys=>K (fb xs ys) (fun st'=>items? st' x=some xs∧items? st' y=some ys) st1
   |_,_=>False)
 |_=>False
@[irreducible] def pC:List D→af→(List D→(af→Prop)→af→Prop)→Prop:=yI
def m5(t:DA):DI:=fun σ st K=>t σ st fun ds st1=>pC ds st1 K
theorem Bp{n a1 a2:Nat}(h1:a1<n)(h2:a2<n):vd (n+4) (n+2) (n+3) n (n+1) a1 a2:=by
 have e0:([n+4,n+2,n+3,n,n+1]:List Nat).Nodup:=by
  simp only[List.nodup_cons,List.mem_cons,not_or,List.not_mem_nil,not_false_eq_true,and_true,List.nodup_nil]
  omega
 have e1:∀a:Nat,a<n→a∉([n+4,n+2,n+3,n,n+1]:List Nat):=fun a ha=>by
  simp only[List.mem_cons,not_or,List.not_mem_nil,not_false_eq_true,and_true]
  omega
 exact⟨e0,e1 a1 h1,e1 a2 h2⟩
theorem C7{X:Cx}{a b:Expr}{elts:List Expr}{kx:Nat}{tpos p pos:Pos}{t:DA}(hg:Gl X "zip")(hm:X.mg "zip"=none)(ha:PA X [a,b] (LA t))(hs:starEach [a,b] X.env=[(false,eval a X.env),(false,eval b X.env)])(hs2:starEach [b] X.env=[(false,eval b X.env)]):
 PI X (.Tuple elts kx tpos) (.Call (.Name "zip" p) [a,b] [] pos) (LI (m5 t)):=by
 intro pins s σ H R I h
 obtain⟨α,σd,st,K,G,F,P,RS,S,t,k⟩:=h
 refine Call_ (kU I hg hm boot_zip (PyProof.Rows.callWith_type1 (bM (ha pos pins s σ H (fun vs H1=>∃ds α1 G1 st1,Step α G α1 G1∧bL G1 F H1∧aR α1 st1 G1∧aH α1 G1 ds vs∧pC ds st1 K) I ⟨α,σd,st,_,G,F,P,RS,S,t,fun ds st1 q α1 G1 H1 vs s1 P1 S1 r1=>⟨ds,α1,G1,st1,s1,P1,S1,r1,q⟩⟩) fun us s1 ⟨vs,H1,I1,rv,ds,α1,G1,st1,w1,P1,S1,r1,q⟩=>?_) (by rw[hs,hs2]) (by rw[hs2];rfl)))
 unfold pC yI at q
 split at q
 · rename_i x y
   split at q
   · rename_i xs ys ex ey
     obtain⟨v1,v2,rfl,q1,q2⟩:=o5 r1 rfl
     obtain⟨p1,vs1,rfl,g1,c1⟩:=nk S1 q1 ex
     obtain⟨p2,vs2,rfl,g2,c2⟩:=nk S1 q2 ey
     obtain⟨u1,u2,rfl,ru1,ru2⟩:=vals2 rv
     cases ru1
     cases ru2
     obtain⟨its1,_,l1⟩:=lu I1 (ku P1 c1)
     obtain⟨its2,_,l2⟩:=lu I1 (ku P1 c2)
     refine yY l1 l2 fun g n hn Z pI pO i1 i2 kp=>?_
     obtain⟨o1,eo1⟩:=l1.some
     obtain⟨o2,eo2⟩:=l2.some
     refine wpAny_pyIter_zip (s:={s1 with heap:=g}) Z ?_
     refine⟨n+4,[n+4,n+2,n+3,n,n+1],_,_,H1,rfl,I1.kept (t':=s1.toks) kp,zd (CU x) (CU y) (Bp (by rw[hn];exact Heap.lt_size eo1) (by rw[hn];exact Heap.lt_size eo2)),⟨Z,pI,⟨_,_,pO⟩,i1,i2⟩,fun b hb=>?_,?_⟩
     · have hb':s1.heap.objs.size≤b:=by
        simp only[List.mem_cons,List.not_mem_nil,or_false]at hb
        rcases hb with rfl|rfl|rfl|rfl|rfl<;>(rw[←hn];first|exact Nat.le_refl _|exact Nat.le_add_right _ _)
       exact I1.rV hb' (I1.aL.fresh hb')
     · refine k _ _ st1 q _ α1 G1 H1 w1 P1 S1 (B_ fun α' G' st' s' S' o=>?_)
       obtain⟨p1',ws1,e1,f1,d1⟩:=nk S' (q1.step s') o.1
       obtain⟨p2',ws2,e2,f2,d2⟩:=nk S' (q2.step s') o.2
       cases e1
       cases e2
       exact⟨ws1,ws2,d1,d2,f1,f2⟩
   · exact q.elim
 · exact q.elim
theorem kQ{st:af}{x y:D}{xs ys:List D}{K:List D→(af→Prop)→af→Prop}(ex:items? st x=some xs)(ey:items? st y=some ys)(k:∀ok:af→Prop,(∀st',items? st' x=some xs→items? st' y=some ys→ok st')→K (fb xs ys) ok st):pC [x,y] st K:=by
 unfold pC yI
 simp only[ex,ey]
 exact k _ fun st' h1 h2=>⟨h1,h2⟩
theorem nz{X:Cx}{a b:Expr}{elts:List Expr}{kx:Nat}{tpos p pos:Pos}{ar:DA}(hg:Gl X "zip")(hm:X.mg "zip"=none)(ha:JA X [a,b] ar)(hs:notStar a=true:=by rfl)(hs2:notStar b=true:=by rfl):JI X (.Tuple elts kx tpos) (.Call (.Name "zip" p) [a,b] [] pos) (m5 ar):=by
 unfold JI;unfold JA at ha;exact C7 hg hm ha (by rw[bR hs,bR hs2];rfl) (bR hs2)
end L3
namespace L3
open PySem L2
open PySem.Spec hiding items?
open PyProof.Rows hiding St
section
variable {X:Cx}
end
end L3
namespace L3
open PySem L2
open PySem.Spec hiding items?
open PyProof.Rows hiding St
section
variable {X:Cx}{pos:Pos}
end
end L3
namespace L3
open PySem L2 PySem.SeqAt
open PySem.Spec hiding items?
open PyProof.Rows hiding St
section
variable {X:Cx}{pins:List (Addr×Obj)}{σ:L2.St}{H:Hp}{s:Shared}{α:List (Option Addr)}
theorem u3{A:Around}{d e:D}{x y:V}{u v:Value}(hd:qA d=true)(he:qA e=true)(rd:Rep α H d x)(re:Rep α H e y)(rx:RelV x u)(ry:RelV y v):RcNeAt A s u v (!cq d e):=by
 cases d<;>cases e<;>try(first|(cases hd;done)|(cases he;done))
 all_goals(unfold Rep at rd re;subst rd re)
 all_goals(first|(obtain⟨t,rfl⟩:=rx;obtain⟨t',rfl⟩:=ry)|(obtain⟨t,rfl⟩:=rx;cases ry)|(cases rx;obtain⟨t,rfl⟩:=ry)|(cases rx;cases ry))
 all_goals unfold cq
 · exact RcNeAt.none_none
 · exact RcNeAt.none_bool _
 · exact RcNeAt.none_int _ _
 · exact RcNeAt.none_str _ _
 · exact RcNeAt.bool_none _
 · exact RcNeAt.bool_bool _ _
 · exact RcNeAt.bool_int _ _ _
 · exact RcNeAt.bool_str _ _ _
 · exact RcNeAt.int_none _ _
 · exact RcNeAt.int_bool _ _ _
 · exact RcNeAt.int_int _ _ _ _
 · exact RcNeAt.int_str _ _ _ _
 · exact RcNeAt.str_none _ _
 · exact RcNeAt.str_bool _ _ _
 · exact RcNeAt.str_int _ _ _ _
 · exact RcNeAt.str_str _ _ _ _
theorem qE(I:Inv X pins σ H s){A:Around}{xs:List D}{e:D}{x y:V}{u v:Value}(he:qA e=true)(rd:Rep α H (.lst xs) x)(re:Rep α H e y)(rx:RelV x u)(ry:RelV y v)(hu:A.units<cLine):
 RcNeAt A s u v (!cq (.lst xs) e)∧RcNeAt A s v u (!cq e (.lst xs)):=by
 obtain⟨a,vs,its,rfl,_,_,hl⟩:=lst_is I rd rx
 cases e<;>try(cases he;done)
 all_goals(unfold Rep at re;subst re)
 all_goals(first|(obtain⟨t,rfl⟩:=ry)|(cases ry))
 all_goals unfold cq
 · exact⟨RcNeAt.list_none hl hu,RcNeAt.none_list hl hu⟩
 · exact⟨RcNeAt.list_bool _ hl hu,RcNeAt.bool_list _ hl hu⟩
 · exact⟨RcNeAt.list_int _ _ hl hu,RcNeAt.int_list _ _ hl hu⟩
 · exact⟨RcNeAt.list_str _ _ hl hu,RcNeAt.str_list _ _ hl hu⟩
theorem qu(I:Inv X pins σ H s){A:Around}{xs:List D}{e:D}{x y:V}{u v:Value}(he:qA e=true)(rd:Rep α H (.tup xs) x)(re:Rep α H e y)(rx:RelV x u)(ry:RelV y v)(hu:A.units<cLine):
 RcNeAt A s u v (!cq (.tup xs) e)∧RcNeAt A s v u (!cq e (.tup xs)):=by
 obtain⟨a,vs,its,rfl,_,_,hl⟩:=tup_is I rd rx
 cases e<;>try(cases he;done)
 all_goals(unfold Rep at re;subst re)
 all_goals(first|(obtain⟨t,rfl⟩:=ry)|(cases ry))
 all_goals unfold cq
 · exact⟨RcNeAt.tuple_none hl hu,RcNeAt.none_tuple hl hu⟩
 · exact⟨RcNeAt.tuple_bool _ hl hu,RcNeAt.bool_tuple _ hl hu⟩
 · exact⟨RcNeAt.tuple_int _ _ hl hu,RcNeAt.int_tuple _ _ hl hu⟩
 · exact⟨RcNeAt.tuple_str _ _ hl hu,RcNeAt.str_tuple _ _ hl hu⟩
theorem Ek(I:Inv X pins σ H s)(n:Nat)(A:Around)(d e:D)(x y:V)(u v:Value)(hd:pl n d=true)(he:pl n e=true)(rd:Rep α H d x)(re:Rep α H e y)(rx:RelV x u)(ry:RelV y v)(hu:A.units+n<cLine):RcNeAt A s u v (!cq d e):=by
 cases n with
 |zero=>
  refine u3 ?_ ?_ rd re rx ry
  · cases d<;>first|rfl|(cases hd)
  · cases e<;>first|rfl|(cases he)
 |succ n=>
  have hu0:A.units<cLine:=by omega
  have hin:A.in1.units+n<cLine:=by rw[Around.in1_units];omega
  cases d<;>try(cases hd;done)
  case lst xs=>
   cases e<;>try(cases he;done)
   case lst ys=>
    obtain⟨a,vs,its,rfl,r1,v1,l1⟩:=lst_is I rd rx
    obtain⟨b,ws,jts,rfl,r2,v2,l2⟩:=lst_is I re ry
    have e1:=r1.length
    have e2:=v1.length
    have e3:=r2.length
    have e4:=v2.length
    unfold cq
    by_cases hlen:xs.length=ys.length
    · rw[jP hlen]
      have hsz:its.toArray.size=jts.toArray.size:=by simp only[List.size_toArray];omega
      have hx:xs.length=its.toArray.size:=by simp only[List.size_toArray];omega
      rw[hx]
      refine RcNeAt.lists l1 l2 hsz hu0 fun j h1 h2=>?_
      obtain⟨p,_,q1,q2⟩:=ij r1 v1 j (by simpa using h1)
      obtain⟨p',_,q1',q2'⟩:=ij r2 v2 j (by simpa using h2)
      exact(wM I n A.in1 _ _ p p' _ _ (gz (by unfold pl at hd;exact hd) j) (gz (by unfold pl at he;exact he) j) q1 q1' (by simpa using q2) (by simpa using q2') hin).2
    · rw[ka hlen]
      exact RcNeAt.lists_lengths l1 l2 (by simp only[List.size_toArray,bne_iff_ne,ne_eq];omega) hu0
   case tup ys=>
    obtain⟨a,vs,its,rfl,r1,v1,l1⟩:=lst_is I rd rx
    obtain⟨b,ws,jts,rfl,r2,v2,l2⟩:=tup_is I re ry
    unfold cq
    exact RcNeAt.list_tuple l1 l2 hu0
   all_goals exact(qE I rfl rd re rx ry hu0).1
  case tup xs=>
   cases e<;>try(cases he;done)
   case tup ys=>
    obtain⟨a,vs,its,rfl,r1,v1,l1⟩:=tup_is I rd rx
    obtain⟨b,ws,jts,rfl,r2,v2,l2⟩:=tup_is I re ry
    have e1:=r1.length
    have e2:=v1.length
    have e3:=r2.length
    have e4:=v2.length
    unfold cq
    have key:=RcNeAt.tuples (e:=fun j=>cq (xs.getD j .aJ) (ys.getD j .aJ)) l1 l2 hu0 fun j h1 h2=>by
     obtain⟨p,_,q1,q2⟩:=ij r1 v1 j (by simpa using h1)
     obtain⟨p',_,q1',q2'⟩:=ij r2 v2 j (by simpa using h2)
     exact(wM I n A.in1 _ _ p p' _ _ (gz (by unfold pl at hd;exact hd) j) (gz (by unfold pl at he;exact he) j) q1 q1' (by simpa using q2) (by simpa using q2') hin).2
    by_cases hlen:xs.length=ys.length
    · rw[jP hlen]
      have hsz:its.toArray.size=jts.toArray.size:=by simp only[List.size_toArray];omega
      have hx:xs.length=its.toArray.size:=by simp only[List.size_toArray];omega
      rw[hsz,Nat.min_self,beq_self_eq_true,Bool.and_true,←hsz,←hx]at key
      exact key
    · rw[ka hlen]
      have hne:(its.toArray.size==jts.toArray.size)=false:=by simp only[List.size_toArray,beq_eq_false_iff_ne,ne_eq];omega
      rw[hne,Bool.and_false]at key
      exact key
   case lst ys=>
    obtain⟨a,vs,its,rfl,r1,v1,l1⟩:=tup_is I rd rx
    obtain⟨b,ws,jts,rfl,r2,v2,l2⟩:=lst_is I re ry
    unfold cq
    exact RcNeAt.tuple_list l1 l2 hu0
   all_goals exact(qu I rfl rd re rx ry hu0).1
  all_goals
   cases e<;>try(cases he;done)
   case lst ys=>exact(qE I rfl re rd ry rx hu0).2
   case tup ys=>exact(qu I rfl re rd ry rx hu0).2
   all_goals exact u3 rfl rfl rd re rx ry
def Cz:dJ:=fun x y st K=>pl 40 x=true∧pl 40 y=true∧K (.bl (!cq x y)) st
theorem EJ{k:Nat}(hr:cC k X.A):cm X (compareOp .NotEq) (LR Cz):=fun pins s σ H x y v u Q I rx ry ⟨α,d,e,st,K,G,F',P,r1,r2,S,q,k⟩=>by
 have hu:=hr.units
 exact Ek I 40 X.A d e x y v u q.1 q.2.1 (r1.mono P.same) (r2.mono P.same) rx ry (by omega) _ _ _ _ ⟨.bl (!cq d e),H,I,rfl,k.here P q.2.2 S (by unfold Rep;rfl)⟩
@[irreducible] def j8:dJ:=Cz
theorem pL{k:Nat}(hr:cC k X.A):cm X (compareOp .NotEq) (LR j8):=by unfold j8;exact EJ hr
end
theorem yn{st:af}{K:DK}{d e:D}(h1:pl 40 d=true)(h2:pl 40 e=true)(k:K (.bl (!cq d e)) st):j8 d e st K:=by unfold j8;exact⟨h1,h2,k⟩
theorem ma{st:af}{K:DK}{d:D}(h:pl 40 d=true)(k:K (.bl false) st):j8 d d st K:=yn h h (by rw[lT 40 d h];exact k)
theorem xB{st:af}{n:Nat}{xs:List D}(h:items? st (.ref n)=some xs):st[n]?=some (.lst xs):=by
 unfold items? at h
 simp only at h
 split at h
 · rename_i q;cases h;exact q
 · cases h
theorem lY{env:Env}:∀(l:List (Str×NameKind)) (x:Str),(l.lookup x=some .cell∨l.lookup x=some .free)→
 ((l.map fun(n,k)=>if(k== .free&&env.scope.kind== .function&&env.kindOf n==some .cell)then(n,.cell)else(n,k)).lookup x=some .cell∨(l.map fun(n,k)=>if(k== .free&&env.scope.kind== .function&&env.kindOf n==some .cell)then(n,.cell)else(n,k)).lookup x=some .free)
 | [],x,h=>by simp at h
 |(n,k)::l,x,h=>by
  rw[List.map_cons]
  dsimp only
  by_cases hx:x=n
  · subst hx
    rw[List.lookup_cons_self]at h
    split
    · rw[List.lookup_cons_self];exact .inl rfl
    · rw[List.lookup_cons_self];exact h
  · have hb:(x==n)=false:=by simpa using hx
    have e1:List.lookup x ((n,k)::l)=List.lookup x l:=by rw[List.lookup_cons,hb]
    rw[e1]at h
    have ih:=lY (env:=env) l x h
    split
    · rw[List.lookup_cons,hb];exact ih
    · rw[List.lookup_cons,hb];exact ih
theorem bj.Ee{X0:Cx}{scope0 scope:Scope}{Nc0 Nc:List Str}{C:Addr}{s:Shared}{H:Hp}{ex:List Addr}{fr:List (Option Nat)}(h:pf scope0 Nc0 scope Nc fr=true):bj (d8 X0 scope0 Nc0 C s H ex) scope Nc fr:=by
 unfold pf at h
 simp only[Bool.and_eq_true]at h
 obtain⟨⟨⟨⟨⟨h1,h2⟩,h3⟩,h4⟩,h5⟩,h6⟩:=h
 refine⟨by simpa using h1,fun x hx hk=>?_,fun x hx hk=>?_,fun x hx hk=>?_,by simpa using h5,fun i j x e1 e2=>?_⟩
 · have:=List.all_eq_true.mp h2 x hx
   rw[hk]at this
   simpa using this
 · have:=List.all_eq_true.mp h3 x hx
   rw[hk]at this
   simpa using this
 · have:=List.all_eq_true.mp h4 x hx
   rw[hk]at this
   have z:scope0.names.lookup x.1=some .cell∨scope0.names.lookup x.1=some .free:=by simpa using this
   exact lY _ _ z
 · have hi:i<fr.length:=(List.getElem?_eq_some_iff.mp e2).1
   have:=List.all_eq_true.mp h6 i (List.mem_range.mpr hi)
   rw[e1,e2]at this
   simp only[Bool.and_eq_true,Bool.or_eq_true,beq_iff_eq]at this
   exact⟨this.1.1,this.1.2,lY _ _ this.2⟩
end L3
namespace L3
open PySem L2
open PySem.Spec hiding items?
open PyProof.Rows hiding St
section
variable {X:Cx}
end
theorem xO{n:Nat}{d:D}(h:d∈df 0 n):∃i:Nat,i<n∧d= .int (i:Int):=by
 unfold df at h
 obtain⟨i,hi,rfl⟩:=List.mem_map.mp h
 rw[List.mem_range]at hi
 exact⟨i,hi,by rw[Int.zero_add]⟩
theorem yu{f:Nat→D}(n:Nat):(df 0 n).map (fun d=>match d with| .int i=>f i.toNat|_=> .aJ)=(List.range n).map f:=by
 unfold df
 rw[List.map_map]
 refine List.map_congr_left fun i _=>?_
 show f ((0:Int)+(i:Int)).toNat=f i
 have:((0:Int)+(i:Int)).toNat=i:=by omega
 rw[this]
theorem lJ{tg:eM}{te:DE}{σc:bF}{st:af}{K:List D→af→Prop}(f:Nat→D)(n:Nat)(hx:∀i:Nat,i<n→∀K',K' (f i) st→∃σ2,tg (.int (i:Int)) σc=some σ2∧te σ2 st K')(k:K ((List.range n).map f) st):cZ tg cy te (fun _=>True) σc (df 0 n) [] st K:=by
 refine comp_map (g:=fun d=>match d with| .int i=>f i.toNat|_=> .aJ) trivial _ (fun d hd K' q=>?_) (by rw[yu];exact k)
 obtain⟨i,hi,rfl⟩:=xO hd
 exact hx i hi K' q
theorem jh{tg:eM}{body:DS}{E:jE}(n:Nat)(I:Nat→bF→af→Prop)(hend:∀σ st,I n σ st→E.nx σ st)
 (hstep:∀(j:Nat) σ st (rest:List D),j<n→I j σ st→(∀σ' st',I (j+1) σ' st'→gv tg body (fun _=>True) E rest σ' st')→∃σ1,tg (.int (j:Int)) σ=some σ1∧body {E with nx:=gv tg body (fun _=>True) E rest,ct:=gv tg body (fun _=>True) E rest,bk:=E.nx} σ1 st)
 {σ:bF} {st:af} (h0:I 0 σ st):gv tg body (fun _=>True) E (df 0 n) σ st:=by
 refine qd (fun rest σ st=>∃j:Nat,j≤n∧rest=(List.range (n-j)).map (fun i=>D.int (((j+i:Nat):Int)))∧I j σ st) ?_ ?_ _ _ _ ⟨0,Nat.zero_le _,by unfold df;simp,h0⟩
 · rintro σ st ⟨j,hj,hr,hI⟩
   have:n-j=0:=by
    cases q:n-j with
    |zero=>rfl
    |succ m=>rw[q,List.range_succ_eq_map]at hr;cases hr
   have hjn:j=n:=by omega
   subst hjn
   exact⟨trivial,hend σ st hI⟩
 · rintro d rest σ st ⟨j,hj,hr,hI⟩ next
   cases q:n-j with
   |zero=>rw[q]at hr;cases hr
   |succ m=>
    rw[q,List.range_succ_eq_map,List.map_cons,List.map_map]at hr
    simp only[List.cons.injEq]at hr
    obtain⟨rfl,hrest⟩:=hr
    refine⟨trivial,hstep j σ st rest (by omega) hI fun σ' st' h'=>next σ' st' ⟨j+1,by omega,?_,h'⟩⟩
    have:n-(j+1)=m:=by omega
    rw[this,hrest]
    refine List.map_congr_left fun i _=>?_
    show D.int (((j+(i+1):Nat):Int))=D.int (((j+1+i:Nat):Int))
    congr 2;omega
end L3
namespace L3
open PySem L2
open PySem.Spec hiding items?
open PyProof.Rows hiding St
abbrev DM:=Nat→List D→af→DK→Prop
def LiftM(r:DM)(rM:V→List V→Hp→VK→Prop):Prop:=∀(α:List (Option Addr)) (G F H:Hp) (st:af) (K:DK) (Q:VK) (n:Nat) (a:Addr) (ds:List D) (ws:List V),bL G F H→aR α st G→α[n]?=some (some a)→aH α G ds ws→r n ds st K→LK α G F K Q→rM (.ref a) ws H Q
@[irreducible] def mh(r:DM)(to:DE)(ta:DA):DE:=fun σ st K=>to σ st fun x st1=>match x with
 | .ref n=>(match st1[n]? with|some (.lst _)=>ta σ st1 fun ds st2=>(∃xs,st2[n]?=some (.lst xs))∧r n ds st2 K|_=>False)
 |_=>False
section
variable {X:Cx}
theorem LE.Gm{r:DM}{rM:V→List V→Hp→VK→Prop}(L:LiftM r rM){to:DE}{ta:DA}{σ:L2.St}{H:Hp}{Q:VK}(h:LE (mh r to ta) σ H Q):CT X.K "list" rM (LE to) (LA ta) σ H Q:=by
 obtain⟨α,σd,st,K,G,F,P,R,S,t,k⟩:=h
 unfold mh at t
 refine⟨α,σd,st,_,G,F,P,R,S,t,fun x st1 q α1 G1 H1 v s1 P1 S1 r1=>?_⟩
 cases x<;>try exact q.elim
 rename_i n
 simp only at q
 split at q
 · rename_i ys e
   obtain⟨p,ep,vs,h1,h2⟩:=S1.gd e
   have r1':=et ep r1
   subst r1'
   refine⟨.inl ⟨rfl,vs,.inl (.of (P1.get h1))⟩,α1,σd,st1,_,G1,F,P1,R.step s1,S1,q,?_⟩
   rintro ds st2 ⟨⟨xs,e2⟩,q2⟩ α2 G2 H2 ws s2 P2 S2 r2
   obtain⟨p2,ep2,_⟩:=S2.gd e2
   have:p2=p:=by
    rcases s2.pre _ _ ep with z|z<;>(rw[z]at ep2;cases ep2)
    rfl
   subst this
   exact L α2 G2 F H2 st2 K Q n p2 ds ws P2 S2 ep2 r2 q2 ((k.at s1).at s2)
 · exact q.elim
theorem Ds{r:DM}{rM:V→List V→Hp→VK→Prop}{name:Str}{id:String}(L:LiftM r rM)(slot:Slot "list" name id)(hty:typeOf (.builtin id)=pure (.type "method_descriptor"))(hm:Dv X id rM){o e:Expr}{es:List Expr}{to:DE}{ta:DA}{apos cpos:Pos}(ho:PE X o (LE to))(ha:PA X (e::es) (LA ta))
 (hbase:attributeBase o name X.env (eval o X.env)=eval o X.env) (hfew:((backTo cpos (starEach (e::es) X.env)).all (fun x=> !x.1)&&(backToKw cpos (keywordEach [] X.env)).all (fun x=>x.1.isSome)
   &&decide ((e::es).length+([]:List Keyword).length+(if([]:List Keyword).isEmpty then 0 else 1)<30))=true)
 (hline:(apos.endLine==cpos.line)=true) (hs:starEach (e::es) X.env=(false,eval e X.env)::starEach es X.env) (hplain:(backTo cpos (starEach es X.env)).any (·.1)=false):PE X (.Call (.Attribute o name apos) (e::es) [] cpos) (LE (mh r to ta)):=
 PE.imp (zU PySem.F.plainAttrs_list slot hty hm ho ha hbase hfew hline hs hplain) fun _ _ _ h=>LE.Gm L h
end
abbrev qv:=D→bF→af→(bF→af→Prop)→Prop
inductive DL(t:qv)(v:V)(σ:L2.St)(H:Hp)(Q:L2.St→Hp→Prop):Prop
 |mk (α:List (Option Addr)) (σd:bF) (st:af) (d:D) (K:bF→af→Prop) (G F:Hp) (P:bL G F H) (R:dt α G σd σ) (S:aR α st G) (r:Rep α G d v) (h:t d σd st K) (k:LC α G F K Q):DL t v σ H Q
def tG(t:qv):TG:=DL t
def nD(to ti:DE):qv:=fun d σ st K=>to σ st fun x st1=>ti σ st1 fun y st2=>oA x y d st2 fun st3=>K σ st3
section
variable {X:Cx}{pos:Pos}
theorem xv{tg:Expr}{to ti:DE}(h:PG X tg (pZ (LE to) (LE ti) nI)):PG X tg (tG (nD to ti)):=PG.imp h fun v σ H Q ⟨α,σd,st,d,K,G,F,P,R,S,r,q,k⟩=>by
 unfold nD oA at q
 refine⟨α,σd,st,_,G,F,P,R,S,q,fun x st2 q2 α2 G2 H2 v2 s2 P2 S2 r2=>?_⟩
 refine⟨α2,σd,st2,_,G2,F,P2,R.step s2,S2,q2,fun y st3 q3 α3 G3 H3 v3 s3 P3 S3 r3=>?_⟩
 cases x<;>cases y<;>try exact q3.elim
 rename_i n kk
 unfold uc at q3
 simp only at q3
 split at q3
 · rename_i xs e
   split at q3
   · rename_i j ej
     obtain⟨p,ep,vs,hv,rv⟩:=S3.gd e
     have r2':=et ep (r2.step s3)
     subst r2'
     unfold Rep at r3
     have hm:some p∈α3:=List.mem_of_getElem? ep
     have rd:=(r.step s2).step s3
     refine⟨p,vs,kk,j,rfl,r3,P3.get hv,by rw[←rv.length];exact ej,?_⟩
     refine((k.at s2).at s3) σd _ q3 α3 (upd G3 p (.lst (vs.set j v))) _ σ (Step.write hm) (P3.write hv) (((R.step s2).step s3).step (Step.write hm)) ?_
     exact S3.write ep ⟨vs.set j v,aO,(ba.mpr (lD rd j (ba.mp rv))).step (Step.write hm)⟩
   · exact q3.elim
 · exact q3.elim
def o6(t u:qv):qv:=fun d σ st K=>match d with| .tup [x,y]=>t x σ st fun σ1 st1=>u y σ1 st1 K|_=>False
theorem Bs{a b:Expr}{kx:Nat}{t u:qv}(hc:X.calm=true)(ha:PG X a (tG t))(hb:PG X b (tG u))(hn:(assignEach [a,b] X.env).length=2)(hst:(assignEach [a,b] X.env).findIdx? (·.1)=none)(hs1:xm X [a,b] (pV (tG t) (pV (tG u) zu))):
 PG X (.Tuple [a,b] kx pos) (tG (o6 t u)):=PG.imp (w6 hc hs1 hn hst) fun v σ H Q ⟨α,σd,st,d,K,G,F,P,R,S,r,q,k⟩=>by
 unfold o6 at q
 split at q
 · rename_i x y
   unfold Rep at r
   obtain⟨p,vs,rfl,na,h1,h2⟩:=r
   obtain⟨v1,v2,rfl,r1,r2⟩:=o5 h2 rfl
   refine⟨p,_,rfl,.of (P.get h1),rfl,v1,_,rfl,α,σd,st,x,_,G,F,P,R,S,r1,q,fun σ1 st1 q1 α1 G1 H1 σ1' s1 P1 R1 S1=>?_⟩
   refine⟨v2,_,rfl,α1,σ1,st1,y,_,G1,F,P1,R1,S1,r2.step s1,q1,fun σ2 st2 q2 α2 G2 H2 σ2' s2 P2 R2 S2=>?_⟩
   exact⟨rfl,((k.at s1).at s2).here P2 q2 R2 S2⟩
 · exact q.elim
def wC(t:qv)(te:DE):DS:=fun E σ st=>te σ st fun d st1=>t d σ st1 E.nx
theorem AB{s:Stmt}{te:DE}{t:qv}(h:PS X s (iR (LE te) (tG t))):PS X s (LS (wC t te)):=PS.imp h fun D σ H ⟨α,σd,st,DD,G,F,P,R,S,q,k⟩=>
 ⟨α,σd,st,_,G,F,P,R,S,q,fun d st1 q1 α1 G1 H1 v s1 P1 S1 r1=>⟨α1,σd,st1,d,DD.nx,G1,F,P1,R.step s1,S1,r1,q1,k.nx.at s1⟩⟩
theorem Bw{o1 i1 o2 i2 e:Expr}{kx:Nat}{p1 p2 tp:Pos}{to1 ti1 to2 ti2 te:DE}(ho1:JE X o1 to1)(hi1:JE X i1 ti1)(ho2:JE X o2 to2)(hi2:JE X i2 ti2)(he:JE X e te)(hc:X.calm=true:=by rfl)
 (hs:swapsWithSole [.Tuple [.Subscript o1 i1 p1,.Subscript o2 i2 p2] kx tp] e pos.line X.env=pure false:=by rfl) (hw:swappedStores [.Tuple [.Subscript o1 i1 p1,.Subscript o2 i2 p2] kx tp] e X.env=pure none:=by rfl)
 (h1:(assignEach [.Tuple [.Subscript o1 i1 p1,.Subscript o2 i2 p2] kx tp] X.env).map (·.2)=[assign (.Tuple [.Subscript o1 i1 p1,.Subscript o2 i2 p2] kx tp) X.env]:=by rfl) (hn:(assignEach [.Subscript o1 i1 p1,.Subscript o2 i2 p2] X.env).length=2:=by rfl) (hst:(assignEach [.Subscript o1 i1 p1,.Subscript o2 i2 p2] X.env).findIdx? (·.1)=none:=by rfl)
 (ha1:∀v,assign (.Subscript o1 i1 p1) X.env v=(do
   let ov ←holding [v] (eval o1 X.env)
   let iv ←holding [v,ov] (eval i1 X.env)
   standAt p1
   holding [v,ov,iv] (setItem ov iv v)
   release [v,ov,iv] []):=by intro _;rfl) (ha2:∀v,assign (.Subscript o2 i2 p2) X.env v=(do
   let ov ←holding [v] (eval o2 X.env)
   let iv ←holding [v,ov] (eval i2 X.env)
   standAt p2
   holding [v,ov,iv] (setItem ov iv v)
   release [v,ov,iv] []):=by intro _;rfl):
 JS X (.Assign [.Tuple [.Subscript o1 i1 p1,.Subscript o2 i2 p2] kx tp] e pos) (wC (o6 (nD to1 ti1) (nD to2 ti2)) te):=by
 unfold JS
 unfold JE at*
 have g1:=xv (pJ ho1 hi1 set_list ha1)
 have g2:=xv (pJ ho2 hi2 set_list ha2)
 exact AB (pM he (Bs hc g1 g2 hn hst (lE g1 (lE g2 vh))) hs hw h1)
end
end L3
namespace L3
open PySem L2
open PySem.Spec hiding items?
open PyProof.Rows hiding St
section
variable {X:Cx}
end
section
variable {st:af}{K:DK}{d:D}{b:Bool}
end
end L3
namespace L3
open PySem L2
open PySem.Spec hiding items?
open PyProof.Rows hiding St
section
variable {X:Cx}
theorem Au{o i elt:Expr}{gs:List Comprehension}{sc:Scope}{p:Pos}{to ti te:TE}{pos pos':Pos}(he:PE X (.ListComp elt gs sc p) te)(ho:PE X o to)(hi:PE X i ti)(h2:hJ i=true:=by rfl):PS X (.Assign [.Subscript o i pos'] (.ListComp elt gs sc p) pos) (iR te (pZ to ti nI)):=
 pM he (pJ ho hi set_list (by intro v;cases i<;>first|rfl|cases h2)) (by unfold swapsWithSole swapsWith;rfl) rfl rfl
theorem qR{o i elt:Expr}{gs:List Comprehension}{sc:Scope}{p pos pos':Pos}{te to ti:DE}(he:JE X (.ListComp elt gs sc p) te)(ho:JE X o to)(hi:JE X i ti)(h2:hJ i=true:=by rfl):JS X (.Assign [.Subscript o i pos'] (.ListComp elt gs sc p) pos) (dO to ti te):=by
 unfold JS;unfold JE at*;exact ug (Au he ho hi h2)
end
end L3
namespace L3
open PySem L2
open PySem.Spec hiding items?
open PyProof.Rows hiding St
open AutoSeq1 (wpAny_loadPart')
end L3
namespace L3
open PySem L2
open PySem.Spec hiding items?
open PyProof.Rows hiding St
section
variable {prog:Program}{w:World}{A:Around}{E:Value→Shared→Prop}{s:Shared}
end
section
variable {X:Cx}{tg:Expr}
end
end L3
namespace L3
open PySem L2
open PySem.Spec hiding items?
open PyProof.Rows hiding St
theorem lL{A B:Type}{F:A→B→Prop}{x:A}{y:B}(h:F x y):∀ {xs:List A} {ys:List B} (i:Nat),Paired F xs ys→Paired F (xs.take i++x::xs.drop i) (ys.take i++y::ys.drop i)
 |_,_,0,t=> .cons h t
 |_,_,i+1,.nil=>by simpa using(Paired.cons h .nil)
 |_,_,i+1,.cons r t=> .cons r (lL h i t)
section
variable {X:Cx}
def Dm:V→List V→Hp→VK→Prop:=fun x vs H Q=>∃(l:Addr) (xs:List V) (i:Int) (y:V),x= .ref l∧vs=[.int i,y]∧H l=some (.lst xs)∧0≤i∧i<2^62∧i.toNat≤xs.length∧xs.length<sizeLine∧Q .aJ (upd H l (.lst (xs.take i.toNat++y::xs.drop i.toNat)))
theorem BJ{its:List Value}{i:Int}{u:Value}(h0:0≤i)(h:i.toNat≤its.length):(its.toArray.extract 0 (if i<0 then(i+(its.toArray.size:Int)).toNat else min i.toNat its.toArray.size)).push u++its.toArray.extract (if i<0 then(i+(its.toArray.size:Int)).toNat else min i.toNat its.toArray.size)=(its.take i.toNat++u::its.drop i.toNat).toArray:=by
 have hk:(if i<0 then(i+(its.toArray.size:Int)).toNat else min i.toNat its.toArray.size)=i.toNat:=by
  rw[if_neg (by omega),List.size_toArray];omega
 rw[hk]
 exact PySem.W.kl_ins_eq its i.toNat u
theorem DH:Fz X "list.insert" Dm:=by
 intro pins s σ H x vs v us Q I rx rv h
 obtain⟨l,xs,i,y,rfl,rfl,hH,h0,h1,h2,hz,q⟩:=h
 cases rx
 obtain⟨u1,u2,rfl,ru1,ru2⟩:=vals2 rv
 obtain⟨t,rfl⟩:=ru1
 obtain⟨z,its,n,r,hl,e⟩:=I.CG hH
 have fit:Builtin.List.listFitsIndex i=true:=fitsIndex_both (by omega) (by omega)
 have hsz:its.toArray.size≤sizeLine:=by rw[List.size_toArray,←hl];exact z
 have hft:¬(!Builtin.List.listFitsIndex i)=true:=by rw[fit];exact Bool.false_ne_true
 have M:=AutoSeq1.list_insert_list_int_val_1 l its.toArray n i t u2 hft hsz
 refine call_meets F.slot_list_insert ⟨_,e,rfl⟩ F.entry_list_insert (F.args_list_insert_3 _ _ _) M ⟨e,?_⟩
 refine⟨.aJ,_,I.BY (its':=its.take i.toNat++u2::its.drop i.toNat) hH e (BJ h0 (by omega)) (lL ru2 i.toNat r) ?_,rfl,q⟩
 rw[List.length_append,List.length_cons,List.length_take,List.length_drop]
 omega
def kv:DM:=fun n ds st K=>match ds with
 | [.int i,d]=>(match st[n]? with|some (.lst xs)=>(0≤i∧i≤xs.length∧i<2^62∧xs.length<sizeLine)∧K .aJ (st.set n (.lst (xs.take i.toNat++d::xs.drop i.toNat)))|_=>False)
 |_=>False
theorem xY:LiftM kv Dm:=by
 intro α G F H st K Q n a ds ws P S ea rs q k
 unfold kv at q
 split at q
 · rename_i i d
   split at q
   · rename_i xs e
     obtain⟨⟨h0,h1,h2,h3⟩,q⟩:=q
     obtain⟨v,u,rfl,r1,r2⟩:=o5 rs rfl
     unfold Rep at r1
     subst r1
     obtain⟨a',ea',vs,g1,g2⟩:=S.gd e
     rw[ea]at ea';cases ea'
     have hl:=g2.length
     have hm:some a∈α:=List.mem_of_getElem? ea
     refine⟨a,vs,i,u,rfl,rfl,P.get g1,h0,h2,by omega,by omega,?_⟩
     refine k .aJ _ q α (upd G a (.lst (vs.take i.toNat++u::vs.drop i.toNat))) _ .aJ (Step.write hm) (P.write g1) ?_ (by unfold Rep;rfl)
     exact S.write ea ⟨vs.take i.toNat++u::vs.drop i.toNat,aO,(ba.mpr (lL r2 i.toNat (ba.mp g2))).step (Step.write hm)⟩
   · exact q.elim
 · exact q.elim
theorem E1{o e f:Expr}{to te tf:DE}{apos cpos:Pos}(ho:JE X o to)(he:JE X e te)(hf:JE X f tf)(hbase:attributeBase o "insert" X.env (eval o X.env)=eval o X.env:=by rfl)(hline:(apos.endLine==cpos.line)=true:=by rfl)(hs:notStar e=true:=by rfl)(hs2:notStar f=true:=by rfl):JE X (.Call (.Attribute o "insert" apos) [e,f] [] cpos) (mh kv to (ag te (ag tf av))):=by
 unfold JE at*
 refine Ds xY PySem.F.slot_list_insert PySem.F.type_list_insert DH ho (kT he (kT hf pG (bR hs2)) (bR hs)) hbase ?_ hline (bR hs) ?_
 · rw[bR hs,bR hs2]
   rfl
 · rw[bR hs2]
   rfl
end
end L3
namespace L3
open PySem L2
open PySem.Spec hiding items?
open PyProof.Rows hiding St
section
variable {X:Cx}
end
end L3
namespace L3
open PySem L2
open PySem.Spec hiding items?
open PyProof.Rows hiding St
open PySem PySem.Spec L2 PySem.SeqAt
section
variable {X:Cx}
end
end L3
namespace L3
open PySem L2
open PySem.Spec hiding items?
open PyProof.Rows hiding St
section
variable {X:Cx}
end
end L3
namespace L3
open PySem L2
open PySem.Spec hiding items?
open PyProof.Rows hiding St
section
variable {X:Cx}
end
section
variable {X:Cx}
end
end L3
namespace L3
open PySem L2
open PySem.Spec hiding items?
open PyProof.Rows hiding St
section
variable {X:Cx}
end
end L3
namespace L3
open PySem L2
open PySem.Spec hiding items?
open PyProof.Rows hiding St
section
variable {X:Cx}
end
end L3
namespace L3
open PySem L2
open PySem.Spec hiding items?
open PyProof.Rows hiding St
section
variable {P:Program}{w:World}
section
variable {z ti to t1 t2 t3 a1 a2 a3:Addr}
end
end
end L3
namespace L3
open PySem L2
open PySem.Spec hiding items?
open PyProof.Rows hiding St
end L3
namespace L3
open PySem L2
open PySem.Spec hiding items?
open PyProof.Rows hiding St
section
variable {X:Cx}
end
end L3
namespace L3
open PySem L2
open PySem.Spec hiding items?
open PyProof.Rows hiding St
open Sem (wp)
section
variable {prog:Program}{w:World}{A:Around}{s:Shared}{E:Value→Shared→Prop}
end
section
variable {prog:Program}{w:World}{A:Around}{R:Result→Shared→Prop}{I:Addr}{fp wr:List Addr}{G:Array GenState→Array GenState→Prop}{n:Nat}{P:Nat→Value→Prop}{Sx:Nat→Shared→Prop}
end
section
variable {prog:Program}{w:World}{A:Around}{E:Value→Shared→Prop}{s:Shared}
end
section
variable {X:Cx}{pins:List (Addr×Obj)}{σ:L2.St}{H:Hp}{s:Shared}{α:List (Option Addr)}
end
end L3
namespace L3
open PySem L2
open PySem.Spec hiding items?
open PyProof.Rows hiding St
section
variable {X:Cx}
end
end L3
namespace L3
open PySem L2
open PySem.Spec hiding items?
open PyProof.Rows hiding St
def putD(f:Str)(v:D):List (Str×D)→List (Str×D)
 | []=>[(f,v)]
 |(g,x)::r=>if g=f then(g,v)::r else(g,x)::putD f v r
theorem g9.look{α:List (Option Addr)}{H:Hp}{f:Str}{v:D}:∀ {fs:List (Str×D)} {vs:List (Str×V)},g9 α H fs vs→fs.lookup f=some v→∃u,vs.lookup f=some u∧Rep α H v u
 | [],_,_,e=>by cases e
 |(g,x)::fs,_,.cons (b:=q) h t,e=>by
  obtain⟨g',y⟩:=q
  obtain⟨h1,h2⟩:=h
  simp only at h1 h2
  subst h1
  rw[List.lookup_cons]at e⊢
  cases hb:f==g with
  |true=>rw[hb]at e;cases e;exact⟨y,rfl,h2⟩
  |false=>rw[hb]at e;exact g9.look t e
theorem g9.none{α:List (Option Addr)}{H:Hp}{f:Str}:∀ {fs:List (Str×D)} {vs:List (Str×V)},g9 α H fs vs→fs.lookup f=Option.none→vs.lookup f=Option.none
 | [],_,.nil,_=>rfl
 |(g,x)::fs,_,.cons (b:=q) h t,e=>by
  obtain⟨g',y⟩:=q
  obtain⟨h1,h2⟩:=h
  simp only at h1 h2
  subst h1
  rw[List.lookup_cons]at e⊢
  cases hb:f==g with
  |true=>rw[hb]at e;cases e
  |false=>rw[hb]at e;exact g9.none t e
theorem g9.put{α:List (Option Addr)}{H:Hp}{f:Str}{d:D}{v:V}(r:Rep α H d v):∀ {fs:List (Str×D)} {vs:List (Str×V)},g9 α H fs vs→g9 α H (putD f d fs) (fJ f v vs)
 | [],_,.nil=> .cons ⟨rfl,r⟩ .nil
 |(g,x)::fs,_,.cons (b:=q) h t=>by
  obtain⟨g',y⟩:=q
  obtain⟨h1,h2⟩:=h
  simp only at h1 h2
  subst h1
  unfold putD fJ
  by_cases hb:g=f
  · rw[if_pos hb,if_pos hb];exact .cons ⟨rfl,r⟩ t
  · rw[if_neg hb,if_neg hb];exact .cons ⟨rfl,h2⟩ (g9.put r t)
def yW(C:Addr)(f:Str)(d:D)(st:af)(K:DK):Prop:=match d with
 | .ref n=>(match st[n]? with|some (.ins C' fs)=>C'=C∧∃v,fs.lookup f=some v∧K v st|_=>False)
 |_=>False
@[irreducible] def vF(C:Addr)(f:Str):D→af→DK→Prop:=yW C f
def du(C:Addr)(f:Str)(te:DE):DE:=fun σ st K=>te σ st fun d st1=>vF C f d st1 K
theorem cj{C:Addr}{f:Str}{n:Nat}{st:af}{K:DK}{fs:List (Str×D)}{v:D}(e:st[n]?=some (.ins C fs))(h:fs.lookup f=some v)(k:K v st):vF C f (.ref n) st K:=by
 unfold vF yW;simp only[e];exact⟨trivial,v,h,k⟩
def vE(C:Addr)(f:Str)(x d:D)(st:af)(K:af→Prop):Prop:=match x with
 | .ref n=>(match st[n]? with|some (.ins C' fs)=>C'=C∧fs.length<1000∧K (st.set n (.ins C (putD f d fs)))|_=>False)
 |_=>False
@[irreducible] def rG(C:Addr)(f:Str):D→D→af→(af→Prop)→Prop:=vE C f
def kC(C:Addr)(f:Str)(to te:DE):DS:=fun D σ st=>te σ st fun d st1=>to σ st1 fun x st2=>rG C f x d st2 fun st3=>D.nx σ st3
theorem jL{C:Addr}{f:Str}{n:Nat}{d:D}{st:af}{K:af→Prop}{fs:List (Str×D)}(e:st[n]?=some (.ins C fs))(h:fs.length<1000)(k:K (st.set n (.ins C (putD f d fs)))):rG C f (.ref n) d st K:=by
 unfold rG vE;simp only[e];exact⟨trivial,h,k⟩
def vx(C:Addr)(m:Str)(x:D)(st:af)(k:Prop):Prop:=match x with
 | .ref n=>(match st[n]? with|some (.ins C' fs)=>C'=C∧fs.lookup m=none∧k|_=>False)
 |_=>False
@[irreducible] def rK(C:Addr)(m:Str):D→af→Prop→Prop:=vx C m
theorem iu{C:Addr}{m:Str}{n:Nat}{st:af}{k:Prop}{fs:List (Str×D)}(e:st[n]?=some (.ins C fs))(h:fs.lookup m=none)(q:k):rK C m (.ref n) st k:=by
 unfold rK vx;simp only[e];exact⟨trivial,h,q⟩
def g0(C:Addr)(m:Str)(S:dc)(to:DE)(t:DA):DE:=fun σ st K=>to σ st fun x st1=>rK C m x st1 (t σ st1 fun ds st2=>S (x::ds) st2 K)
def vM(C:Addr)(S:dc)(t:DA):DE:=fun σ st K=>t σ st fun ds st1=>S (.ref st1.length::ds) (st1++[.ins C []]) fun r st2=>r= .aJ∧K (.ref st1.length) st2
section
variable {X:Cx}{C f g:Addr}{fd:FuncData}{k:Nat}{x m fl:Str}{e o value:Expr}{es:List Expr}{p pos pos' apos:Pos}{te to:DE}{t:DA}{S:dc}{ps:List Str}
theorem Eu(c:kr X.K C)(na:fF X.K C fl)(he:PE X e (LE te))(hb:attributeBase e fl X.env (eval e X.env)=eval e X.env):PE X (.Attribute e fl pos) (LE (du C fl te)):=PE.imp (DU he hb) fun σ H Q ⟨α,σd,st,K,G,F,P,R,S,t,k⟩=>by
 refine⟨α,σd,st,_,G,F,P,R,S,t,fun d st1 q α1 G1 H1 v s1 P1 S1 r1=>?_⟩
 unfold vF yW at q
 cases d<;>try exact q.elim
 simp only at q
 split at q
 · rename_i C' fs e'
   obtain⟨rfl,w,hw,q⟩:=q
   obtain⟨a,ea,dx,vs,h1,h2⟩:=S1.vG e'
   have r1':=et ea r1
   subst r1'
   obtain⟨u,hu,ru⟩:=h2.look hw
   exact⟨a,_,dx,vs,u,rfl,P1.get h1,c,na,hu,(k.at s1).here P1 q S1 ru⟩
 · exact q.elim
theorem C9(c:kr X.K C)(na:fF X.K C fl)(ho:PE X o (LE to))(hv:PE X value (LE te))(hs:swapsWith value (some (.Attribute o fl pos')) pos.line X.env=pure false):PS X (.Assign [.Attribute o fl pos'] value pos) (LS (kC C fl to te)):=PS.imp (Dq ho hv hs) fun D σ H ⟨α,σd,st,DD,G,F,P,R,S,t,k⟩=>by
 refine⟨α,σd,st,_,G,F,P,R,S,t,fun d st1 q α1 G1 H1 v s1 P1 S1 r1=>?_⟩
 refine⟨α1,σd,st1,_,G1,F,P1,R.step s1,S1,q,fun x st2 q2 α2 G2 H2 v2 s2 P2 S2 r2=>?_⟩
 unfold rG vE at q2
 cases x<;>try exact q2.elim
 simp only at q2
 split at q2
 · rename_i C' fs e'
   obtain⟨rfl,hl,q2⟩:=q2
   obtain⟨a,ea,dx,vs,h1,h2⟩:=S2.vG e'
   have r2':=et ea r2
   subst r2'
   have hm:some a∈α2:=List.mem_of_getElem? ea
   have lv:vs.length<1000:=by rw[←h2.length];exact hl
   refine⟨a,_,dx,vs,rfl,P2.get h1,c,na,lv,?_⟩
   refine((k.nx.at s1).at s2) σd _ q2 α2 (upd G2 a (.ins _ dx (fJ fl v vs))) _ σ (Step.write hm) (P2.write h1) (((R.step s1).step s2).step (Step.write hm)) ?_
   exact S2.write ea ⟨dx,fJ fl v vs,aO,(h2.put (r1.step s2)).step (Step.write hm)⟩
 · exact q2.elim
theorem LE.Ej{σ:L2.St}{H:Hp}{Q:VK}(h:LE (g0 C m S to t) σ H Q):Ak C m (aX S) [] E0 (LE to) (LA t) σ H Q:=by
 obtain⟨α,σd,st,K,G,F,P,R,Sr,tt,k⟩:=h
 refine⟨α,σd,st,_,G,F,P,R,Sr,tt,fun d st1 q α1 G1 H1 v s1 P1 S1 r1=>?_⟩
 unfold rK vx at q
 cases d<;>try exact q.elim
 simp only at q
 split at q
 · rename_i n C' fs e'
   obtain⟨rfl,hl,q⟩:=q
   obtain⟨a,ea,dx,vs,h1,h2⟩:=S1.vG e'
   have r1':=et ea r1
   subst r1'
   refine⟨a,dx,vs,rfl,P1.get h1,h2.none hl,?_⟩
   refine⟨α1,σd,st1,_,G1,F,P1,R.step s1,S1,q,fun ds st2 q2 α2 G2 H2 us s2 P2 S2 r2=>?_⟩
   try dsimp only
   rw[List.append_nil]
   exact⟨α2,_,st2,K,G2,F,P2,by unfold aH;exact⟨_,_,rfl,r1.step s2,r2⟩,S2,q2,(k.at s1).at s2⟩
 · exact q.elim
theorem LE.make{σ:L2.St}{H:Hp}{Q:VK}(h:LE (vM C S t) σ H Q):zX C (aX S) [] E0 (LA t) σ H Q:=by
 obtain⟨α,σd,st,K,G,F,P,R,Sr,tt,k⟩:=h
 refine⟨α,σd,st,_,G,F,P,R,Sr,tt,fun ds st1 q α1 G1 H1 us s1 P1 S1 r1=>?_⟩
 intro x dx hx hdx hne
 have hgd:=(P1.none hdx).1
 have P2:=P1.laid (o:= .own x) hdx
 have S2:=S1.laid (o:= .own x) hgd
 have hx2:upd H1 dx (.own x) x=none:=by rw[aD (Ne.symm hne)];exact hx
 have hg2:=(P2.none hx2).1
 have P3:=P2.laid (o:= .ins C dx []) hx2
 have S3:=S2.cell (o:= .ins C dx []) (c:= .ins C []) hg2 ⟨dx,[],aO,.nil⟩
 have s2:Step α1 G1 α1 (upd G1 dx (.own x)):=Step.laid hgd
 have s3:Step α1 (upd G1 dx (.own x)) (α1++[some x]) (upd (upd G1 dx (.own x)) x (.ins C dx [])):=Step.cell hg2
 have rx:Rep (α1++[some x]) (upd (upd G1 dx (.own x)) x (.ins C dx [])) (.ref st1.length) (.ref x):=by
  unfold Rep
  refine .inr ⟨x,?_,rfl⟩
  rw[List.getElem?_append_right (by rw[S1.len];exact Nat.le_refl _),S1.len,Nat.sub_self]
  rfl
 rw[List.append_nil]
 refine⟨α1++[some x],.ref st1.length::ds,st1++[.ins C []],_,_,F,P3,by unfold aH;exact⟨_,_,rfl,rx,(r1.step s2).step s3⟩,S3,q,fun d st2 q2 α' G' H' v s' P' S' r'=>?_⟩
 obtain⟨rfl,q2⟩:=q2
 unfold Rep at r'
 exact⟨r',(((k.at s1).at s2).at s3) _ st2 q2 α' G' H' _ s' P' S' (rx.step s')⟩
end
end L3
namespace L3
open PySem L2
open PySem.Spec hiding items?
open PyProof.Rows hiding St
section
variable {X:Cx}{tg:Expr}
end
section
variable {X:Cx}
end
end L3
namespace L3
open PySem L2
open PySem.Spec hiding items?
open PyProof.Rows hiding St
section
variable {X:Cx}{e o i value:Expr}{es:List Expr}{te to ti:DE}{t:DA}{pos pos' tpos apos p:Pos}{C f:Addr}{fl m x:Str}{S:dc}{k:Nat}{fd:FuncData}{ps:List Str}
theorem x4{value o:Expr}{fl:Str}{pos':Pos}{n:Nat}{env:Env}:swapsWith value (some (.Attribute o fl pos')) n env=pure false:=by cases value<;>rfl
theorem cM(c:kr X.K C)(na:fF X.K C fl)(he:JE X e te)(hb:attributeBase e fl X.env (eval e X.env)=eval e X.env:=by rfl):JE X (.Attribute e fl pos) (du C fl te):=by unfold JE at*;exact Eu c na he hb
theorem jK(c:kr X.K C)(na:fF X.K C fl)(ho:JE X o to)(hv:JE X value te):JS X (.Assign [.Attribute o fl pos'] value pos) (kC C fl to te):=by unfold JS;unfold JE at*;exact C9 c na ho hv x4
theorem jc{pl:Sem Bool}(he:JE X o to)(c:kr X.K C)(hm:Meth X.K C m f)(F:aB X.prog X.w X.K X.mg X.base aU k f fd ps (aX S))(hr:cC k X.A)(hb:Binds X.K fd ps [])(ha:JA X (e::es) t)
 (hs:notStar e=true:=by rfl) (hs2:fC es=true:=by rfl)
 (ht:eval (.Call (.Attribute o m apos) (e::es) [] pos) X.env=(do
   let ov ←eval o X.env
   standAt apos.atName
   let(f,first) ←holding [ov] (getMethod ov m pl)
   callWith pos f first (backTo pos (starEach (e::es) X.env)) (backToKw pos (keywordEach [] X.env))):=by rfl):
 JE X (.Call (.Attribute o m apos) (e::es) [] pos) (g0 C m S to t):=by
 unfold JE at*
 unfold JA at ha
 exact PE.imp (Bt he c hm F hr hb .nil vz ha (bR hs) (iP hs2) ht) fun _ _ _ h=>LE.Ej h
theorem Dl(M:Mk X.K C f)(F:aB X.prog X.w X.K X.mg X.base aU k f fd ps (aX S))(hr:cC (k+1) X.A)(hg:Gl X x)(hmg:X.mg x=some (.ref C))(hb:Binds X.K fd ps [])(ha:JA X (e::es) t)(hdb:(x==("__debug__":Str))=false)
 (hs:notStar e=true:=by rfl) (hs2:fC es=true:=by rfl):JE X (.Call (.Name x p) (e::es) [] pos) (vM C S t):=by
 unfold JE
 unfold JA at ha
 exact PE.imp (AN M F hr hg hmg hb .nil vz ha hdb (bR hs) (iP hs2)) fun _ _ _ h=>LE.make h
end
end L3
namespace L3
open PySem PySem.Spec L2
open PyProof.Rows hiding St
def Jn(xs:Array Keyed)(i:Nat):Int:=match xs[i]? with
 |some p=>numOf p.2
 |none=>0
theorem jW{xs ys:Array Keyed}{i j:Nat}(h:xs[i]?=ys[j]?):Jn xs i=Jn ys j:=by unfold Jn;rw[h]
theorem i_{xs:Array Keyed}{i j:Nat}(hj:j≤xs.size)(k:Nat):
 K (mirror xs i j ((j-i)/2)) k=K xs (if i≤k∧k<j then i+j-1-k else k)∧Jn (mirror xs i j ((j-i)/2)) k=Jn xs (if i≤k∧k<j then i+j-1-k else k):=by
 have e:=getElem?_mirror_all (i:=i) hj k
 split at e<;>rename_i h
 · rw[if_pos h];exact⟨K_congr e,jW e⟩
 · rw[if_neg h];exact⟨K_congr e,jW e⟩
theorem wO{xs:Array Keyed}{src d:Nat}(hs:src<xs.size)(hd:d≤src)(k:Nat):
 K (bubble xs src d) k=K xs (if k=src-d then src else if src-d<k∧k≤src then k-1 else k)∧Jn (bubble xs src d) k=Jn xs (if k=src-d then src else if src-d<k∧k≤src then k-1 else k):=by
 have e:=getElem?_bubble hs d hd k
 split at e<;>rename_i h
 · rw[if_pos h];exact⟨K_congr e,jW e⟩
 · rw[if_neg h]
   split at e<;>rename_i h2
   · rw[if_pos h2];exact⟨K_congr e,jW e⟩
   · rw[if_neg h2];exact⟨K_congr e,jW e⟩
def jb(xs:Array Keyed)(i j:Nat):Prop:=K xs i<K xs j∨(K xs i=K xs j∧Jn xs i<Jn xs j)
def gX(xs:Array Keyed)(k:Nat):Prop:=∀i j,i<j→j<k→jb xs i j
def gn(n:Nat)(xs:Array Keyed)(k:Nat):Prop:=∀i j,i<j→k≤j→j<n→Jn xs i<Jn xs j
theorem gX.to{xs:Array Keyed}{k:Nat}(h:gX xs k):SortedTo xs k:=fun i j hij hj=>by
 rcases Nat.lt_or_eq_of_le hij with e|e
 · rcases h i j e hj with q|q<;>omega
 · subst e;exact Int.le_refl _
theorem gX.more{xs:Array Keyed}{n k m:Nat}(h:gX xs k)(t:gn n xs k)(s:SortedTo xs m)(hm:m≤n):gX xs m:=fun i j hij hj=>by
 by_cases hk:j<k
 · exact h i j hij hk
 · have a:=s i j (Nat.le_of_lt hij) hj
   have b:=t i j hij (Nat.le_of_not_lt hk) (Nat.lt_of_lt_of_le hj hm)
   unfold jb;omega
theorem gn.up{xs:Array Keyed}{n k m:Nat}(t:gn n xs k)(h:k≤m):gn n xs m:=fun i j a b c=>t i j a (Nat.le_trans h b) c
theorem gn.mix{xs ys:Array Keyed}{n k:Nat}(t:gn n xs k)(f:Nat→Nat)(hf:∀i,Jn ys i=Jn xs (f i))(h1:∀i,i<k→f i<k)(h2:∀i,k≤i→f i=i):gn n ys k:=fun i j a b c=>by
 rw[hf,hf,h2 j b]
 refine t _ _ ?_ b c
 by_cases hi:i<k
 · exact Nat.lt_of_lt_of_le (h1 i hi) b
 · rw[h2 i (Nat.le_of_not_lt hi)];exact a
section
variable {prog:Program}{w:World}{A:Around}{E:Value→Shared→Prop}{s:Shared}{a₀:Array Keyed}
theorem yp{st:SortSt}{ok:Nat}{Q:Bool→SortSt→Prop}(h0:IntKeys a₀)(h1:1≤ok)(aL:ok≤a₀.size)(hB:SBase a₀ st)(hs:gX (arrOf st) ok)(ht:gn a₀.size (arrOf st) ok)
 (h:∀st',SBase a₀ st'→gX (arrOf st') a₀.size→Q true st'):wpS (model prog w) A E s (binarySort' 0 a₀.size ok) Q st:=by
 rw[binarySort'_eq]
 simp only[Nat.zero_add]
 refine wpS_bind (wpS_mono (wpS_forRange (I:=fun k c q=>c=(none,())∧SBase a₀ q∧k≤a₀.size∧gX (arrOf q) k∧gn a₀.size (arrOf q) k)
  (Q:=fun c q=>c=(none,())∧SBase a₀ q∧gX (arrOf q) a₀.size) ?st ?en ?be) ?po)
 case po=>rintro c q ⟨rfl,b1,b2⟩;exact wpS_pure (h q b1 b2)
 case be=>rw[show max ok 1=ok by omega];exact⟨rfl,hB,aL,hs,ht⟩
 case en=>
  rintro c q ⟨rfl,b1,b2,b3,_⟩
  rw[show max (max ok 1) a₀.size=a₀.size by omega]at b3
  exact⟨rfl,b1,b3⟩
 case st=>
  rintro k c q hk1 hk2 ⟨rfl,qB,_,qS,qT⟩
  refine wpS_bind (wpS_mono (wpS_forRange (I:=fun x c q'=>q'=q∧∃l r,c=(none,l,r)∧l≤r∧r≤k∧r-l≤k-x∧(∀i,i<l→K (arrOf q) i≤K (arrOf q) k)∧(∀i,r≤i→i<k→K (arrOf q) k<K (arrOf q) i))
   (Q:=fun c q'=>q'=q∧∃l,c=(none,l,l)∧l≤k∧(∀i,i<l→K (arrOf q) i≤K (arrOf q) k)∧(∀i,l≤i→i<k→K (arrOf q) k<K (arrOf q) i)) ?a ?b ?c) ?d)
  case c=>exact⟨rfl,0,k,rfl,by omega,by omega,by omega,fun i hi=>by omega,fun i x y=>by omega⟩
  case b=>
   rintro c q' ⟨rfl,l,r,rfl,e1,e2,e3,e4,e5⟩
   have:r=l:=by omega
   subst this
   exact⟨rfl,r,rfl,e2,e4,e5⟩
  case a=>
   rintro x c q' _ hx ⟨rfl,l,r,rfl,e1,e2,e3,e4,e5⟩
   dsimp only
   by_cases hlr:l≥r
   · rw[if_pos hlr]
     have:r=l:=by omega
     subst this
     exact wpS_pure ⟨rfl,r,rfl,e2,e4,e5⟩
   · rw[if_neg hlr]
     refine wpS_bind (wpS_ltK qB h0 hk2 (by omega) ?_)
     have so:=qS.to
     by_cases hl:K (arrOf q') k<K (arrOf q') ((l+r)/2)
     · simp only[hl,decide_true,if_true]
       exact wpS_pure ⟨rfl,l,(l+r)/2,rfl,by omega,by omega,by omega,e4,fun i x y=>Int.lt_of_lt_of_le hl (so _ _ x y)⟩
     · simp only[hl,decide_false,Bool.false_eq_true,if_false]
       refine wpS_pure ⟨rfl,(l+r)/2+1,r,rfl,by omega,by omega,by omega,fun i x=>?_,e5⟩
       have:=so i ((l+r)/2) (by omega) (by omega)
       omega
  case d=>
   rintro c q' ⟨rfl,l,rfl,hlk,e4,e5⟩
   show wpS _ _ _ _ (do moveDown' k l;pure (ForInStep.yield (none,()))) _ _
   rw[moveDown'_eq]
   have hks:k<(arrOf q').size:=by rw[qB.size];exact hk2
   have bb:=wO (xs:=arrOf q') hks (show k-l≤k by omega)
   rw[show k-(k-l)=l by omega]at bb
   refine wpS_bind (wpS_modify (wpS_pure ⟨rfl,qB.setArr (bubble_perm _ _ _),by omega,fun i j hij hj=>?_,gn.mix (qT.up (Nat.le_succ k)) _ (fun i=>(bb i).2) (fun i hi=>?_) (fun i hi=>?_)⟩))
   · show jb (bubble (arrOf q') k (k-l)) i j
     unfold jb
     rw[(bb i).1,(bb i).2,(bb j).1,(bb j).2]
     by_cases hil:i<l
     · rw[if_neg (show¬i=l by omega),if_neg (show¬(l<i∧i≤k) by omega)]
       by_cases hjl:j=l
       · rw[if_pos hjl]
         have x:=e4 i hil
         have y:=qT i k (by omega) (Nat.le_refl _) hk2
         omega
       · rw[if_neg hjl]
         by_cases hj2:l<j∧j≤k
         · rw[if_pos hj2];exact qS i (j-1) (by omega) (by omega)
         · rw[if_neg hj2];exact qS i j hij (by omega)
     · by_cases hie:i=l
       · rw[if_pos hie,if_neg (show¬j=l by omega),if_pos (show l<j∧j≤k by omega)]
         exact .inl (e5 _ (by omega) (by omega))
       · rw[if_neg hie,if_pos (show l<i∧i≤k by omega),if_neg (show¬j=l by omega),if_pos (show l<j∧j≤k by omega)]
         exact qS _ _ (by omega) (by omega)
   · show(if i=l then k else if l<i∧i≤k then i-1 else i)<k+1
     split
     · omega
     · split<;>omega
   · show(if i=l then k else if l<i∧i≤k then i-1 else i)=i
     rw[if_neg (by omega),if_neg (by omega)]
def qP(xs:Array Keyed)(m q:Nat):Prop:=q+1≤m∧∀i j,i<j→j<m→(m≤i+(q+1)→K xs i=K xs j∧Jn xs i<Jn xs j)∧(i+(q+1)<m→(m≤j+(q+1)→K xs j<K xs i)∧jb xs j i)
theorem qP.all{xs:Array Keyed}{m q:Nat}(h:qP xs m q)(hm:m≤xs.size):(q=0∨0<q)∧∀i j,i<j→j<m→jb (mirror xs (m-(q+1)) m ((m-(m-(q+1)))/2)) j i:=by
 refine⟨by omega,fun i j hij hj=>?_⟩
 have b:=i_ (i:=m-(q+1)) (j:=m) hm
 unfold jb
 rw[(b i).1,(b i).2,(b j).1,(b j).2]
 by_cases hi:m-(q+1)≤i∧i<m
 · rw[if_pos hi,if_pos (show m-(q+1)≤j∧j<m by omega)]
   have:=(h.2 (m-(q+1)+m-1-j) (m-(q+1)+m-1-i) (by omega) (by omega)).1 (by omega)
   omega
 · rw[if_neg hi]
   by_cases hj2:m-(q+1)≤j∧j<m
   · rw[if_pos hj2]
     have:=((h.2 i (m-(q+1)+m-1-j) (by omega) (by omega)).2 (by omega)).1 (by omega)
     omega
   · rw[if_neg hj2]
     exact((h.2 i j hij hj).2 (by omega)).2
theorem qP.zero{xs:Array Keyed}{m:Nat}(h:qP xs m 0):∀i j,i<j→j<m→jb xs j i:=fun i j hij hj=>((h.2 i j hij hj).2 (by omega)).2
theorem jB{n:Nat}{xs:Array Keyed}{i j k:Nat}(t:gn n xs k)(hj:j≤xs.size)(hk:j≤k):gn n (mirror xs i j ((j-i)/2)) k:=
 t.mix _ (fun a=>(i_ hj a).2) (fun a ha=>by split<;>omega) fun a ha=>by rw[if_neg (by omega)]
theorem yv{st:SortSt}{n:Nat}{Q:DescSt→SortSt→Prop}(h0:IntKeys a₀)(hn:n≤a₀.size)(hB:SBase a₀ st)(hs:qP (arrOf st) n 0)(ht:gn a₀.size (arrOf st) n)
 (h:∀m q st',SBase a₀ st'→n≤m→m≤a₀.size→qP (arrOf st') m q→gn a₀.size (arrOf st') m→Q (none,m,q) st'):
 wpS (model prog w) A E s (descLoop n a₀.size) Q st:=by
 unfold descLoop
 refine wpS_forRange (I:=fun x c st'=>∃q,c=(none,x,q)∧SBase a₀ st'∧qP (arrOf st') x q∧gn a₀.size (arrOf st') x) ?st ?en ⟨0,rfl,hB,hs,ht⟩
 case en=>
  rintro c st' ⟨q,rfl,b1,b2,b3⟩
  rw[show max n a₀.size=a₀.size by omega]at b2 b3⊢
  exact h _ q st' b1 hn (Nat.le_refl _) b2 b3
 case st=>
  rintro x c st' hx1 hx2 ⟨q,rfl,b1,b2,b3⟩
  dsimp only
  have hq:=b2.1
  have hsz:x≤(arrOf st').size:=by rw[b1.size];omega
  refine wpS_bind (wpS_ltK b1 h0 hx2 (by omega) ?_)
  by_cases hl:K (arrOf st') x<K (arrOf st') (x-1)
  · simp only[hl,decide_true,if_true]
    by_cases hq0:q>0
    · rw[if_pos hq0]
      have al:=(b2.all hsz).2
      have km:=i_ (i:=x-(q+1)) (j:=x) hsz
      refine wpS_bind (wpS_reverse (wpS_pure ⟨0,rfl,b1.setArr (mirror_perm _ _ _ _),⟨by omega,fun i j hij hj=>⟨fun hh=>by omega,fun hh=>⟨fun hj2=>?_,?_⟩⟩⟩,(jB b3 hsz (Nat.le_refl _)).up (Nat.le_succ x)⟩))
      · have hjx:j=x:=by omega
        subst hjx
        show K (mirror (arrOf st') _ _ _) j<K (mirror (arrOf st') _ _ _) i
        rw[(km i).1,(km j).1,if_neg (show¬(j-(q+1)≤j∧j<j) by omega)]
        have key:∀t,t<j→K (arrOf st') (j-1)≤K (arrOf st') t:=fun t ht=>by
         by_cases e:t=j-1
         · rw[e];exact Int.le_refl _
         · have z:=b2.2 t (j-1) (by omega) (by omega)
           by_cases g:j≤t+(q+1)
           · have:=(z.1 g).1;omega
           · have:=(z.2 (by omega)).2;unfold jb at this;omega
        split
        · have:=key (j-(q+1)+j-1-i) (by omega);omega
        · have:=key i hij;omega
      · show jb (mirror (arrOf st') _ _ _) j i
        by_cases hjx:j<x
        · exact al i j hij hjx
        · have hjx:j=x:=by omega
          subst hjx
          refine .inl ?_
          rw[(km i).1,(km j).1,if_neg (show¬(j-(q+1)≤j∧j<j) by omega)]
          have key:∀t,t<j→K (arrOf st') (j-1)≤K (arrOf st') t:=fun t ht=>by
           by_cases e:t=j-1
           · rw[e];exact Int.le_refl _
           · have z:=b2.2 t (j-1) (by omega) (by omega)
             by_cases g:j≤t+(q+1)
             · have:=(z.1 g).1;omega
             · have:=(z.2 (by omega)).2;unfold jb at this;omega
          split
          · have:=key (j-(q+1)+j-1-i) (by omega);omega
          · have:=key i hij;omega
    · rw[if_neg hq0]
      have hq0:q=0:=by omega
      subst hq0
      have z0:=b2.zero
      have lx:∀i,i<x→K (arrOf st') x<K (arrOf st') i:=fun i hi=>by
       by_cases e:i=x-1
       · rw[e];exact hl
       · have:=z0 i (x-1) (by omega) (by omega);unfold jb at this;omega
      refine wpS_pure ⟨0,rfl,b1,⟨by omega,fun i j hij hj=>⟨fun hh=>by omega,fun hh=>⟨fun hj2=>?_,?_⟩⟩⟩,b3.up (Nat.le_succ x)⟩
      · have hjx:j=x:=by omega
        subst hjx;exact lx i hij
      · by_cases hjx:j<x
        · exact z0 i j hij hjx
        · have hjx:j=x:=by omega
          subst hjx;exact .inl (lx i hij)
  · simp only[hl,decide_false,Bool.false_eq_true,if_false]
    refine wpS_bind (wpS_ltK b1 h0 (by omega) hx2 ?_)
    by_cases hg:K (arrOf st') (x-1)<K (arrOf st') x
    · simp only[hg,decide_true,if_true]
      exact wpS_pure (h x q st' b1 hx1 (by omega) b2 b3)
    · simp only[hg,decide_false,Bool.false_eq_true,if_false]
      have he:K (arrOf st') x=K (arrOf st') (x-1):=by omega
      refine wpS_pure ⟨q+1,rfl,b1,⟨by omega,fun i j hij hj=>⟨fun hh=>?_,fun hh=>⟨fun hj2=>?_,?_⟩⟩⟩,b3.up (Nat.le_succ x)⟩
      · by_cases hjx:j<x
        · exact(b2.2 i j hij hjx).1 (by omega)
        · have hjx:j=x:=by omega
          subst hjx
          refine⟨?_,b3 i j hij (Nat.le_refl _) hx2⟩
          rw[he]
          by_cases e:i=j-1
          · rw[e]
          · exact((b2.2 i (j-1) (by omega) (by omega)).1 (by omega)).1
      · by_cases hjx:j<x
        · exact((b2.2 i j hij hjx).2 (by omega)).1 (by omega)
        · have hjx:j=x:=by omega
          subst hjx
          rw[he]
          exact((b2.2 i (j-1) (by omega) (by omega)).2 (by omega)).1 (by omega)
      · by_cases hjx:j<x
        · exact((b2.2 i j hij hjx).2 (by omega)).2
        · have hjx:j=x:=by omega
          subst hjx
          refine .inl ?_
          rw[he]
          exact((b2.2 i (j-1) (by omega) (by omega)).2 (by omega)).1 (by omega)
theorem qp{st:SortSt}{n:Nat}{Q:Option Nat→SortSt→Prop}(h0:IntKeys a₀)(h1:1≤n)(hn:n≤a₀.size)(hB:SBase a₀ st)(hs:∀i j,i<j→j<n→jb (arrOf st) j i)(ht:gn a₀.size (arrOf st) n)
 (h:∀m st',SBase a₀ st'→1≤m→m≤a₀.size→gX (arrOf st') m→gn a₀.size (arrOf st') m→Q (some m) st'):wpS (model prog w) A E s (tail3 n a₀.size) Q st:=by
 unfold tail3
 have hsz:n≤(arrOf st).size:=by rw[hB.size];exact hn
 refine wpS_bind (wpS_reverse ?_)
 have km:=i_ (xs:=arrOf st) (i:=0) (j:=n) hsz
 have s1:gX (mirror (arrOf st) 0 n ((n-0)/2)) n:=fun i j hij hj=>by
  unfold jb
  rw[(km i).1,(km i).2,(km j).1,(km j).2,if_pos (by omega),if_pos (by omega)]
  exact hs _ _ (by omega) (by omega)
 have t1:=jB (i:=0) ht hsz (Nat.le_refl _)
 have hB':SBase a₀ (setArr st (mirror (arrOf st) 0 n ((n-0)/2))):=hB.setArr (mirror_perm _ _ _ _)
 refine wpS_bind (wpS_ascLoop h0 (Nat.le_refl _) h1 hn hB' s1.to fun m m1 m2 sm _=>wpS_pure (h m _ hB' (by omega) m2 (s1.more t1 sm m2) (t1.up m1)))
theorem qX{st:SortSt}{n:Nat}{Q:Option Nat→SortSt→Prop}(h0:IntKeys a₀)(hn:n+1≤a₀.size)(hB:SBase a₀ st)(hs:qP (arrOf st) (n+1) 0)(ht:gn a₀.size (arrOf st) (n+1))
 (h:∀m st',SBase a₀ st'→1≤m→m≤a₀.size→gX (arrOf st') m→gn a₀.size (arrOf st') m→Q (some m) st'):wpS (model prog w) A E s (descPart n a₀.size) Q st:=by
 unfold descPart
 refine wpS_bind (wpS_lift (wpAny_rule ⟨rfl,?_⟩))
 refine wpS_bind (yv h0 hn hB hs ht fun m q st' b1 b2 b3 b4 b5=>?_)
 dsimp only
 have hsz:m≤(arrOf st').size:=by rw[b1.size];exact b3
 by_cases hq:q>0
 · rw[if_pos hq]
   exact wpS_bind (wpS_reverse (qp h0 (by omega) b3 (b1.setArr (mirror_perm _ _ _ _)) (b4.all hsz).2 (jB b5 hsz (Nat.le_refl _)) h))
 · rw[if_neg hq]
   have:q=0:=by omega
   subst this
   exact qp h0 (by omega) b3 b1 b4.zero b5 h
theorem wV{st:SortSt}{Q:Option Nat→SortSt→Prop}(h0:IntKeys a₀)(h1:1≤a₀.size)(hB:SBase a₀ st)(ht:gn a₀.size (arrOf st) 1)
 (h:∀m st',SBase a₀ st'→1≤m→m≤a₀.size→gX (arrOf st') m→gn a₀.size (arrOf st') m→Q (some m) st'):wpS (model prog w) A E s (countRun' 0 a₀.size) Q st:=by
 rw[countRun0_eq]
 have s1:gX (arrOf st) 1:=fun i j hij hj=>by omega
 refine wpS_bind (wpS_ascLoop h0 (Nat.le_refl _) (Nat.le_refl 1) h1 hB s1.to fun n n1 n2 sn hor=>?_)
 dsimp only
 have s2:=s1.more ht sn n2
 by_cases hn:n=a₀.size
 · rw[if_pos (by simpa using hn)]
   exact wpS_pure (h n st hB n1 n2 s2 (ht.up n1))
 · rw[if_neg (by simpa using hn)]
   have hl:=hor.resolve_left hn
   by_cases hg:n>1
   · rw[if_pos hg]
     refine wpS_bind (wpS_ltK hB h0 (by omega) (by omega) ?_)
     by_cases hr:K (arrOf st) 0<K (arrOf st) (n-1)
     · simp only[hr,decide_true,if_true]
       exact wpS_pure (h n st hB n1 n2 s2 (ht.up n1))
     · simp only[hr,decide_false,Bool.false_eq_true,if_false]
       have hsz:n≤(arrOf st).size:=by rw[hB.size];exact n2
       have eqs:∀k,k<n→K (arrOf st) k=K (arrOf st) (n-1):=fun k hk=>by
        have x:=sn 0 k (by omega) hk
        have y:=sn k (n-1) (by omega) (by omega)
        omega
       have km:=i_ (xs:=arrOf st) (i:=0) (j:=n) hsz
       refine wpS_bind (wpS_reverse (qX h0 (by omega) (hB.setArr (mirror_perm _ _ _ _)) ⟨by omega,fun i j hij hj=>⟨fun hh=>by omega,fun hh=>⟨fun hj2=>?_,?_⟩⟩⟩ (jB (ht.up (by omega)) hsz (by omega)) h))
       · have hjn:j=n:=by omega
         subst hjn
         show K (mirror (arrOf st) _ _ _) j<K (mirror (arrOf st) _ _ _) i
         rw[(km i).1,(km j).1,if_neg (show¬(0≤j∧j<j) by omega),if_pos (by omega),eqs (0+j-1-i) (by omega)]
         exact hl
       · show jb (mirror (arrOf st) _ _ _) j i
         unfold jb
         rw[(km i).1,(km i).2,(km j).1,(km j).2,if_pos (show 0≤i∧i<n by omega)]
         by_cases hjn:j<n
         · rw[if_pos (by omega)]
           refine .inr ⟨(eqs _ (by omega)).trans (eqs _ (by omega)).symm,ht _ _ (by omega) (by omega) (by omega)⟩
         · have hjn:j=n:=by omega
           subst hjn
           rw[if_neg (by omega),eqs (0+j-1-i) (by omega)]
           exact .inl hl
   · rw[if_neg hg]
     have hn1:n=1:=by omega
     subst hn1
     refine qX h0 (by omega) hB ⟨by omega,fun i j hij hj=>⟨fun hh=>by omega,fun hh=>?_⟩⟩ (ht.up (by omega)) h
     have hi0:i=0:=by omega
     have hj1:j=1:=by omega
     subst hi0;subst hj1
     exact⟨fun _=>hl,.inl hl⟩
theorem xM{st:SortSt}{Q:Unit→SortSt→Prop}(h0:IntKeys a₀)(hB:SBase a₀ st)(ht:gn a₀.size (arrOf st) 1)(h2:2≤a₀.size)(h64:a₀.size<64)
 (h:∀st',(arrOf st').Perm a₀→failedOf st'=none→gX (arrOf st') a₀.size→Q () st'):wpS (model prog w) A E s sortRuns' Q st:=by
 rw[sortRuns'_eq]
 refine wpS_bind (wpS_get ?_)
 dsimp only
 have hmr:minRun' a₀.size a₀.size 0=a₀.size:=by
  cases e:a₀.size with
  |zero=>rw[e]at h2;omega
  |succ f=>rw[minRun'_succ,if_pos (by omega)]
 simp only[hB.size,hmr]
 have dn:∀ {q:SortSt},SBase a₀ q→gX (arrOf q) a₀.size→∃p,p=setPending q ((pendingOf q).push (0,a₀.size,0))∧(arrOf p).Perm a₀∧failedOf p=none∧pendingOf p= #[(0,a₀.size,0)]∧gX (arrOf p) a₀.size:=fun{q} b s=>
  ⟨_,rfl,b.perm,b.failed,by show(pendingOf q).push _=_;rw[b.pend];rfl,s⟩
 refine wpS_bind (wpS_mono (wpS_forRange
  (I:=fun x c q=>(x=0∧c=(none,0)∧q=st)∨(1≤x∧c=(none,a₀.size)∧(arrOf q).Perm a₀∧failedOf q=none∧pendingOf q= #[(0,a₀.size,0)]∧gX (arrOf q) a₀.size))
  (Q:=fun c q=>c=(none,a₀.size)∧(arrOf q).Perm a₀∧failedOf q=none∧pendingOf q= #[(0,a₀.size,0)]∧gX (arrOf q) a₀.size) ?st ?en (.inl ⟨rfl,rfl,rfl⟩)) ?po)
 case en=>
  rintro c q (⟨hx,_,_⟩|⟨_,hc,hD⟩)
  · omega
  · exact⟨hc,hD⟩
 case st=>
  rintro x c q _ hx (⟨rfl,rfl,rfl⟩|⟨_,rfl,hD⟩)
  · dsimp only
    rw[if_neg (by omega)]
    simp only[Nat.sub_zero,Nat.min_self,Nat.zero_add]
    refine wpS_bind (wV h0 (by omega) hB ht fun m q2 b1 b2 b3 b4 b5=>?_)
    dsimp only
    by_cases hm:m<a₀.size
    · rw[if_pos hm]
      refine wpS_bind (wpS_lift (wpAny_rule ⟨rfl,?_⟩))
      refine wpS_bind (yp h0 b2 b3 b1 b4 b5 fun q3 d1 d2=>?_)
      simp only[Bool.not_true,Bool.false_eq_true,if_false]
      refine wpS_bind (wpS_get ?_)
      have hb:(pendingOf q3).back?=none:=by rw[d1.pend];rfl
      rw[hb]
      dsimp only
      obtain⟨p,rfl,z⟩:=dn d1 d2
      exact wpS_bind (wpS_modify (wpS_pure (.inr ⟨by omega,rfl,z⟩)))
    · rw[if_neg hm]
      have hm:m=a₀.size:=by omega
      subst hm
      refine wpS_bind (wpS_get ?_)
      have hb:(pendingOf q2).back?=none:=by rw[b1.pend];rfl
      rw[hb]
      dsimp only
      obtain⟨p,rfl,z⟩:=dn b1 b4
      exact wpS_bind (wpS_modify (wpS_pure (.inr ⟨by omega,rfl,z⟩)))
  · dsimp only
    rw[if_pos (Nat.le_refl _)]
    exact wpS_pure ⟨rfl,hD⟩
 case po=>
  rintro c q ⟨rfl,d1,d2,d3,d4⟩
  dsimp only
  refine wpS_bind (wpS_mono (wpS_forRange (I:=fun _ c q'=>q'=q∧c=(none,())) (Q:=fun c q'=>q'=q∧c=(none,())) ?_ (fun _ _ z=>z) ⟨rfl,rfl⟩) ?_)
  · rintro x c q' _ _ ⟨rfl,rfl⟩
    refine wpS_bind (wpS_get ?_)
    rw[if_pos (by rw[d3];exact Nat.le_refl 1)]
    exact wpS_pure ⟨rfl,rfl⟩
  · rintro c q' ⟨rfl,rfl⟩
    exact wpS_pure (h _ d1 d2 d4)
end
end L3
namespace L2
open PySem PySem.Spec PyProof.Rows
structure Entry(K:PySem.W.Frag)(ts:List (Addr×Addr))(a:Addr)(ns:List Int)(H:Hp):Prop where
 lst:jf K H a (ns.map V.int)
 tab:∀q∈ts,H q.2=some (.ir #[])∧q.2≠a
theorem qF:∀ {vs:List Value} {ns:List Int},IntsAre vs ns→Vals (ns.map V.int) vs
 |_,_,.nil=> .nil
 |_,_,.cons n t h=> .cons ⟨t,rfl⟩ (qF h)
structure zi(K:PySem.W.Frag)(ts:List (Addr×Addr))(h:Heap):Prop where
 hd:∀q∈ts,PySem.W.codeHdIn K q.1 q.2=true
 no:∀q∈ts,K.lookup q.2=none
 at':∀q∈ts,h.get? q.2=some (PySem.W.tabObj #[])
theorem xS{P:Program}{w:World}{K:PySem.W.Frag}{mg mb:Str→Option Value}{k:Nat}{fa a:Addr}{fd:FuncData}{x:Str}{sp:Sp}{s₁:Shared}{vs:List Value}{ns:List Int}{ts:List (Addr×Addr)}
 (KX:K.In s₁.heap) (hns:s₁.heap.Ns mainGlobals mg) (hb:s₁.heap.Ns builtinsNs mb) (hbb:∀x:Str,x≠"__name__"→mb x=bootBuiltins x) (hlim:s₁.heap.NoLimit) (hse:s₁.heap.NoSeer) (hgt:P.given.tree=none)
 (hbm:∃bm ob,mg "__builtins__"=some (.ref bm)∧bm≠builtinsNs∧s₁.heap.get? bm=some ob∧ob.cls= .type "module"∧ob.dict=some builtinsNs∧ob.data= .plain) (hT:zi K ts s₁.heap) (hg:s₁.gens= #[])
 (ha:s₁.heap.get? a=some {cls:= .type "list",data:= .seq vs.toArray}) (hi:IntsAre vs ns) (hl:ns.length≤sizeLine) (hr:cC k callerA)
 (F:∀base:Heap,K.In base→base.Ns mainGlobals mg→aB P w K mg base (fun _ _ _ _ _ _=>False) k fa fd [x] sp) (hbind:∀(s:Shared) (u:Value),BindsTo s fd ⟨[u],[]⟩ [(x,u)])
 (hsp:∀H:Hp,Entry K ts a ns H→sp [.ref a] H (fun v _=>v= .bl true) fun _ _ _=>False):
 codeAny (model P w) callerA (.call (.ref fa) ⟨[.ref a],[]⟩) (fun r s'=>r= .ok (.ret (.bool true))∧OldK s₁.heap s'.heap∧s'.os=s₁.os∧AllBare s'.gens) s₁:=by
 have rv:=qF hi
 have lenV:=hi.length
 have nta:∀q∈ts,q.2≠a:=fun q hq z=>by
  have:=hT.at' q hq
  rw[z,ha]at this
  cases this
 let sc:Option HO:=match K.lookup a with
  |some _=>none
  |none=>some (.ix {cls:= .type "list",data:= .seq vs.toArray} (.lst (ns.map V.int)))
 let H:Hp:=fun b=>if b=a then sc else if b∈ts.map (·.2)then some (.ir #[])else none
 have Ha:H a=sc:=if_pos rfl
 have Ht:∀q∈ts,H q.2=some (.ir #[]):=fun q hq=>by
  show(if q.2=a then sc else if q.2∈ts.map (·.2)then some (HO.ir #[])else none)=_
  rw[if_neg (nta q hq),if_pos (List.mem_map_of_mem hq)]
 have Hs:∀b u,H b=some u→(b=a∧K.lookup a=none∧u= .ix {cls:= .type "list",data:= .seq vs.toArray} (.lst (ns.map V.int)))∨(∃q∈ts,q.2=b∧u= .ir #[]):=fun b u e=>by
  have e':(if b=a then sc else if b∈ts.map (·.2)then some (HO.ir #[])else none)=some u:=e
  by_cases hba:b=a
  · rw[if_pos hba]at e'
    have e2:(match K.lookup a with
     |some _=>none
     |none=>some (HO.ix {cls:= .type "list",data:= .seq vs.toArray} (.lst (ns.map V.int))))=some u:=e'
    cases q:K.lookup a with
    |some o=>rw[q]at e2;cases e2
    |none=>rw[q]at e2;cases e2;exact .inl ⟨hba,rfl,rfl⟩
  · rw[if_neg hba]at e'
    by_cases hbt:b∈ts.map (·.2)
    · rw[if_pos hbt]at e';cases e'
      obtain⟨q,hq,e⟩:=List.mem_map.mp hbt
      exact .inr ⟨q,hq,e,rfl⟩
    · rw[if_neg hbt]at e';cases e'
 have aL:fT P w H s₁.heap:=fun b u e=>by
  rcases Hs b u e with⟨rfl,_,rfl⟩|⟨q,hq,rfl,rfl⟩
  · exact⟨ha,by rw[List.length_map];exact hl,vs,_,rv,ha⟩
  · exact hT.at' q hq
 have hE:Entry K ts a ns H:=by
  refine⟨?_,fun q hq=>⟨Ht q hq,nta q hq⟩⟩
  cases q:K.lookup a with
  |some o=>
   have e:=KX a o q
   rw[ha]at e;cases e
   exact .inr ⟨_,vs.toArray,_,q,rfl,rfl,rfl,by rw[List.size_toArray,lenV];exact hl,by simpa using rv⟩
  |none=>
   refine .inl (.inr ⟨{cls:= .type "list",data:= .seq vs.toArray},?_⟩)
   rw[Ha]
   show(match K.lookup a with
    |some _=>none
    |none=>some (HO.ix {cls:= .type "list",data:= .seq vs.toArray} (.lst (ns.map V.int))))=_
   rw[q]
 have dictNo:∀ {b:Addr} {o:Obj},s₁.heap.get? b=some o→(∀es ep,o.data≠ .seq es ep)→o.cls≠ .none→H b=none:=fun{b o} e d1 d2=>by
  cases q:H b with
  |none=>rfl
  |some u=>
   rcases Hs b u q with⟨rfl,_,_⟩|⟨t,ht,rfl,_⟩
   · rw[ha]at e;cases e;exact absurd rfl (d1 _ _)
   · rw[hT.at' t ht]at e;cases e;exact absurd rfl d2
 have nsK:∀ {b:Addr} {m:Str→Option Value},s₁.heap.Ns b m→(kJ s₁.heap H).Ns b m:=fun{b m} ⟨o,es,ep,e,d,r⟩=>by
  refine⟨o,es,ep,lZ e ?_,d,r⟩
  cases q:H b with
  |none=>rfl
  |some u=>
   rcases Hs b u q with⟨rfl,_,_⟩|⟨t,ht,rfl,_⟩
   · rw[ha]at e;cases e;cases d
   · rw[hT.at' t ht]at e;cases e;cases d
 have hKb:K.In (kJ s₁.heap H):=fun b o e=>lZ (KX b o e) (by
  cases q:H b with
  |none=>rfl
  |some u=>
   rcases Hs b u q with⟨rfl,z,_⟩|⟨t,ht,rfl,_⟩
   · rw[z]at e;cases e
   · rw[hT.no t ht]at e;cases e)
 obtain⟨bm,ob,b1,b2,b3,b4,b5,b6⟩:=hbm
 have hbmK:(kJ s₁.heap H).get? bm=some ob:=lZ b3 (dictNo b3 (fun es ep z=>by rw[b6]at z;cases z) (fun z=>by rw[b4]at z;cases z))
 have seK:(kJ s₁.heap H).NoSeer:=by
  obtain⟨⟨m1,a1,a2⟩,⟨m2,c1,c2⟩,⟨m3,d1,d2⟩,⟨mg',bm',ob',e1,e2,e3,e4,e5⟩⟩:=hse
  refine⟨⟨m1,nsK a1,a2⟩,⟨m2,nsK c1,c2⟩,⟨m3,nsK d1,d2⟩,⟨mg',bm',ob',nsK e1,e2,lZ e3 ?_,e4,e5⟩⟩
  cases q:H bm' with
  |none=>rfl
  |some u=>
   rcases Hs bm' u q with⟨rfl,_,_⟩|⟨t,ht,rfl,_⟩
   · rw[ha]at e3;cases e3;exact absurd (show Value.type "list"=Value.type "module" from e4) (by intro z;injection z with z;exact absurd z (by decide))
   · rw[hT.at' t ht]at e3;cases e3;cases e4
 have hM:Mod K mg (kJ s₁.heap H):=⟨hKb,nsK hns,⟨mb,nsK hb,hbb⟩,let⟨mc,h1,h2⟩:=hlim;⟨mc,nsK h1,h2⟩,seK,⟨bm,ob,b1,b2,hbmK,b4,b5,b6⟩⟩
 have e0:oP P w K mg (kJ s₁.heap H) callerA [] s₁ H:=⟨rfl,hM,fun b o e=>BC e,Nat.le_of_eq (yh _ _),trivial,fun b hb=>absurd (show b∈([]:List Addr)from hb) (by simp),aL,.of_eq hg,hgt⟩
 refine codeAny_mono ((F _ hKb (nsK hns)).run callerA [] s₁ H ⟨[.ref a],[]⟩ [.ref a] [.ref a] _ _ hr e0 (hbind s₁ (.ref a)) (.cons rfl .nil) (hsp H hE)) fun r s' h=>?_
 cases r with
 |error e=>exact False.elim h
 |ok fl=>
  cases fl with
  |next=>exact False.elim h
  |brk=>exact False.elim h
  |cont=>exact False.elim h
  |ret u=>
   obtain⟨v,H',os,bare,un,hok',r',q⟩:=h
   have q':v= .bl true:=q
   subst q'
   obtain rfl:u=Value.bool true:=r'
   have noF:∀b:Addr,b∉lh ([]:List Env):=fun b z=>absurd (show b∈([]:List Addr)from z) (by simp)
   refine⟨rfl,⟨fun b o e=>?_,fun b o e=>un.there b o e (by simp)⟩,os,bare⟩
   cases q:H b with
   |none=>exact .inl (un.keep b o e q (noF b) (by simp))
   |some u=>
    rcases Hs b u q with⟨rfl,_,rfl⟩|⟨t,ht,rfl,rfl⟩
    · obtain⟨e2,_⟩:=hok' b _ (un.jX b _ _ q)
      rw[ha]at e;cases e
      exact .inl e2
    · obtain⟨more,e1⟩:=un.jY _ _ q
      have e2:s'.heap.get? t.2=some {cls:= .none,data:= .fields (#[]++more)}:=hok' _ _ e1
      have e3:=hT.at' t ht
      rw[e3]at e;cases e
      have C:PySem.W.CodeHd s₁.heap t.1 t.2:=PySem.W.codeHd_of_K KX (hT.hd t ht)
      exact .inr (.inl ⟨(C.tab e3).isCodeTable,rfl,#[],more,rfl,e2⟩)
theorem Eg{l:PySem.W.OpenLaw}{n k:Nat}{q:Program}{loose:List Str}{XP:(Str→Option Value)→Heap→Prop}{YP:World→Heap→Prop}{d:DefRec}{K:Params→PySem.W.Frag}{sp:World→Sp}{x:Str}{ts:List (Addr×Addr)}
 (hn:l.most=some n) (hn2:n≤sizeLine) (hdf:d.params.defaults=[]) (hr:cC k callerA) (hq:importsNone q=true) (hgt:l.prog.given.tree=none)
 (hY:∀(w:World) (h:Heap),YP w h→(K w.params).In h∧zi (K w.params) ts h)
 (F:∀(w:World) (mg:Str→Option Value) (fa:Addr) (h:Heap),(K w.params).In h→h.Ns mainGlobals mg→mg d.name=some (.ref fa)→
   ∃fd:FuncData,(∀(s:Shared) (u:Value),BindsTo s fd ⟨[u],[]⟩ [(x,u)])∧
    ∀base:Heap,(K w.params).In base→base.Ns mainGlobals mg→aB l.prog w (K w.params) mg base (fun _ _ _ _ _ _=>False) k fa fd [x] (sp w))
 (hsp:∀(w:World) (H:Hp) (a:Addr) (ns:List Int),ns.length≤n→Entry (K w.params) ts a ns H→sp w [.ref a] H (fun v _=>v= .bl true) fun _ _ _=>False):
 PySem.W.WalkO q loose XP YP l.row.toRowW d [] (fun f vs=>PySem.call f vs):=by
 refine Att.uB hn hdf fun w s₀ s₁ mg mb fa o pm cd doc a vs ns G Y ho hd hcd hmg hobj hints hlen hg=>?_
 obtain⟨KX,hT⟩:=hY w _ Y
 obtain⟨fd,hb,hF⟩:=F w mg fa _ KX G.T.g hmg
 exact xS KX G.T.g G.T.b G.T.builtins G.T.nolimit (G.T.seer hq) hgt G.T.bmain hT hg hobj hints (Nat.le_trans hlen hn2) hr hF hb fun H hE=>hsp w H a ns hlen hE
end L2
namespace L3
open PySem PySem.Spec L2
open PyProof.Rows hiding St
section
variable {X:Cx}{pins:List (Addr×Obj)}{σ:L2.St}{H:Hp}{s:Shared}{p:Addr}{o o':Obj}{h':Heap}
theorem iU{t':Nat}(I:Inv X pins σ H s)(hd:∀v,o.data≠ .cell v)(hfr:o.isFreed=false:=by rfl):Inv X (pins++[(s.heap.objs.size,o)]) σ H {s with heap:=s.heap.push o,toks:=t'}:=by
 have I':=I.kept (h':=s.heap.push o) (t':=t') (fun b u e=>Heap.get?_push_of_some _ e)
 refine I'.nJ fun q hq=>?_
 rcases List.mem_append.mp hq with hq|hq
 · exact I'.pin q (List.mem_append_right _ hq)
 · have e:q=(s.heap.objs.size,o):=by simpa using hq
   subst e
   exact⟨Heap.get?_push_size _ hfr,I.aL.fresh (Nat.le_refl _),Nat.ne_of_gt I.lt,I.BO (Nat.le_refl _),hd⟩
theorem eV(I:Inv X (pins++[(p,o)]) σ H s):s.heap.get? p=some o∧H p=none∧p≠X.env.locals∧p∉X.fs∧∀v,o.data≠ .cell v:=
 I.pin (p,o) (List.mem_append_right _ (List.mem_append_right _ (List.mem_singleton.mpr rfl)))
theorem sM(I:Inv X (pins++[(p,o)]) σ H s):∀x c,X.env.cells.lookup x=some c→c≠p:=fun x c e z=>by
 obtain⟨v,u,hu,hd⟩:=I.cell x c e
 obtain⟨h1,_,_,_,h5⟩:=eV I
 rw[z,h1]at hu;cases hu
 exact h5 v hd
theorem j7{t':Nat}(I:Inv X (pins++[(p,o)]) σ H s)(hs:Heap.SameBut p s.heap h')(hn:h'.get? p=some o')(hd:∀v,o'.data≠ .cell v)(h0:X.s₀.heap.objs.size≤p)(hp:∀q∈X.pn++pins,q.1≠p):
 Inv X (pins++[(p,o')]) σ H {s with heap:=h',toks:=t'}:=by
 obtain⟨_,n,neL,nfs,_⟩:=eV I
 have I0:Inv X pins σ H s:=I.fQ
 have I1:=I0.turned (t':=t') (h':=h') (it:=p) (fun b u hb e=>(hs.2 b hb).trans e) n neL (.inr h0) (sM I) hp
 refine I1.nJ fun q hq=>?_
 rcases List.mem_append.mp hq with hq|hq
 · exact I1.pin q (List.mem_append_right _ hq)
 · have e:q=(p,o'):=by simpa using hq
   subst e
   exact⟨hn,n,neL,nfs,hd⟩
theorem xC{u:HO}(I:Inv X (pins++[(p,o)]) σ H s)(h0:X.s₀.heap.objs.size≤p)(hp:∀q∈X.pn++pins,q.1≠p)(new:ft X.prog X.w (upd H p u) s.heap p u):Inv X pins σ (upd H p u) s:=by
 obtain⟨e0,n,neL,nfs,_⟩:=eV I
 have ne:∀ {b:Addr} {w:HO},H b=some w→b≠p:=fun e=>cV e n
 have ne0:∀ {b:Addr} {w:Obj},X.s₀.heap.get? b=some w→b≠p:=fun e=>Nat.ne_of_lt (Nat.lt_of_lt_of_le (Heap.lt_size e) h0)
 refine⟨I.ok,I.os,I.bare,⟨I.base.keep,I.base.slot,fun b w e q hx=>?_,I.base.there,fun b xs e=>?_,fun b w y e=>?_,fun b ps e=>?_⟩,I.loc,I.cell,?_,fun x c e=>?_,fun q hq=>?_,fun b w e=>?_,I.len⟩
 · rw[aD (ne0 e)];exact I.base.free b w e q hx
 · have:=I.base.kK b xs e;rw[aD (ne this)];exact this
 · have:=I.base.jX b w y e;rw[aD (ne this)];exact this
 · obtain⟨m,q⟩:=I.base.jY b ps e
   exact⟨m,by rw[aD (ne q)];exact q⟩
 · rw[aD (Ne.symm neL)];exact I.free
 · rw[aD (sM I x c e)];exact I.gj x c e
 · have hq':q∈X.pn++(pins++[(p,o)]):=by
    rcases List.mem_append.mp hq with z|z
    · exact List.mem_append_left _ z
    · exact List.mem_append_right _ (List.mem_append_left _ z)
   obtain⟨a1,a2,a3⟩:=I.pin q hq'
   exact⟨a1,by rw[aD (hp q hq)];exact a2,a3⟩
 · by_cases hb:b=p
   · subst hb;rw[aO]at e;cases e;exact new
   · rw[aD hb]at e
     exact(I.aL b w e).kI (fun _ _ _ q=>q) (fun c q=>by rw[aD (ne q)];exact q) fun c xs q=>by rw[aD (ne q)];exact q
end
def jq(X:Cx)(pins:List (Addr×Obj))(σ:L2.St)(R:Hp→Prop)(own:List (Addr×Obj))(s:Shared):Prop:=∃H,Inv X (pins++own) σ H s∧R H
section
variable {X:Cx}{pins:List (Addr×Obj)}{σ:L2.St}{R:Hp→Prop}{s:Shared}{A:Around}{E:Value→Shared→Prop}{a kS:Addr}{e1 e:Nat}{keys:Array Value}{P:PySem.Fin→Shared→Prop}
structure Own(X:Cx)(pins:List (Addr×Obj))(p:Addr):Prop where
 ge:X.s₀.heap.objs.size≤p
 ne:∀q∈X.pn++pins,q.1≠p
theorem nG{H:Hp}(I:Inv X pins σ H s):Own X pins s.heap.objs.size:=⟨I.sz,fun q hq=>Nat.ne_of_lt (Heap.lt_size (I.pin q hq).1)⟩
theorem uj{p:Addr}{q:Addr×Obj}(h:Own X pins p)(hq:q.1≠p):Own X (pins++[q]) p:=⟨h.ge,fun r hr=>by
 rcases List.mem_append.mp hr with z|z
 · exact h.ne r (List.mem_append_left _ z)
 · rcases List.mem_append.mp z with z|z
   · exact h.ne r (List.mem_append_right _ z)
   · have e:r=q:=by simpa using z
     rw[e];exact hq⟩
theorem su{x y:Addr×Obj}(J:jq X pins σ R [x,y] s):∃H,Inv X ((pins++[x])++[y]) σ H s∧R H:=by
 obtain⟨H,I,r⟩:=J
 exact⟨H,by rw[List.append_assoc];exact I,r⟩
theorem wX{x y:Addr×Obj}{H:Hp}(I:Inv X ((pins++[x])++[y]) σ H s)(r:R H):jq X pins σ R [x,y] s:=⟨H,by rw[List.append_assoc]at I;exact I,r⟩
theorem sE{st:SortSt}(J:jq X pins σ R [(a,seqObj "list" #[] e1),(kS,seqObj "list" keys e)] s)(ha:Own X pins a)(hk:Own X pins kS)(hka:kS≠a)(hz1:keys.size≤sizeLine)(hz2:(arrOf st).size≤sizeLine)(hf:failedOf st=none)
 (h:∀s' c,jq X pins σ R [(a,seqObj "list" ((arrOf st).map (·.2)) c)] s'→P (.done (.ret .none)) s'):
 wpAny (model X.prog X.w) A (PyProof.Rows.ksk_tail a false e1 (.ref kS) st) P E s:=by
 obtain⟨H,I,r⟩:=su J
 have k1:=(eV I).1
 have s1:=Heap.SameBut.update s.heap kS (Obj.mapSeq fun _=>(#[]:Array Value))
 have I1:=j7 (t':=s.toks) I s1 (get?_update_seq k1 fun _=> #[]) (fun v z=>by cases z) hk.ge (uj hk hka.symm).ne
 have I2:Inv X (pins++[(a,seqObj "list" #[] e1)]) σ H {s with heap:=s.heap.update kS (Obj.mapSeq fun _=>(#[]:Array Value)),toks:=s.toks}:=I1.fQ
 have a1:=(eV I2).1
 have s2:=Heap.SameBut.update (s.heap.update kS (Obj.mapSeq fun _=>(#[]:Array Value))) a (Obj.mapSeq fun _=>(arrOf st).map (·.2))
 have I3:=j7 (t':=s.toks) I2 s2 (get?_update_seq a1 fun _=>(arrOf st).map (·.2)) (fun v z=>by cases z) ha.ge ha.ne
 unfold ksk_tail
 simp only[Bool.false_eq_true,if_false]
 refine wpAny_bind (listUpdate_at k1 rfl ?_ hz1 (Nat.zero_le _))
 refine wpAny_bind (wpAny_letGo ?_)
 refine wpAny_bind (seqEpoch_at a1 rfl ?_)
 refine wpAny_bind (listUpdate_at a1 rfl ?_ (Nat.zero_le _) (Nat.le_succ_of_le (by rw[Array.size_map];exact hz2)))
 rw[hf]
 simp only[bne_self_eq_false,Bool.false_eq_true,if_false]
 exact wpAny_pure (h _ _ ⟨H,I3,r⟩)
def wj(kz:List Int)(vs out:List Value):Prop:=
 ∃ps:List (Int×Value),ps.Perm (kz.zip vs)∧out=ps.map Prod.snd∧ps.Pairwise fun p q=>p.1<q.1∨(p.1=q.1∧numOf p.2<numOf q.2)
theorem uV{kz:List Int}{vs:List Value}(hk:IntsAre keys.toList kz){xs:Array Keyed}(hp:xs.Perm (keys.zip vs.toArray))(hs:gX xs xs.size):wj kz vs (xs.map (·.2)).toList:=by
 have hl:xs.toList.Perm (keys.toList.zip vs):=by rw[←ksk_zip];exact Array.perm_iff_toList_perm.mp hp
 refine⟨xs.toList.map fun p=>(numOf p.1,p.2),?_,?_,?_⟩
 · have e2:(keys.toList.zip vs).map (fun p:Keyed=>(numOf p.1,p.2))=kz.zip vs:=by
    rw[←hk.nums,List.zip_map_left]
    exact List.map_congr_left fun⟨x,y⟩ _=>rfl
   rw[←e2]
   exact hl.map _
 · rw[Array.toList_map,List.map_map];rfl
 · rw[List.pairwise_iff_getElem]
   intro i j hi hj hij
   have hi':i<xs.size:=by simpa using hi
   have hj':j<xs.size:=by simpa using hj
   have q:=hs i j hij hj'
   unfold jb Jn at q
   rw[K_eq hi',K_eq hj',getElem?_pos xs i hi',getElem?_pos xs j hj']at q
   simpa using q
theorem Bb{kz:List Int}{vs:List Value}(J:jq X pins σ R [(a,seqObj "list" #[] e1),(kS,seqObj "list" keys e)] s)(ha:Own X pins a)(hk:Own X pins kS)(hka:kS≠a)(hi:IntsAre keys.toList kz)(hl:kz.length=vs.length)(h64:vs.length<64)
 (hup:vs.Pairwise fun x y=>numOf x<numOf y)
 (h:∀s' out c,jq X pins σ R [(a,seqObj "list" out c)] s'→wj kz vs out.toList→P (.done (.ret .none)) s'):
 wpAny (model X.prog X.w) A (ksk_end a false vs.toArray e1 (.ref kS) keys) P E s:=by
 have hsz:keys.size=vs.length:=by have:=hi.length;rw[Array.length_toList]at this;omega
 have hzs:(keys.zip vs.toArray).size=vs.length:=by rw[Array.size_zip,hsz,List.size_toArray,Nat.min_self]
 have hbig:vs.length≤sizeLine:=Nat.le_trans (Nat.le_of_lt h64) (by decide)
 have hta:gn (keys.zip vs.toArray).size (keys.zip vs.toArray) 1:=fun i j hij _ hj=>by
  rw[hzs]at hj
  have e1:(keys.zip vs.toArray)[i]?=some (keys.toList[i]'(by rw[Array.length_toList];omega),vs[i]'(by omega)):=by
   rw[←Array.getElem?_toList,ksk_zip,List.getElem?_eq_getElem (by rw[List.length_zip,Array.length_toList];omega),List.getElem_zip]
  have e2:(keys.zip vs.toArray)[j]?=some (keys.toList[j]'(by rw[Array.length_toList];omega),vs[j]'(by omega)):=by
   rw[←Array.getElem?_toList,ksk_zip,List.getElem?_eq_getElem (by rw[List.length_zip,Array.length_toList];omega),List.getElem_zip]
  unfold Jn
  rw[e1,e2]
  exact List.pairwise_iff_getElem.mp hup i j (by omega) (by omega) hij
 unfold ksk_end
 simp only[Bool.false_eq_true,if_false]
 by_cases h2:vs.toArray.size<2
 · rw[if_pos h2,if_pos h2]
   refine wpAny_bind (wpAny_pure ?_)
   rw[StateT.run_pure]
   refine wpAny_bind (wpAny_pure ?_)
   refine sE (st:=SortSt.mk' general' (keys.zip vs.toArray) #[] 7 none) J ha hk hka (by omega) (by show(keys.zip vs.toArray).size≤_;omega) rfl fun s' c J'=>h s' _ c J' ?_
   refine uV hi (Array.Perm.refl _) fun i j hij hj=>?_
   have hj':j<(keys.zip vs.toArray).size:=hj
   rw[List.size_toArray]at h2
   omega
 · rw[if_neg h2,if_neg h2]
   rw[List.size_toArray]at h2
   rw[ksk_kind hi (by omega)]
   refine wpAny_bind (wpAny_pure ?_)
   refine wpAny_bind (wpAny_mono (xM (a₀:=keys.zip vs.toArray) (st:=SortSt.mk' oneType' (keys.zip vs.toArray) #[] 7 none)
    (Q:=fun _ st'=>(arrOf st').Perm (keys.zip vs.toArray)∧failedOf st'=none∧gX (arrOf st') (keys.zip vs.toArray).size)
    (ksk_intKeys hi) ⟨Array.Perm.refl _,rfl,rfl,rfl⟩ hta (by omega) (by omega) fun st' b1 b2 b3=>⟨b1,b2,b3⟩) ?_ fun _ _ z=>z)
   rintro⟨⟨⟩,st'⟩ s' ⟨rfl,hp,hf,hs⟩
   have hz2:=hp.size_eq
   refine sE (st:=st') J ha hk hka (by omega) (by rw[hz2];omega) hf fun s' c J'=>h s' _ c J' (uV hi hp (by rw[hz2];exact hs))
theorem yT{f:Value}{kz:List Int}{vs:List Value}(J:jq X pins σ R [(a,seqObj "list" #[] e1),(kS,seqObj "list" #[] 0)] s)(ha:Own X pins a)(hk:Own X pins kS)(hka:kS≠a)(hl:kz.length=vs.length)(h64:vs.length<64)
 (hup:vs.Pairwise fun x y=>numOf x<numOf y)
 (turn:∀(i:Nat) (v:Value) (k:Int),vs[i]?=some v→kz[i]?=some k→∀(own:List (Addr×Obj)) (s:Shared),jq X pins σ R own s→wpAny (model X.prog X.w) A (call f [v]) (fun u s'=>(∃t,u= .int k t)∧jq X pins σ R own s') (fun _ _=>False) s)
 (h:∀s' out c,jq X pins σ R [(a,seqObj "list" out c)] s'→wj kz vs out.toList→P (.done (.ret .none)) s'):
 wpAny (model X.prog X.w) A (ksk_rest a f false vs.toArray e1 (.ref kS)) P E s:=by
 have hbig:vs.length≤sizeLine:=Nat.le_trans (Nat.le_of_lt h64) (by decide)
 unfold ksk_rest
 refine wpAny_bind (wpAny_rule ?_)
 first
  |rw[List.forIn_toArray]
  |(rw[←Array.forIn_toList];simp only[List.toList_toArray])
  |rw[←Array.forIn_toList]
 refine wpAny_bind (ksk_fold (fun i s'=>∃kA e,jq X pins σ R [(a,seqObj "list" #[] e1),(kS,seqObj "list" kA e)] s'∧IntsAre kA.toList (kz.take i)) vs 0 s ⟨#[],0,J,by simpa using IntsAre.nil⟩ ?st ?en)
 case st=>
  rintro j x s' hx ⟨kA,e,J',hk'⟩
  simp only[Nat.zero_add]at hk'⊢
  have hj:j<vs.length:=(List.getElem?_eq_some_iff.mp hx).1
  have hkj:kz[j]?=some (kz[j]'(by omega)):=List.getElem?_eq_getElem _
  have hz:kA.size≤vs.length:=by
   have:=hk'.length
   rw[Array.length_toList,List.length_take]at this
   omega
  refine wpAny_bind (wpAny_attempt (wpAny_mono (turn j x _ hx hkj _ s' J') (fun v s2 he=>?_) fun _ _ z=>z.elim))
  obtain⟨⟨t,rfl⟩,J2⟩:=he
  obtain⟨H,I,r⟩:=su J2
  have k1:=(eV I).1
  have s1:=Heap.SameBut.update s2.heap kS (Obj.mapSeq (·.push (.int (kz[j]'(by omega)) t)))
  have I1:=j7 (t':=s2.toks) I s1 (get?_update_seq k1 (·.push (.int (kz[j]'(by omega)) t))) (fun v z=>by cases z) hk.ge (uj hk hka.symm).ne
  refine wpAny_bind (listUpdate_at k1 rfl ?_ (by omega) (Nat.le_trans (Nat.le_of_eq (Array.size_push ..)) (by omega)))
  refine wpAny_pure ⟨rfl,_,_,wX I1 r,?_⟩
  have ek:kz.take (j+1)=kz.take j++[kz[j]'(by omega)]:=by rw[List.take_add_one,hkj];simp
  rw[ek,Array.toList_push]
  exact ksk_snoc hk'
 case en=>
  rintro s' ⟨kA,e,J',hk'⟩
  rw[show kz.take (0+vs.length)=kz from List.take_of_length_le (by omega)]at hk'
  obtain⟨H,I,r⟩:=su J'
  refine wpAny_bind (listItems_at (eV I).1 rfl ?_)
  exact Bb J' ha hk hka hk' hl h64 hup h
theorem v_{f:Addr}{l:Addr}{kz:List Int}{vs:List Value}{H:Hp}{Q:Value→Shared→Prop}(I:Inv X pins σ H s)(r:R H)(hli:s.heap.IsList l vs.toArray)(hl:kz.length=vs.length)(h64:vs.length<64)
 (hup:vs.Pairwise fun x y=>numOf x<numOf y)
 (turn:∀(i:Nat) (v:Value) (k:Int),vs[i]?=some v→kz[i]?=some k→∀(own:List (Addr×Obj)) (s:Shared),jq X pins σ R own s→wpAny (model X.prog X.w) A.in1.in1 (call (.ref f) [v]) (fun u s'=>(∃t,u= .int k t)∧jq X pins σ R own s') (fun _ _=>False) s)
 (h:∀D s' out c,Own X pins D→jq X pins σ R [(D,seqObj "list" out c)] s'→wj kz vs out.toList→Q (.ref D) s'):
 wpAny (model X.prog X.w) A (call (.builtin "sorted") [.ref l] [(Str.ofString "key",.ref f)]) Q E s:=by
 have hbig:vs.length≤sizeLine:=Nat.le_trans (Nat.le_of_lt h64) (by decide)
 refine call_function_entry_kw kind_sorted plain_sorted entry_sorted (ksk_s1 _ _) ?_
 unfold Builtin.«sorted»
 refine wpAny_bind (m:=checkCount "sorted" 1 1 _) (wpAny_pure ?_)
 refine wpAny_bind (collect_list hli ?_ hbig)
 have I1:=iU (o:=seqObj "list" #[] 0) (t':=s.toks) I (fun v z=>by cases z)
 have s1:=Heap.SameBut.update (s.heap.push (seqObj "list" #[] 0)) s.heap.objs.size (Obj.mapSeq (· ++vs.toArray))
 have I2:=j7 (t':=s.toks) I1 s1 (get?_update_seq (eV I1).1 (· ++vs.toArray)) (fun v z=>by cases z) (nG I).ge (nG I).ne
 have I3:Inv X pins σ H {s with heap:=(s.heap.push (seqObj "list" #[] 0)).update s.heap.objs.size (Obj.mapSeq (· ++vs.toArray)),toks:=s.toks}:=I2.fQ
 refine wpAny_bind (wpAny_newList ?_ hbig)
 generalize hs3:({s with heap:=(s.heap.push (seqObj "list" #[] 0)).update s.heap.objs.size (Obj.mapSeq (· ++vs.toArray))}:Shared)=s3
 have I3':Inv X pins σ H s3:=by rw[←hs3];exact I3
 have oD:=nG I3'
 have I4:=iU (o:=seqObj "list" vs.toArray 0) (t':=s3.toks) I3' (fun v z=>by cases z)
 have hD:=(eV I4).1
 refine wpAny_bind (wpAny_holding (wpAny_call_entry_kw slot_list_sort ⟨_,hD,rfl⟩ entry_list_sort ?body (ksk_l1 _ _)))
 case body=>
  show wpAny (model X.prog X.w) A.in1.in1 (Builtin.«list.sort» ⟨[.ref s3.heap.objs.size],[(Str.ofString "key",.ref f)]⟩) _ _ _
  rw[ksk_t1]
  unfold ksk_tree
  refine wpAny_bind (listItems_at hD rfl ?_)
  have s5:=Heap.SameBut.update (s3.heap.push (seqObj "list" vs.toArray 0)) s3.heap.objs.size (Obj.mapSeq fun _=>(#[]:Array Value))
  have I5:=j7 (t':=s3.toks) I4 s5 (get?_update_seq hD fun _=> #[]) (fun v z=>by cases z) oD.ge oD.ne
  have hD5:=(eV I5).1
  refine wpAny_bind (listUpdate_at hD rfl ?_ (by rw[List.size_toArray];exact hbig) (Nat.zero_le _))
  refine wpAny_bind (seqEpoch_at hD5 rfl ?_)
  refine wpAny_bind (wpAny_newTuple ?_ (by show vs.length≤_;exact hbig))
  have I6:=(iU (o:=seqObj "tuple" vs.toArray 0) (t':=s3.toks) I5 (fun v z=>by cases z)).fQ
  refine wpAny_bind (wpAny_newList ?_ (Nat.zero_le _))
  have ok:=nG I6
  have I7:=iU (o:=seqObj "list" #[] 0) (t':=s3.toks) I6 (fun v z=>by cases z)
  refine wpAny_holding ?_
  have okp:Own X pins _:=⟨ok.ge,fun q hq=>ok.ne q (by
   rcases List.mem_append.mp hq with z|z
   · exact List.mem_append_left _ z
   · exact List.mem_append_right _ (List.mem_append_left _ z))⟩
  refine yT (wX I7 r) oD okp (fun z=>ok.ne (s3.heap.objs.size,_) (List.mem_append_right _ (List.mem_append_right _ (List.mem_singleton.mpr rfl))) z.symm) hl h64 hup turn fun s' out c J' so=>⟨_,rfl,?_⟩
  exact wpAny_pure ⟨_,rfl,h _ s' out c oD J' so⟩
end
end L3
namespace L3
open PySem PySem.Spec L2
open PyProof.Rows hiding St
structure js(X:Cx)(scope:Scope)(Nc:List Str)(fr:List (Option Nat))(p:Str):Prop where
 sc:bj X scope Nc fr
 wW:∀x∈scope.names,x.2≠ .cell
 co:scope.isCoroutine=false
 gen:scope.isGenerator=false
 p0:Nc[0]?=some p
 f0:fr[0]?=some none
 loc:scope.names.lookup p=some .local
abbrev vt(X:Cx)(scope:Scope)(qual:Str)(f c:Addr)(s:Shared):Env:=PySem.W.envX qual scope s.heap.objs.size f (.ref c) (cQ X.env.cells scope.names [])
def x8(X:Cx)(scope:Scope)(Nc:List Str)(qual:Str)(f c:Addr)(s:Shared)(H:Hp):Cx:=
 {X with A:=X.A.in1.in1.deeper (vt X scope qual f c s),N:=Nc,s₀:=s,H₀:=H,env:=vt X scope qual f c s,outer:=X.stack,stack:=vt X scope qual f c s::X.stack,ex:=[],fn:=fun _=>false,calm:=true,pn:=[],xe:=fun _ _=>False}
section
variable {X:Cx}{scope:Scope}{Nc:List Str}{fr:List (Option Nat)}{p qual:Str}{f c:Addr}{pins:List (Addr×Obj)}{σ:L2.St}{H:Hp}{s:Shared}
theorem CZ(S:js X scope Nc fr p)(I:Inv X pins σ H s)(hc:X.calm=true):(x8 X scope Nc qual f c s H).Ok where
 mod:=I.ok.mod
 kind:=S.sc.kind
 glob:=rfl
 blt:=rfl
 above:=Nat.le_refl _
 inj:=fun x y a h1 h2=>I.ok.inj x y a (cA _ [] (fun _ _ e=>by cases e) x a h1) (cA _ [] (fun _ _ e=>by cases e) y a h2)
 has:=fun x hx=>by
  have hx':scope.names.lookup x=some .cell∨scope.names.lookup x=some .free:=hx
  rcases hx' with hx|hx
  · exact absurd rfl (S.wW _ (PySem.mem_of_lookup hx))
  · exact gD scope.names [] (I.ok.has x (S.sc.free _ (PySem.mem_of_lookup hx) rfl)) (.inl (PySem.mem_of_lookup hx))
 sH:=fun x a hf _=>by cases hf
 hd:=fun _=>I.ok.hd hc
 frames:=Around.frames_deeper (by show X.A.frames=_;exact I.ok.frames)
 uQ:= .inr ⟨rfl,rfl⟩
 xn:=fun b hb=>by cases hb
 bs:=I.bs
 nh:=Nat.le_trans I.ok.nh I.sz
 oZ:=fun b o e hb=>by cases hb
 oK:=fun b hb=>by cases hb
 iy:=I.stack
 pX:=I.p_
 gt:=I.ok.gt
theorem AF{h':Heap}{t':Nat}{v:V}{u:Value}(S:js X scope Nc fr p)(I:Inv X pins σ H s)(hc:X.calm=true)(r:RelV v u)(hn:h'.Ns s.heap.objs.size (fun x=>[(p,u)].reverse.lookup x))
 (k:∀b o,s.heap.get? b=some o→h'.get? b=some o):Inv (x8 X scope Nc qual f c s H) [] ((σC fr σ).set 0 (some v)) H {s with heap:=h',toks:=t'} where
 ok:=CZ S I hc
 os:=rfl
 bare:=I.bare
 base:=Un.kept k
 loc:=⟨_,hn,fun i x w h1 h2 h3=>by
  by_cases hi:i=0
  · subst hi
    have hp:=S.p0
    have e:p=x:=Option.some.inj (hp.symm.trans h1)
    subst e
    have hl:0<(σC fr σ).length:=by
     have:=(List.getElem?_eq_some_iff.mp h2).1
     rw[List.length_set]at this;exact this
    rw[List.getElem?_set_self hl]at h2
    cases h2
    exact⟨u,r,.inl ⟨S.loc,by simp⟩⟩
  · rw[List.getElem?_set_ne (Ne.symm hi)]at h2
    obtain⟨j,q1,q2⟩:=vc h2
    obtain⟨n1,n2,n3⟩:=S.sc.map i j x h1 q1
    obtain⟨m,hm,hl⟩:=I.loc
    obtain⟨u',r',lk⟩:=hl j x w n1 q2 (n3.elim (fun z=> .inr (.inl z)) fun z=> .inr (.inr z))
    refine⟨u',r',?_⟩
    rcases lk with⟨z,_⟩|⟨_,a,e,ic⟩
    · rcases n3 with y|y<;>(rw[y]at z;cases z)
    · obtain⟨a',e'⟩:=gD scope.names [] ⟨a,e⟩ (.inl (PySem.mem_of_lookup n2))
      have e2:=cA _ [] (fun _ _ e=>by cases e) x a' e'
      rw[e]at e2;cases e2
      exact .inr ⟨.inr n2,a,e',ic.keeps k⟩⟩
 cell:=fun x a h=>by
  obtain⟨v,q⟩:=I.cell x a (cA _ [] (fun _ _ e=>by cases e) x a h)
  exact⟨v,q.keeps k⟩
 free:=I.aL.fresh (Nat.le_refl _)
 gj:=fun x a h=>I.gj x a (cA _ [] (fun _ _ e=>by cases e) x a h)
 pin:=fun q hq=>by cases hq
 aL:=I.aL.kept k
 len:=by rw[List.length_set];unfold σC;rw[List.length_map];exact S.sc.len
theorem yP{R:Hp→Prop}{params:Arguments}{body:Expr}{tb:TE}{own:List (Addr×Obj)}{k:Int}{v:V}{u pm ctv:Value}(S:js X scope Nc fr p)(hc:X.calm=true)(hr:X.A.depth<recursionLimit)
 (hb:∀(s:Shared) (H:Hp),PE (x8 X scope Nc qual f c s H) body tb)
 (hbind:∀(cl:List (Str×Addr)) (pm cd ct v:Value),bindArgs (PySem.W.kla_fn "<lambda>" qual params body scope cl pm cd ct) ⟨[v],[]⟩=pure [(p,v)])
 (r:RelV v u) (hf:(f,PySem.W.kla_obj "<lambda>" qual params body scope (cQ X.env.cells scope.names []) pm c ctv)∈pins)
 (hcr:∀(H:Hp) (s:Shared),Inv X (pins++own) σ H s→R H→s.heap.CodeRec (.ref c) qual)
 (hq:∀H,R H→tb ((σC fr σ).set 0 (some v)) H fun x H'=>x= .int k∧R H') (J:jq X pins σ R own s):
 wpAny (model X.prog X.w) X.A.in1.in1 (call (.ref f) [u]) (fun u' s'=>(∃t,u'= .int k t)∧jq X pins σ R own s') (fun _ _=>False) s:=by
 obtain⟨H,I,rH⟩:=J
 have ho:=(I.pin _ (List.mem_append_right _ (List.mem_append_left _ hf))).1
 refine wpAny_call (PySem.W.kla_callFunE (fd:=PySem.W.kla_fn "<lambda>" qual params body scope (cQ X.env.cells scope.names []) pm (.ref c) ctv) (by show X.A.depth<_;exact hr) ho rfl S.co S.gen rfl (hcr H s I rH) ?_)
 rw[hbind]
 refine wpAny_pure (wpAny_newFunctionEnv S.wW (fun y hy=>by
  have e:y=(p,u):=by simpa using hy
  rw[e];exact S.loc) (fun h₁ hns hsb=>?_) S.sc.kind)
 have hk:∀b o,s.heap.get? b=some o→h₁.get? b=some o:=fun b o e=>hsb.extBut b o (Nat.ne_of_lt (Heap.lt_size e)) (Heap.get?_push_of_some _ e)
 refine⟨I.nolimit.keeps hk,?_⟩
 show codeAny _ X.A.in1.in1 (.expr body (vt X scope qual f c s)) _ _
 refine PySem.W.kla_codeExpr (wpAny_mono (hb s H [] _ _ H _ (AF S I hc r hns hk) (hq H rH)) (fun w s' he=>?_) fun e s' z=>False.elim z)
 obtain⟨x,H',I',rx,rfl,rH'⟩:=he
 exact⟨rx,H',I.vA (s':=s') (ch:=[]) I'.os I'.base I'.aL I'.bare (fun b z=>absurd z (by simp)),rH'⟩
theorem set_same{α:Type}:∀ {l:List α} {n:Nat} {x:α},l[n]?=some x→l.set n x=l
 | [],n,x,h=>by simp at h
 |a::l,0,x,h=>by simp at h;subst h;rfl
 |a::l,n+1,x,h=>by
  rw[List.set_cons_succ,set_same (n:=n) (by simpa using h)]
theorem zc{params:Arguments}{body:Expr}{lpos:Pos}{c0 T:Addr}{α:List (Option Addr)}{G F:Hp}{st:af}{n0:Nat}{b:Bool}{E:Value→Shared→Prop}{Q:Value→Shared→Prop}(S:js X scope Nc fr p)(hcode:X.env.code= .ref c0)(hC:PySem.W.codeHdIn X.K c0 T=true)
 (hdef:defaultsOf params X.env=([],[])) (hql:X.env.qual++"<lambda>"=qual) (I:Inv X pins σ H s) (Sp:bL G F H) (SR:aR α st G) (hn0:st[n0]?=some (.tab T lpos qual b))
 (h:∀(f c:Addr) (ctv pm:Value) (G2 H2:Hp) (s2:Shared),Inv X (pins++[(f,PySem.W.kla_obj "<lambda>" qual params body scope (cQ X.env.cells scope.names []) pm c ctv)]) σ H2 s2→Step α G α G2→bL G2 F H2→aR α (st.set n0 (.tab T lpos qual true)) G2→
   (some c∉α∧∃o vs t,G2 c=some (.ix o (.own c))∧o.data= .fields vs∧vs[1]?=some (.str qual t))→Q (.ref f) s2):
 wpAny (model X.prog X.w) X.A (eval (.Lambda params body scope lpos) X.env) Q E s:=by
 refine PySem.W.kla_eval hdef ?_
 rw[hql]
 rcases SR.at' n0 _ hn0 with⟨z,_⟩|⟨a,ha,rfl,ps,gP,tr,cs⟩
 · cases z
 have hP:=I.aL a _ (Sp.get gP)
 have hP:s.heap.get? a=some (PySem.W.tabObj ps):=hP
 have hg:s.heap.Ns mainGlobals X.mg:=I.mod.glob.keeps I.bk
 obtain⟨bm,ob,b1,b2,b3,b4,b5,b6⟩:=I.mod.bmain
 have b3':=I.bk _ _ b3
 have hgP:mainGlobals≠a:=fun q=>by
  obtain⟨o,es,ep,e,hd,_⟩:=hg
  rw[q,hP]at e;cases e;cases hd
 have n1:bm≠mainGlobals:=fun q=>by
  obtain⟨o,es,ep,e,hd,_⟩:=hg
  rw[q,e]at b3';cases b3';rw[hd]at b6;cases b6
 have n2:bm≠a:=fun q=>by rw[q,hP]at b3';cases b3';cases b4
 have hB:s.heap.BuiltinsAt X.mg a:=⟨bm,ob,b1,b2,n1,n2,b3',b4,b5,b6⟩
 have hcl:closureFor scope X.env=pure (cQ X.env.cells scope.names []):=jo fun x hx hk=>I.ok.has x.1 (S.sc.free x hx hk)
 have C:PySem.W.CodeHd s.heap c0 a:=PySem.W.codeHd_of_K I.kj hC
 rcases cs with⟨rfl,hnf⟩|⟨rfl,c,o,vs,t,q1,q2,q3,q4,q5⟩
 · refine PySem.W.kla_makeFunction hcl I.ok.glob hg hcode C hP tr hnf hgP hB fun c' ctv h' tk hx hge hlt hrec htb=>?_
   obtain⟨c2,oc,vs,t,e2,hoc,hd,hv⟩:=hrec
   cases e2
   have hHc:H c'=none:=I.aL.fresh hge
   have hGc:G c'=none:=(Sp.none hHc).1
   have hHa:H a=some (.ir ps):=Sp.get gP
   have hac:a≠c':=cV hHa hHc
   let ps':=ps++ #[rawInt lpos.line,rawInt lpos.col,.ref c']
   have nb:∀ {b:Addr},H b=none→b≠a:=fun e z=>by rw[z,hHa]at e;cases e
   have I1:Inv X pins σ (upd (upd H c' (.ix oc (.own c'))) a (.ir ps')) {s with heap:=h',gens:=s.gens,drawn:=s.drawn,toks:=tk}:=by
    have old:∀ {b:Addr} {u:HO},H b=some u→b≠a→upd (upd H c' (.ix oc (.own c'))) a (.ir ps') b=some u:=fun e n=>by rw[aD n,aD (cV e hHc)];exact e
    refine I.step (ch:=[]) (fun _ z=>nomatch z) (fun b o _ _ _ e n=>hx b o (nb n) e) (fun b o _ _ _ e n=>⟨o.slots,hx b o (nb n) e⟩) (fun b o _ e n=>?_) (fun b o _ e=>?_) (fun b xs e=>?_) (fun b o u e=>?_) (fun b qs e=>?_) (fun m hm=>?_) (fun b u e=>?_) I.bare
    · rw[aD (nb n),aD (Nat.ne_of_lt (Nat.lt_of_lt_of_le (Heap.lt_size e) hge))];exact n
    · by_cases hb:b=a
      · exact⟨_,by rw[hb];exact htb⟩
      · exact⟨o,hx b o hb e⟩
    · exact old e fun z=>by rw[z,hHa]at e;cases e
    · exact old e fun z=>by rw[z,hHa]at e;cases e
    · by_cases hb:b=a
      · subst hb
        rw[hHa]at e;cases e
        exact⟨_,aO⟩
      · exact⟨#[],by rw[old e hb];simp⟩
    · obtain⟨o,es,ep,ho,r⟩:=hm
      exact⟨o,es,ep,hx _ o (nb I.free) ho,r⟩
    · by_cases hb:b=a
      · subst hb;rw[aO]at e;cases e;exact htb
      · rw[aD hb]at e
        by_cases hbc:b=c'
        · subst hbc;rw[aO]at e;cases e;exact⟨hoc,_,hoc⟩
        · rw[aD hbc]at e
          refine(I.aL b u e).kI (fun d w hd q=>hx d w ?_ q) (fun d q=>old q fun z=>by rw[z,hHa]at q;cases q) fun d xs q=>old q fun z=>by rw[z,hHa]at q;cases q
          rcases hd with rfl|hd
          · exact hb
          · intro z;rw[z,hHa]at hd;cases hd
   have I2:=iU (o:=PySem.W.kla_obj "<lambda>" qual params body scope (cQ X.env.cells scope.names []) ((X.mg "__name__").getD .none) c' ctv) (t':=tk) I1 (fun v z=>by cases z)
   have gP':upd G c' (.ix oc (.own c')) a=some (.ir ps):=by rw[aD hac];exact gP
   refine h _ c' ctv _ (upd (upd G c' (.ix oc (.own c'))) a (.ir ps')) _ _ I2 ((Step.laid hGc).trans (Step.write (List.mem_of_getElem? ha))) ((Sp.laid hHc).write gP') ((SR.laid hGc).write ha ⟨rfl,ps',aO,?_,.inr ⟨rfl,c',oc,vs,t,?_,SR.i3 hGc,?_,hd,hv⟩⟩) ⟨SR.i3 hGc,oc,vs,t,?_,hd,hv⟩
   · show TriplesOk (ps++ #[rawInt lpos.line,rawInt lpos.col,.ref c']).toList
     rw[Array.toList_append]
     exact TriplesOk_snoc _ _ _ _ tr
   · show codeAmong lpos (ps++ #[rawInt lpos.line,rawInt lpos.col,.ref c']).toList=_
     rw[Array.toList_append]
     exact codeAmong_snoc _ tr hnf
   · rw[aD hac.symm,aO]
   · rw[aD hac.symm,aO]
 · refine PySem.W.kla_makeFunctionHit hcl I.ok.glob hg hcode C hP tr q1 hB fun ctv h' tk hk hsz=>?_
   have I1:=I.kept (t':=tk) hk
   have I2:=iU (o:=PySem.W.kla_obj "<lambda>" qual params body scope (cQ X.env.cells scope.names []) ((X.mg "__name__").getD .none) c ctv) (t':=tk) I1 (fun v z=>by cases z)
   refine h _ c ctv _ G H _ I2 Step.refl Sp (by rw[set_same hn0];exact SR) ⟨q2,o,vs,t,q3,q4,q5⟩
end
def slt(p q:Int×Int):Prop:=p.1<q.1∨(p.1=q.1∧p.2<q.2)
def tY(n0:Nat)(T:Addr)(lpos:Pos)(qual:Str)(fr:List (Option Nat))(tb te:DE):DE:=fun σ st K=>te σ st fun d st1=>∃(ns ks:List Int) (b:Bool),d= .lst (ns.map .int)∧ns.length<64∧ns.Pairwise (· < ·)∧ks.length=ns.length∧
 st1[n0]?=some (.tab T lpos qual b)∧(∀(i:Nat) (n k:Int),ns[i]?=some n→ks[i]?=some k→tb ((fG fr σ).set 0 (some (.int n))) (st1.set n0 (.tab T lpos qual true)) fun v st2=>v= .int k∧st2=st1.set n0 (.tab T lpos qual true))∧
 ∀os:List (Int×Int),os.Perm (ks.zip ns)→os.Pairwise slt→K (.lst (os.map fun p=> .int p.2)) (st1.set n0 (.tab T lpos qual true))
theorem t6{α:List (Option Addr)}{H:Hp}:∀ {ns:List Int} {vs:List V},aH α H (ns.map D.int) vs→vs=ns.map V.int
 | [],vs,h=>by unfold aH at h;exact h
 |n::ns,vs,h=>by
  unfold aH at h
  obtain⟨v,r,rfl,h1,h2⟩:=h
  unfold Rep at h1
  rw[h1,t6 h2];rfl
theorem sI{α:List (Option Addr)}{H:Hp}:∀(ns:List Int),aH α H (ns.map D.int) (ns.map V.int)
 | []=>by unfold aH;rfl
 |n::ns=>by unfold aH;exact⟨_,_,rfl,by unfold Rep;rfl,sI ns⟩
theorem rS:∀ {ns:List Int} {us:List Value},Vals (ns.map V.int) us→IntsAre us ns
 | [],_,.nil=> .nil
 |n::ns,_,.cons ⟨t,rfl⟩ h=> .cons n t (rS h)
section
variable {X:Cx}{scope:Scope}{Nc:List Str}{fr:List (Option Nat)}{p x qual:Str}{params:Arguments}{e body:Expr}{te tb:DE}{lpos kpos pos ppos:Pos}{c0 T:Addr}{n0:Nat}
theorem AK(S:js X scope Nc fr p)(hc:X.calm=true)(hr:cC 2 X.A)(hcode:X.env.code= .ref c0)(hC:PySem.W.codeHdIn X.K c0 T=true)(hdef:defaultsOf params X.env=([],[]))(hql:X.env.qual++"<lambda>"=qual)
 (hbind:∀(cl:List (Str×Addr)) (pm cd ct v:Value),bindArgs (PySem.W.kla_fn "<lambda>" qual params body scope cl pm cd ct) ⟨[v],[]⟩=pure [(p,v)])
 (hb:∀(f c:Addr) (s:Shared) (H:Hp),PE (x8 X scope Nc qual f c s H) body (LE tb)) (ha:PA X [e] (LA (ag te av)))
 (hg:Gl X "sorted") (hm:X.mg "sorted"=none) (hv:bootBuiltins "sorted"=some (.builtin "sorted"))
 (he:backTo pos (starEach [e] X.env)=(false,eval e X.env)::backTo pos (starEach [] X.env):=by rfl) (hpl:(backTo pos (starEach [e] X.env)).any (·.1)=false:=by rfl):
 PE X (.Call (.Name "sorted" ppos) [e] [⟨some "key",.Lambda params body scope lpos,kpos⟩] pos) (LE (tY n0 T lpos qual fr tb te)):=by
 intro pins s σ H Q I h
 obtain⟨α,σd,st,K,G,F,Sp,RS,SR,t,k⟩:=h
 refine wpAny_Call_Name_kw (kU I hg hm hv ?_)
 refine callWith_kw ?_ he hpl
 let K1:DK:=fun d st1=>∃(ns ks:List Int) (b:Bool),d= .lst (ns.map .int)∧ns.length<64∧ns.Pairwise (· < ·)∧ks.length=ns.length∧
  st1[n0]?=some (.tab T lpos qual b)∧(∀(i:Nat) (n k:Int),ns[i]?=some n→ks[i]?=some k→tb ((fG fr σd).set 0 (some (.int n))) (st1.set n0 (.tab T lpos qual true)) fun v st2=>v= .int k∧st2=st1.set n0 (.tab T lpos qual true))∧
  ∀os:List (Int×Int),os.Perm (ks.zip ns)→os.Pairwise slt→K (.lst (os.map fun p=> .int p.2)) (st1.set n0 (.tab T lpos qual true))
 refine bM (ha pos pins s σ H (fun vs H1=>∃d v st1 α1 G1,vs=[v]∧K1 d st1∧Step α G α1 G1∧bL G1 F H1∧aR α1 st1 G1∧Rep α1 G1 d v) I
  ⟨α,σd,st,fun ds st1=>match ds with| [d]=>K1 d st1|_=>False,G,F,Sp,RS,SR,t,fun ds st1 q α1 G1 H1 vs s1 P1 S1 r1=>?_⟩) fun us s1 ⟨vs,H1,I1,rv,d,v,st1,α1,G1,hvs,kd,s1',P1,S1,r1⟩=>?_
 · match ds,q,r1 with
   | [d],q,r1=>
     unfold aH at r1
     obtain⟨v,r,rfl,h1,h2⟩:=r1
     unfold aH at h2
     subst h2
     exact⟨d,v,st1,α1,G1,rfl,q,s1,P1,S1,h1⟩
 subst hvs
 obtain⟨ns,ks,b,rfl,h64,hup,hlen,hn0,hkey,hK⟩:=kd
 show wpAny _ _ (evalAll ((do let v ←eval (.Lambda params body scope lpos) X.env;standAt pos;pure v)::[])) _ _ s1
 refine wpAny_evalAll_cons (wpAny_bind (zc S hcode hC hdef hql I1 P1 S1 hn0 fun f c ctv pm G2 H2 s2 I2 st2 P2 S2 ⟨hc1,o,vs,tq,hc2,hc3,hc4⟩=>wpAny_bind (wpAny_standAt (wpAny_pure (wpAny_evalAll_nil ?_)))))
 have r2:=r1.step st2
 unfold Rep at r2
 obtain⟨l,xs,rfl,hl1,hl2,hl3⟩:=r2
 have exs:=t6 hl3
 subst exs
 cases rv with
 |cons ru rn=>
  cases rn
  cases ru
  have hrd:Rd H2 l (.lst (ns.map V.int)):=by
   rcases hl2 with z|⟨w,z⟩
   · exact .inl (P2.get z)
   · exact .inr ⟨w,P2.get z⟩
  obtain⟨_,its,nn,vv,hobj⟩:=hrd.ok I2.aL
  have hints:=rS vv
  have hlen2:=hints.length
  have key:∀(H':Hp),(∃α' G',Step α1 G2 α' G'∧bL G' F H'∧aR α' (st1.set n0 (.tab T lpos qual true)) G')→H' c=some (.ix o (.own c)):=fun H' ⟨α',G',q1,q2,q3⟩=>q2.get (q1.ext c _ hc1 hc2)
  show wpAny _ _ (call (.builtin "sorted") [.ref l] [(Str.ofString "key",.ref f)]) _ _ _
  refine v_ (X:=X) (pins:=pins++[(f,PySem.W.kla_obj "<lambda>" qual params body scope (cQ X.env.cells scope.names []) pm c ctv)]) (R:=fun H'=>∃α' G',Step α1 G2 α' G'∧bL G' F H'∧aR α' (st1.set n0 (.tab T lpos qual true)) G') (kz:=ks) (vs:=its)
   I2 ⟨α1,G2,Step.refl,P2,S2⟩ ⟨_,hobj,rfl,nn,rfl⟩ (by omega) (by omega) ?_ (fun i u kk hu hk own s' J=>?_) fun D s' out cc oD J so=>?_
  · rw[←List.pairwise_map,hints.nums];exact hup
  · have hi:i<ns.length:=by
     have:=(List.getElem?_eq_some_iff.mp hu).1
     omega
    obtain⟨tt,ht⟩:=hints.get i ns[i] (List.getElem?_eq_getElem hi)
    have ht:some u=some (Value.int ns[i] tt):=by rw[←hu];exact ht
    cases ht
    refine yP (v:= .int ns[i]) (u:= .int ns[i] tt) S hc (by have:=hr.dp;omega) (hb f c) hbind ⟨tt,rfl⟩ (List.mem_append_right _ (List.mem_singleton.mpr rfl)) (fun H' s'' J' r'=>?_) (fun H' r'=>?_) J
    · have q:=J'.aL c _ (key H' r')
      exact⟨c,o,vs,tq,rfl,q.1,hc3,hc4⟩
    · obtain⟨α',G',q1,q2,q3⟩:=r'
      refine⟨α',(fG fr σd).set 0 (some (.int ns[i])),_,_,G',F,q2,?_,q3,hkey i ns[i] kk (List.getElem?_eq_getElem hi) hk,fun d' st' hd α'' G'' H'' v' s'' P'' S'' r''=>?_⟩
      · exact((RS.step ((s1'.trans st2).trans q1)).comp).set 0 (by unfold Rep;rfl)
      · obtain⟨rfl,rfl⟩:=hd
        unfold Rep at r''
        exact⟨r'',α'',G'',q1.trans s'',P'',S''⟩
  · obtain⟨H',I',α',G',q1,q2,q3⟩:=J
    obtain⟨ps,hp,ho,hs⟩:=so
    have hps:∀q∈ps,∃t,q.2= .int (numOf q.2) t:=fun q hq=>by
     have h1:=hp.mem_iff.mp hq
     have h2:q.2∈its:=(List.of_mem_zip (show(q.1,q.2)∈ks.zip its from h1)).2
     obtain⟨n,t,e⟩:=hints.all _ h2
     exact⟨t,by rw[e];rfl⟩
    have hos:(ps.map fun q=>(q.1,numOf q.2)).Perm (ks.zip ns):=by
     have h1:=hp.map fun q:Int×Value=>(q.1,numOf q.2)
     have e:(ks.zip its).map (fun q:Int×Value=>(q.1,numOf q.2))=ks.zip ns:=by
      rw[←hints.nums,List.zip_map_right]
      exact List.map_congr_left fun⟨a,b⟩ _=>rfl
     rw[e]at h1;exact h1
    have hpw:(ps.map fun q=>(q.1,numOf q.2)).Pairwise slt:=by rw[List.pairwise_map];exact hs
    have kk:=hK _ hos hpw
    rw[List.map_map]at kk
    have hD0:=eV I'
    have vout:Vals ((ps.map fun q=>numOf q.2).map V.int) out.toList:=by
     rw[ho]
     clear hos hpw kk hs hp ho
     induction ps with
     |nil=>exact .nil
     |cons q r ih=>
      obtain⟨t,e⟩:=hps q (List.mem_cons_self ..)
      exact .cons ⟨t,e⟩ (ih fun z hz=>hps z (List.mem_cons_of_mem _ hz))
    have hlo:(ps.map fun q=>numOf q.2).length≤sizeLine:=by
     rw[List.length_map,hp.length_eq,List.length_zip]
     exact Nat.le_trans (Nat.min_le_left _ _) (Nat.le_trans (show ks.length≤64 by omega) (by decide))
    have I3:=xC (u:= .lst ((ps.map fun q=>numOf q.2).map V.int)) I' oD.ge oD.ne ⟨by rw[List.length_map];exact hlo,out.toList,cc,vout,hD0.1⟩
    have hG:=(q2.none hD0.2.1).1
    refine⟨.ref D,_,I3.fQ,rfl,k _ _ kk α' _ _ _ ((s1'.trans st2).trans (q1.trans (Step.laid hG))) (q2.laid hD0.2.1) (q3.laid hG) ?_⟩
    unfold Rep
    refine⟨D,_,rfl,q3.i3 hG,.inl aO,?_⟩
    have e:List.map ((fun p:Int×Int=>L3.D.int p.snd)∘fun q:Int×Value=>(q.fst,numOf q.snd)) ps=(ps.map fun q=>numOf q.2).map L3.D.int:=by rw[List.map_map];rfl
    rw[e]
    exact sI _
end
end L3
namespace L3
open PySem L2
open PySem.Spec hiding items?
open PyProof.Rows hiding St
def zg(sc:Scope)(N gl:List Str):Bool:=
 N.all (fun x=>(sc.names.lookup x==some .local||sc.names.lookup x==some .cell)&&x != "__debug__"&&x != "__classdict__")&&gl.all (fun x=>sc.names.lookup x==some .globalImplicit&&x != "__debug__")
structure VS(sc:Scope)(N gl:List Str):Prop where
 ok:zg sc N gl=true
theorem VS.at_{sc:Scope}{N gl:List Str}(V:VS sc N gl){i:Nat}{x:Str}(h:N[i]?=some x):Loc sc x∧(x==("__debug__":Str))=false∧(x==("__classdict__":Str))=false:=by
 have o:=V.ok
 unfold zg at o
 have:=List.all_eq_true.mp (Bool.and_eq_true_iff.mp o).1 x (List.mem_of_getElem? h)
 simp only[Bool.and_eq_true,Bool.or_eq_true,beq_iff_eq,bne_iff_ne,ne_eq]at this
 exact⟨this.1.1,beq_false_of_ne this.1.2,beq_false_of_ne this.2⟩
theorem VS.Fv{sc:Scope}{N gl:List Str}(V:VS sc N gl){i:Nat}{x:Str}(h:gl[i]?=some x):sc.names.lookup x=some .globalImplicit∧(x==("__debug__":Str))=false:=by
 have o:=V.ok
 unfold zg at o
 have:=List.all_eq_true.mp (Bool.and_eq_true_iff.mp o).2 x (List.mem_of_getElem? h)
 simp only[Bool.and_eq_true,beq_iff_eq,bne_iff_ne,ne_eq]at this
 exact⟨this.1,beq_false_of_ne this.2⟩
section
variable {X:Cx}{sc:Scope}{N gl:List Str}{x:Str}{pos:Pos}
theorem VS.nm(V:VS X.env.scope X.N gl)(i:Nat)(h:X.N[i]?=some x:=by rfl):JE X (.Name x pos) (aa i):=
 let q:=V.at_ h
 yq q.2.1 q.2.2 (q.1.elim .inl fun z=> .inr (.inl z)) h
theorem VS.l(V:VS sc N gl)(i:Nat)(h:N[i]?=some x:=by rfl):Loc sc x:=(V.at_ h).1
theorem VS.g(V:VS sc N gl)(i:Nat)(h:gl[i]?=some x:=by rfl):sc.names.lookup x=some .globalImplicit:=(V.Fv h).1
theorem VS.d(V:VS sc N gl)(i:Nat)(h:gl[i]?=some x:=by rfl):(x==("__debug__":Str))=false:=(V.Fv h).2
theorem cP{n:Nat}(hN:X.N[n]?=some x:=by rfl)(hd:((x==("__debug__":Str))||(x==("__classdict__":Str)))=false:=by decide+kernel)
 (hv:sW X.env.scope x:=by first|exact Or.inl rfl|exact Or.inr (Or.inl rfl)|exact Or.inr (Or.inr rfl)):JE X (.Name x pos) (aa n):=
 yq (Bool.or_eq_false_iff.mp hd).1 (Bool.or_eq_false_iff.mp hd).2 hv hN
@[irreducible] def kW:dJ:=qV (fun _ j=>j≠0) fun i j=> .int (i.fdiv j)
theorem vo{k:Nat}(hr:cC k X.A)(hs:X.stack=X.env::X.outer)(hgen:X.env.scope.isGenerator=false)(hco:X.env.scope.isCoroutine=false):cm X (binaryOp .FloorDiv) (LR kW):=by
 unfold kW
 refine jU (g':=fun i j=> .int (i.fdiv j)) (fun _ _ _ _=>by unfold Rep;rfl) ?_
 intro pins s σ H x y v u Q I rx ry h
 obtain⟨i,j,rfl,rfl,hc,q⟩:=h
 obtain⟨t,rfl⟩:=rx
 obtain⟨t',rfl⟩:=ry
 refine floordiv_int hc ⟨.int (i.fdiv j),H,I.tok _,⟨_,rfl⟩,q⟩ (.inr (PySem.PylongRoom.of I.nolimit ?_ ?_))
 · have:=hr.dp
   show X.A.depth+100<_
   omega
 · exact PySem.SeerAt.of (env:=X.env) (l:=X.outer) (I.mod.seer.keeps I.bk) I.ok.gt (by rw[I.ok.frames,hs]) hgen hco I.ok.blt I.ok.glob
theorem tm{st:af}{K:DK}{i j:Int}(h0:j≠0)(k:K (.int (i.fdiv j)) st):kW (.int i) (.int j) st K:=by unfold kW;exact⟨h0,k⟩
theorem js.look{scope:Scope}{Nc:List Str}{fr:List (Option Nat)}{p:Str}(S:bj X scope Nc fr)(h:(scope.names.all (fun x=>x.2 != .cell)&&(!scope.isCoroutine&& !scope.isGenerator)&&(scope.names.lookup p==some .local))=true:=by decide+kernel)
 (p0:Nc[0]?=some p:=by rfl) (f0:fr[0]?=some none:=by rfl):js X scope Nc fr p:=by
 simp only[Bool.and_eq_true,Bool.not_eq_true',beq_iff_eq]at h
 exact⟨S,fun x hx=>by simpa using List.all_eq_true.mp h.1.1 x hx,h.1.2.1,h.1.2.2,p0,f0,h.2⟩
theorem AM{scope:Scope}{Nc:List Str}{fr:List (Option Nat)}{p qual:Str}{params:Arguments}{e body:Expr}{te tb:DE}{lpos kpos pos ppos:Pos}{c0 T:Addr}{n0 k:Nat}(S:js X scope Nc fr p)(hc:X.calm=true)(hr:cC k X.A)(hcode:X.env.code= .ref c0)(hC:PySem.W.codeHdIn X.K c0 T=true)
 (hb:∀(f c:Addr) (s:Shared) (H:Hp),JE (x8 X scope Nc qual f c s H) body tb) (he:JE X e te) (hg:X.env.kindOf "sorted"=some .globalImplicit) (hm:X.mg "sorted"=none)
 (hdef:defaultsOf params X.env=([],[]):=by rfl) (hql:X.env.qual++"<lambda>"=qual:=by rfl)
 (hbind:∀(cl:List (Str×Addr)) (pm cd ct v:Value),bindArgs (PySem.W.kla_fn "<lambda>" qual params body scope cl pm cd ct) ⟨[v],[]⟩=pure [(p,v)]:=by(intros;rfl)) (hk:2≤k:=by decide)
 (he1:starEach [e] X.env=(false,eval e X.env)::starEach [] X.env:=by rfl):
 JE X (.Call (.Name "sorted" ppos) [e] [⟨some "key",.Lambda params body scope lpos,kpos⟩] pos) (tY n0 T lpos qual fr tb te):=by
 unfold JE at he hb⊢
 refine AK S hc (hr.mono hk) hcode hC hdef hql hbind hb (kT he pG he1) hg hm rfl ?_ ?_
 · rw[he1];rfl
 · rw[he1];rfl
end
structure CH(K:PySem.W.Frag)(x qual:Str)(st:Stmt)(f:Addr)(fd:FuncData)(c:Addr):Prop where
 ex:∃(oc:Value) (od:Option Addr) (kV doc pm:Value) (an:Option Addr) (ct:Value) (osl:Array (Option Value)),
  fd=PySem.W.fnOf x qual (br st) (bf st) (ai st) .none kV doc pm an (.ref c) ct∧K.lookup f=some ⟨oc,od,.func fd,osl⟩∧PySem.W.codeIn K (.ref c) qual=true
theorem CD{P:Program}{w:World}{K:PySem.W.Frag}{mg:Str→Option Value}{base:Heap}{x qual:Str}{st:Stmt}{f c:Addr}{fd:FuncData}{N ps:List Str}{k:Nat}{sp:dc}{t:DS}(F:CH K x qual st f fd c)(S:bw N ps (ai st))
 (hbody:∀(A:Around) (outer:List Env) (s:Shared) (H:Hp) (E:XK),cC k (A.deeper (envOfC qual (ai st) s.heap.objs.size f (.ref c)))→JB (lB aU P w K mg base N qual (ai st) f (.ref c) A outer s H E).qM (bf st) t)
 (hsp:∀ds st K,sp ds st K→ds.length=ps.length∧t {nx:=fun _ st'=>K .aJ st',rt:=K} (bG N ds) st):aB P w K mg base aU (k+1) f fd ps (aX sp):=by
 obtain⟨oc,od,kV,doc,pm,an,ct,osl,rfl,lk,hcd⟩:=F.ex
 unfold JB at hbody
 refine zM lk hcd S (fun vs H Q E h=>?_) fun A outer s H vs Q E hr h=>?_
 · obtain⟨α,ds,st,K,G,F,P,R,S,q,k⟩:=h
   rw[←R.length];exact(hsp ds st K q).1
 · obtain⟨α,ds,st,K,G,F',P,R,SR,q,k⟩:=h
   refine⟨_,(hbody A outer s H E hr).qM,α,bG N ds,st,_,G,F',P,dt.start R,SR,(hsp ds st K q).2,?_,k,?_,?_⟩
   · intro σd' st' kk α' G' H' σ' s' P' R' S'
     exact k .aJ st' kk α' G' H' .aJ s' P' S' (by unfold Rep;rfl)
   · intro σd' st' kk
     exact kk.elim
   · intro σd' st' kk
     exact kk.elim
def xo(tl:List (Addr×Pos×Str)):dc:=fun ds st K=>∃ns:List Int,ds=[.lst (ns.map .int)]∧ns.length≤63∧st=tl.map (fun q=> .tab q.1 q.2.1 q.2.2 false)∧∀st',K (.bl true) st'
def pU(K:PySem.W.Frag)(ts:List (Addr×Addr)):Sp:=fun vs H Q _=>∃(a:Addr) (ns:List Int),vs=[.ref a]∧Entry K ts a ns H∧ns.length≤63∧∀H',Q (.bl true) H'
theorem yk{K:PySem.W.Frag}{ts:List (Addr×Addr)}{tl:List (Addr×Pos×Str)}(nl:sQ K=true)(hts:ts.map (·.2)=tl.map (·.1))(nd:(tl.map (·.1)).Nodup){vs:List V}{H:Hp}{Q:VK}{E:XK}(h:pU K ts vs H Q E):aX (xo tl) vs H Q E:=by
 obtain⟨a,ns,rfl,hE,hl,q⟩:=h
 have tabs:∀q∈tl,H q.1=some (.ir #[])∧q.1≠a:=fun q hq=>by
  have h1:q.1∈ts.map (·.2):=by rw[hts];exact List.mem_map_of_mem hq
  obtain⟨t,ht,e⟩:=List.mem_map.mp h1
  rw[←e];exact hE.tab t ht
 have at_:∀(i:Nat) (x:Addr),(tl.map fun q=>some q.1)[i]?=some (some x)→∃q,tl[i]?=some q∧q.1=x:=fun i x e=>by
  rw[List.getElem?_map]at e
  cases z:tl[i]? with
  |none=>rw[z]at e;cases e
  |some w=>rw[z]at e;simp at e;exact⟨w,rfl,e⟩
 have nota:some a∉tl.map fun q=>some q.1:=fun z=>by
  obtain⟨w,hw,e⟩:=List.mem_map.mp z
  exact(tabs w hw).2 (Option.some.inj e)
 rcases hE.lst with hS|⟨o,its,n,e,hc,_⟩
 · refine⟨tl.map fun q=>some q.1,[.lst (ns.map .int)],tl.map (fun q=> .tab q.1 q.2.1 q.2.2 false),fun d _=>d= .bl true,H,fun _=>none,⟨fun b=>by cases H b<;>rfl,fun _ _ _=>rfl⟩,?_,⟨by simp,fun i j x e1 e2=>?_,fun n c e=>?_⟩,⟨ns,rfl,hl,rfl,fun _=>rfl⟩,?_⟩
   · unfold aH
     refine⟨.ref a,[],rfl,?_,by unfold aH;rfl⟩
     unfold Rep
     exact⟨a,ns.map V.int,rfl,nota,hS,qU ns⟩
   · obtain⟨p,hp,e3⟩:=at_ i x e1
     obtain⟨r,hr,e4⟩:=at_ j x e2
     have k1:(tl.map (·.1))[i]?=some x:=by rw[List.getElem?_map,hp,←e3];rfl
     have k2:(tl.map (·.1))[j]?=some x:=by rw[List.getElem?_map,hr,←e4];rfl
     have hi:=(List.getElem?_eq_some_iff.mp k1).1
     exact(List.getElem?_inj hi nd).mp (k1.trans k2.symm)
   · rw[List.getElem?_map]at e
     cases z:tl[n]? with
     |none=>rw[z]at e;cases e
     |some w=>
      rw[z]at e
      have e':Cell.tab w.1 w.2.1 w.2.2 false=c:=Option.some.inj e
      subst e'
      refine .inr ⟨w.1,by rw[List.getElem?_map,z];rfl,rfl,#[],(tabs w (List.mem_of_getElem? z)).1,trivial,.inl ⟨rfl,rfl⟩⟩
   · rintro d st' rfl α' G' H' v _ _ _ r
     unfold Rep at r
     subst r
     exact q H'
 · exact absurd hc (qY nl e)
end L3
namespace L3
open PySem L2
open PySem.Spec hiding items?
open PyProof.Rows hiding St
section
variable {K:PySem.W.Frag}{x qual p1 p2 p3 p4 p5:Str}{st:Stmt}{f:Addr}{fd:FuncData}
abbrev Al(x qual:Str)(st:Stmt)(kV doc pm:Value)(an:Option Addr)(cdv ct:Value):FuncData:=PySem.W.fnOf x qual (br st) (bf st) (ai st) .none kV doc pm an cdv ct
theorem fw{α:Type}{n:Nat}{us:List α}(h:us.length=n+1):∃a r,us=a::r∧r.length=n:=by
 cases us with
 |nil=>cases h
 |cons a r=>exact⟨a,r,rfl,Nat.succ.inj h⟩
theorem nN{α:Type}{us:List α}(h:us.length=0):us=[]:=List.length_eq_zero_iff.mp h
theorem o8(F:k_ K x qual st f fd)(h:∀kV doc pm an cdv ct a,bindArgs (Al x qual st kV doc pm an cdv ct) ⟨[a],[]⟩=pure [(p1,a)]):Binds K fd [p1] []:=
 F.binds fun kV doc pm an cdv ct us hl=>by
  obtain⟨a,r1,rfl,h1⟩:=fw hl
  cases nN h1
  exact h kV doc pm an cdv ct a
theorem mO(F:k_ K x qual st f fd)(h:∀kV doc pm an cdv ct a b,bindArgs (Al x qual st kV doc pm an cdv ct) ⟨[a,b],[]⟩=pure [(p1,a),(p2,b)]):Binds K fd [p1,p2] []:=
 F.binds fun kV doc pm an cdv ct us hl=>by
  obtain⟨a,r1,rfl,h1⟩:=fw hl
  obtain⟨b,r2,rfl,h2⟩:=fw h1
  cases nN h2
  exact h kV doc pm an cdv ct a b
theorem uT(F:k_ K x qual st f fd)(h:∀kV doc pm an cdv ct a b c,bindArgs (Al x qual st kV doc pm an cdv ct) ⟨[a,b,c],[]⟩=pure [(p1,a),(p2,b),(p3,c)]):Binds K fd [p1,p2,p3] []:=
 F.binds fun kV doc pm an cdv ct us hl=>by
  obtain⟨a,r1,rfl,h1⟩:=fw hl
  obtain⟨b,r2,rfl,h2⟩:=fw h1
  obtain⟨c,r3,rfl,h3⟩:=fw h2
  cases nN h3
  exact h kV doc pm an cdv ct a b c
theorem FD(F:k_ K x qual st f fd)(h:∀kV doc pm an cdv ct a b c d,bindArgs (Al x qual st kV doc pm an cdv ct) ⟨[a,b,c,d],[]⟩=pure [(p1,a),(p2,b),(p3,c),(p4,d)]):Binds K fd [p1,p2,p3,p4] []:=
 F.binds fun kV doc pm an cdv ct us hl=>by
  obtain⟨a,r1,rfl,h1⟩:=fw hl
  obtain⟨b,r2,rfl,h2⟩:=fw h1
  obtain⟨c,r3,rfl,h3⟩:=fw h2
  obtain⟨d,r4,rfl,h4⟩:=fw h3
  cases nN h4
  exact h kV doc pm an cdv ct a b c d
end
end L3
namespace L3
open PySem L2
open PySem.Spec hiding items?
open PyProof.Rows hiding St
section
variable {X:Cx}
end
end L3
namespace Mx
def S:Nat→(Nat→Int)→Int
 |0,_=>0
 |n+1,f=>S n f+f n
theorem bT{n:Nat}{f g:Nat→Int}(h:∀i,i<n→f i=g i):S n f=S n g:=by
 induction n with
 |zero=>rfl
 |succ n ih=>unfold S;rw[ih fun i hi=>h i (by omega),h n (by omega)]
theorem pB{n:Nat}{f:Nat→Int}(h:∀i,i<n→f i=0):S n f=0:=by
 induction n with
 |zero=>rfl
 |succ n ih=>unfold S;rw[ih fun i hi=>h i (by omega),h n (by omega)];rfl
theorem lI(n:Nat)(f g:Nat→Int):S n (fun i=>f i+g i)=S n f+S n g:=by
 induction n with
 |zero=>rfl
 |succ n ih=>unfold S;rw[ih];dsimp only;omega
theorem nF(n:Nat)(c:Int)(f:Nat→Int):S n (fun i=>c*f i)=c*S n f:=by
 induction n with
 |zero=>unfold S;rw[Int.mul_zero]
 |succ n ih=>unfold S;rw[ih,Int.mul_add]
theorem xp(n:Nat)(c:Int)(f:Nat→Int):S n (fun i=>f i*c)=S n f*c:=by
 induction n with
 |zero=>unfold S;rw[Int.zero_mul]
 |succ n ih=>unfold S;rw[ih,Int.add_mul]
theorem Ao(n:Nat)(f:Nat→Int):S n (fun i=> -f i)= -S n f:=by
 induction n with
 |zero=>rfl
 |succ n ih=>unfold S;rw[ih];dsimp only;omega
theorem yo(m n:Nat)(f:Nat→Nat→Int):S m (fun i=>S n fun j=>f i j)=S n fun j=>S m fun i=>f i j:=by
 induction m with
 |zero=>exact(pB (n:=n) (fun i _=>rfl)).symm
 |succ m ih=>
  have:S n (fun j=>S (m+1) fun i=>f i j)=S n fun j=>(S m fun i=>f i j)+f m j:=bT fun j _=>rfl
  rw[this,lI,←ih]
  rfl
theorem nQ{n:Nat}{k:Nat}(hk:k<n){f:Nat→Int}(h:∀i,i<n→i≠k→f i=0):S n f=f k:=by
 induction n with
 |zero=>omega
 |succ n ih=>
  unfold S
  by_cases e:k=n
  · subst e
    rw[pB fun i hi=>h i (by omega) (by omega),Int.zero_add]
  · rw[ih (by omega) fun i hi hn=>h i (by omega) hn,h n (by omega) (by omega),Int.add_zero]
def dl(i j:Nat):Int:=if i=j then 1 else 0
theorem eQ(i:Nat):dl i i=1:=if_pos rfl
theorem e_{i j:Nat}(h:i≠j):dl i j=0:=if_neg h
theorem pS{n k:Nat}(hk:k<n)(f:Nat→Int):S n (fun i=>dl k i*f i)=f k:=by
 rw[nQ hk (fun i _ h=>by rw[e_ (Ne.symm h),Int.zero_mul]),eQ,Int.one_mul]
theorem tR{n k:Nat}(hk:k<n)(f:Nat→Int):S n (fun i=>f i*dl i k)=f k:=by
 rw[nQ hk (fun i _ h=>by rw[e_ h,Int.mul_zero]),eQ,Int.mul_one]
abbrev Row:=List Int
abbrev Rows:=List (List Int)
def g(A:Rows)(i j:Nat):Int:=(A.getD i []).getD j 0
structure bK(m n:Nat)(A:Rows):Prop where
 len:A.length=m
 j5:∀r∈A,r.length=n
theorem bJ{α:Type}{l:List α}{i:Nat}{d:α}(h:i<l.length):l.getD i d=l[i]:=by
 rw[List.getD_eq_getElem?_getD,List.getElem?_eq_getElem h];rfl
theorem iM{α:Type}{l:List α}{i:Nat}{d:α}(h:l.length≤i):l.getD i d=d:=by
 rw[List.getD_eq_getElem?_getD,List.getElem?_eq_none h];rfl
theorem A_{a b:Row}{n:Nat}(ha:a.length=n)(hb:b.length=n)(h:∀j,j<n→a.getD j 0=b.getD j 0):a=b:=by
 refine List.ext_getElem (by omega) fun i h1 h2=>?_
 have:=h i (by omega)
 rwa [bJ h1,bJ h2]at this
theorem bK.row{m n:Nat}{A:Rows}(h:bK m n A){i:Nat}(hi:i<m):(A.getD i []).length=n:=by
 have hl:=h.len
 rw[bJ (by omega)]
 exact h.j5 _ (List.getElem_mem _)
theorem bK.ext{m n:Nat}{A B:Rows}(ha:bK m n A)(hb:bK m n B)(h:∀i j,i<m→j<n→g A i j=g B i j):A=B:=by
 have h1:=ha.len
 have h2:=hb.len
 refine List.ext_getElem (by omega) fun i hi hj=>?_
 have e1:=ha.row (i:=i) (by omega)
 have e2:=hb.row (i:=i) (by omega)
 have:=A_ e1 e2 fun j hj=>h i j (by omega) hj
 rwa [bJ hi,bJ hj]at this
def dh(r:Row)(t:Int)(s:Row):Row:=List.zipWith (fun a b=>a+t*b) r s
theorem md{r s:Row}{t:Int}(h:r.length=s.length):(dh r t s).length=r.length:=by unfold dh;simp[h]
theorem nB{r s:Row}{t:Int}(h:r.length=s.length)(j:Nat):(dh r t s).getD j 0=r.getD j 0+t*s.getD j 0:=by
 unfold dh
 by_cases hj:j<r.length
 · rw[bJ (by simp;omega),bJ hj,bJ (by omega)];simp
 · rw[iM (by simp;omega),iM (by omega),iM (by omega)];simp
theorem et(n j:Nat):(List.replicate n (0:Int)).getD j 0=0:=by
 by_cases h:j<n
 · rw[bJ (by simpa using h)];simp
 · rw[iM (by simp;omega)]
def ip(n i:Nat):Row:=(List.range n).map fun k=>dl k i
def units(n:Nat):Rows:=(List.range n).map fun i=>ip n i
theorem range_getD{α:Type}{f:Nat→α}{n i:Nat}{d:α}(h:i<n):((List.range n).map f).getD i d=f i:=by
 rw[bJ (by simpa using h)];simp
theorem mm(n:Nat):bK n n (units n):=⟨by simp[units],fun r hr=>by unfold units at hr;obtain⟨i,_,rfl⟩:=List.mem_map.mp hr;simp[ip]⟩
theorem ia{n i j:Nat}(hi:i<n)(hj:j<n):g (units n) i j=dl i j:=by
 unfold g units ip
 rw[range_getD hi,range_getD hj]
 unfold dl
 by_cases h:i=j
 · subst h;rfl
 · rw[if_neg (Ne.symm h),if_neg h]
def qc(A:Rows)(j:Nat):Row:=A.map fun r=>r.getD j 0
def Ap(A:Rows)(n:Nat):Rows:=(List.range n).map fun j=>qc A j
def CO:Row→Row→Int
 |a::as,b::bs=>a*b+CO as bs
 |_,_=>0
end Mx
namespace Mx
theorem uY(i j:Nat):dl i j=dl j i:=by
 unfold dl
 by_cases h:i=j
 · rw[if_pos h,if_pos h.symm]
 · rw[if_neg h,if_neg (Ne.symm h)]
def sw(i j k:Nat):Nat:=if k=i then j else if k=j then i else k
theorem Gk{n i j:Nat}(hi:i<n)(hj:j<n)(hij:i≠j)(f:Nat→Int):S n (fun k=>f (sw i j k))=S n f:=by
 have:S n (fun k=>f (sw i j k))=S n fun k=>f k+(f j-f i)*dl k i+(f i-f j)*dl k j:=bT fun k _=>by
  unfold sw
  by_cases h1:k=i
  · subst h1;rw[if_pos rfl,eQ,e_ hij];omega
  · rw[if_neg h1,e_ h1]
    by_cases h2:k=j
    · subst h2;rw[if_pos rfl,eQ];omega
    · rw[if_neg h2,e_ h2];omega
 rw[this,lI,lI,tR (f:=fun _=>f j-f i) hi,tR (f:=fun _=>f i-f j) hj]
 omega
theorem kR{A:Rows}{i:Nat}{r:Row}(hi:i<A.length)(a k:Nat):g (A.set i r) a k=if a=i then r.getD k 0 else g A a k:=by
 have e:(A.set i r).getD a []=if a=i then r else A.getD a []:=by
  rw[List.getD_eq_getElem?_getD,List.getD_eq_getElem?_getD]
  by_cases h:a=i
  · subst h
    rw[if_pos rfl,List.getElem?_set_self hi];rfl
  · rw[if_neg h,List.getElem?_set_ne (Ne.symm h)]
 unfold g
 rw[e]
 by_cases h:a=i
 · rw[if_pos h,if_pos h]
 · rw[if_neg h,if_neg h]
theorem t_{m n i:Nat}{A:Rows}{r:Row}(h:bK m n A)(hr:r.length=n):bK m n (A.set i r):=⟨by rw[List.length_set];exact h.len,fun q hq=>by
 rcases List.mem_or_eq_of_mem_set hq with z|rfl
 · exact h.j5 q z
 · exact hr⟩
end Mx
namespace Mx
abbrev Fn:=Nat→Nat→Int
def sk(j c:Nat):Nat:=if c<j then c else c+1
def sg(j:Nat):Int:=if j%2=0 then 1 else-1
def D:Nat→Fn→Int
 |0,_=>1
 |n+1,M=>S (n+1) fun j=>sg j*M 0 j*D n fun r c=>M (r+1) (sk j c)
def upd(M:Fn)(i:Nat)(x:Nat→Int):Fn:=fun r c=>if r=i then x c else M r c
theorem aD{M:Fn}{i r:Nat}{x:Nat→Int}(h:r≠i)(c:Nat):upd M i x r c=M r c:=if_neg h
def un(j c:Nat):Nat:=if c<j then c else c-1
def tr(M:Fn):Fn:=fun r c=>M c r
end Mx
namespace Mx
def gx(R:Fn)(p:Nat)(x:Nat→Int)(j:Nat):Int:=D (p+1) fun r c=>if r<p then R r (if c<p then c else j)else x (if c<p then c else j)
def cl(p j1 j2 c:Nat):Nat:=if c<p then c else if c=p then j1 else j2
end Mx
namespace Mx
end Mx
namespace Mx
def lam(G:Fn)(i j:Nat):Int:=gx G j (G i) j
def Gg(A:Rows):Fn:=fun i j=>CO (A.getD i []) (A.getD j [])
end Mx
namespace Mx
def E4(G:Fn)(i:Nat):Row:=(List.range (i+1)).map fun j=>lam G i j
def CV(G:Fn)(n:Nat):Rows:=(List.range n).map (E4 G)
end Mx
namespace Mx
def RA(A:Rows)(N:Nat):Fn:=fun i j=>if j<N then Gg A i j else(A.getD i []).getD (j-N) 0
def ev(A:Rows)(N i k c:Nat):Int:=gx (RA A N) k (RA A N i) (N+c)
theorem vN(n:Nat)(a b:Int)(f g:Nat→Int):S n (fun c=>a*f c-b*g c)=a*S n f-b*S n g:=by
 induction n with
 |zero=>show(0:Int)=a*0-b*0;omega
 |succ n ih=>
  show S n (fun c=>a*f c-b*g c)+(a*f n-b*g n)=a*(S n f+f n)-b*(S n g+g n)
  rw[ih,Int.mul_add,Int.mul_add];omega
section
variable {A:Rows}{N w:Nat}
end
end Mx
namespace Mx
end Mx
namespace Mx
def GK(M:Fn)(k j:Nat)(q:Int):Fn:=fun a b=>if a=k then M a b-q*M j b else M a b
def GR(M:Fn)(k j:Nat)(q:Int):Fn:=fun a b=>if b=k then M a b-q*M a j else M a b
def tk(G:Fn)(k j:Nat)(q:Int):Fn:=GR (GK G k j q) k j q
end Mx
namespace Mx
section
variable {G:Fn}{t:Nat}(sym:∀i j,G i j=G j i)
include sym
end
end Mx
namespace Mx
section
variable {A:Rows}{N w:Nat}
theorem cg(hA:bK N w A){i:Nat}(hi:i<N):(A.getD i []).length=w:=hA.j5 _ (by have:=hA.len;rw[bJ (by omega)];exact List.getElem_mem _)
end
end Mx
namespace Mx
def bc(A:Rows)(k:Nat)(q:Int)(j:Nat):Rows:=A.set k (dh (A.getD k []) (-q) (A.getD j []))
def bp(A:Rows)(k o:Nat):Rows:=(A.set k (A.getD o [])).set o (A.getD k [])
theorem iL{A:Rows}{k i:Nat}{r:Row}(hk:k<A.length):(A.set k r).getD i []=if i=k then r else A.getD i []:=by
 rw[List.getD_eq_getElem?_getD,List.getElem?_set]
 by_cases h:k=i
 · rw[if_pos h,if_pos (by omega),if_pos h.symm];rfl
 · rw[if_neg h,if_neg (Ne.symm h),List.getD_eq_getElem?_getD]
theorem wY{A:Rows}{k j:Nat}{q:Int}:(bc A k q j).length=A.length:=by unfold bc;rw[List.length_set]
theorem oO{A:Rows}{N w k j:Nat}{q:Int}(hA:bK N w A)(hk:k<N)(hj:j<N):bK N w (bc A k q j):=by
 refine⟨wY.trans hA.len,fun r hr=>?_⟩
 unfold bc at hr
 rcases List.mem_or_eq_of_mem_set hr with h|rfl
 · exact hA.j5 r h
 · rw[md (by rw[cg hA hk,cg hA hj]),cg hA hk]
end Mx
namespace Mx
structure Tn(A0 A U C:Rows)(N w:Nat):Prop where
 isA:bK N w A
 d6:bK N N U
 eL:bK N N C
 ua:∀i c,i<N→c<w→g A i c=S N fun k=>g U i k*g A0 k c
 ub:∀i j,i<N→j<N→S N (fun k=>g U i k*g C j k)=dl i j
 bu:∀i j,i<N→j<N→S N (fun k=>g C k i*g U k j)=dl i j
theorem cx{A:Rows}{N w k j:Nat}{q:Int}(hA:bK N w A)(hk:k<N)(hj:j<N)(i c:Nat):g (bc A k q j) i c=if i=k then g A k c-q*g A j c else g A i c:=by
 unfold g bc
 have hl:=hA.len
 rw[iL (by omega)]
 by_cases h:i=k
 · rw[if_pos h,if_pos h,nB (by rw[cg hA hk,cg hA hj]),Int.neg_mul];omega
 · rw[if_neg h,if_neg h]
theorem pe(n:Nat)(a b:Int)(f h:Nat→Int):S n (fun c=>a*f c+b*h c)=a*S n f+b*S n h:=by
 rw[lI,nF,nF]
theorem Tn.take{A0 A U C:Rows}{N w k j:Nat}{q:Int}(T:Tn A0 A U C N w)(hk:k<N)(hj:j<N)(hkj:j≠k):Tn A0 (bc A k q j) (bc U k q j) (bc C j (-q) k) N w where
 isA:=oO T.isA hk hj
 d6:=oO T.d6 hk hj
 eL:=oO T.eL hj hk
 ua:=fun i c hi hc=>by
  rw[cx T.isA hk hj]
  have e:S N (fun m=>g (bc U k q j) i m*g A0 m c)=S N fun m=>(if i=k then g U k m-q*g U j m else g U i m)*g A0 m c:=bT fun m _=>by rw[cx T.d6 hk hj]
  rw[e]
  by_cases h:i=k
  · simp only[if_pos h]
    rw[T.ua k c hk hc,T.ua j c hj hc]
    have e2:S N (fun m=>(g U k m-q*g U j m)*g A0 m c)=S N fun m=>1*(g U k m*g A0 m c)-q*(g U j m*g A0 m c):=bT fun m _=>by grind
    rw[e2,vN];omega
  · simp only[if_neg h]
    exact T.ua i c hi hc
 ub:=fun i l hi hl=>by
  have e:S N (fun m=>g (bc U k q j) i m*g (bc C j (-q) k) l m)=S N fun m=>(if i=k then g U k m-q*g U j m else g U i m)*(if l=j then g C j m- -q*g C k m else g C l m):=bT fun m _=>by rw[cx T.d6 hk hj,cx T.eL hj hk]
  rw[e]
  have djk:dl j k=0:=e_ hkj
  by_cases h:i=k
  · by_cases h2:l=j
    · simp only[if_pos h,if_pos h2]
      have e2:S N (fun m=>(g U k m-q*g U j m)*(g C j m- -q*g C k m))=S N fun m=>1*(1*(g U k m*g C j m)+q*(g U k m*g C k m))-q*(1*(g U j m*g C j m)+q*(g U j m*g C k m)):=bT fun m _=>by grind
      rw[e2,vN,pe,pe,T.ub k j hk hj,T.ub k k hk hk,T.ub j j hj hj,T.ub j k hj hk,h,h2,eQ,eQ,djk,uY k j,djk]
      omega
    · simp only[if_pos h,if_neg h2]
      have e2:S N (fun m=>(g U k m-q*g U j m)*g C l m)=S N fun m=>1*(g U k m*g C l m)-q*(g U j m*g C l m):=bT fun m _=>by grind
      rw[e2,vN,T.ub k l hk hl,T.ub j l hj hl,h,e_ (Ne.symm h2)]
      omega
  · by_cases h2:l=j
    · simp only[if_neg h,if_pos h2]
      have e2:S N (fun m=>g U i m*(g C j m- -q*g C k m))=S N fun m=>1*(g U i m*g C j m)+q*(g U i m*g C k m):=bT fun m _=>by grind
      rw[e2,pe,T.ub i j hi hj,T.ub i k hi hk,h2,e_ h]
      omega
    · simp only[if_neg h,if_neg h2]
      exact T.ub i l hi hl
 bu:=fun i l hi hl=>by
  have e:S N (fun m=>g (bc C j (-q) k) m i*g (bc U k q j) m l)=S N fun m=>g C m i*g U m l+((q*(g C k i*g U j l))*dl m j+(-(q*(g C k i*g U j l)))*dl m k):=bT fun m _=>by
   rw[cx T.d6 hk hj,cx T.eL hj hk]
   by_cases h1:m=j
   · have h2:m≠k:=by omega
     rw[if_pos h1,if_neg h2,h1,eQ,e_ hkj];grind
   · rw[if_neg h1,e_ h1]
     by_cases h2:m=k
     · rw[if_pos h2,h2,eQ];grind
     · rw[if_neg h2,e_ h2];grind
  rw[e,lI,pe,T.bu i l hi hl]
  have e1:S N (fun c=>dl c j)=1:=by
   rw[nQ hj fun i _ h=>e_ h,eQ]
  have e2:S N (fun c=>dl c k)=1:=by
   rw[nQ hk fun i _ h=>e_ h,eQ]
  rw[e1,e2];omega
end Mx
namespace Mx
theorem rW{A:Rows}{k o i:Nat}(hk:k<A.length)(ho:o<A.length):(bp A k o).getD i []=A.getD (sw k o i) []:=by
 unfold bp
 rw[iL (by rw[List.length_set];exact ho),iL hk]
 unfold sw
 by_cases h1:i=k
 · rw[if_pos h1,if_pos h1]
   by_cases h2:i=o
   · rw[if_pos h2,←h1,←h2]
   · rw[if_neg h2]
 · rw[if_neg h1,if_neg h1]
   by_cases h2:i=o
   · rw[if_pos h2,if_pos h2]
   · rw[if_neg h2,if_neg h2]
theorem lO{A:Rows}{N w k o:Nat}(hA:bK N w A)(hk:k<N)(ho:o<N):bK N w (bp A k o):=by
 refine⟨by unfold bp;rw[List.length_set,List.length_set];exact hA.len,fun r hr=>?_⟩
 unfold bp at hr
 rcases List.mem_or_eq_of_mem_set hr with h|rfl
 · rcases List.mem_or_eq_of_mem_set h with h|rfl
   · exact hA.j5 r h
   · exact cg hA ho
 · exact cg hA hk
theorem eP{A:Rows}{N w k o:Nat}(hA:bK N w A)(hk:k<N)(ho:o<N)(i c:Nat):g (bp A k o) i c=g A (sw k o i) c:=by
 unfold g
 rw[rW (by have:=hA.len;omega) (by have:=hA.len;omega)]
theorem g4{k o N i:Nat}(hk:k<N)(ho:o<N)(hi:i<N):sw k o i<N:=by unfold sw;split<;>(try split)<;>assumption
theorem o9(k o x:Nat):sw k o (sw k o x)=x:=by
 unfold sw
 by_cases h1:x=k
 · subst h1
   rw[if_pos rfl]
   by_cases h2:o=x
   · rw[if_pos h2];exact h2
   · rw[if_neg h2,if_pos rfl]
 · rw[if_neg h1]
   by_cases h2:x=o
   · subst h2;rw[if_pos rfl,if_pos rfl]
   · rw[if_neg h2,if_neg h1,if_neg h2]
theorem Ex{k o a b:Nat}:dl (sw k o a) (sw k o b)=dl a b:=by
 by_cases h:a=b
 · rw[h,eQ,eQ]
 · rw[e_ h,e_ fun z=>h (by rw[←o9 k o a,←o9 k o b,z])]
theorem AQ(k x:Nat):sw k k x=x:=by
 unfold sw
 by_cases h:x=k
 · rw[if_pos h,h]
 · rw[if_neg h,if_neg h]
theorem EH{n i j:Nat}(hi:i<n)(hj:j<n)(f:Nat→Int):S n (fun k=>f (sw i j k))=S n f:=by
 by_cases h:i=j
 · subst h;exact bT fun k _=>by rw[AQ]
 · exact Gk hi hj h f
theorem Tn.vD{A0 A U C:Rows}{N w k o:Nat}(T:Tn A0 A U C N w)(hk:k<N)(ho:o<N):Tn A0 (bp A k o) (bp U k o) (bp C k o) N w where
 isA:=lO T.isA hk ho
 d6:=lO T.d6 hk ho
 eL:=lO T.eL hk ho
 ua:=fun i c hi hc=>by
  rw[eP T.isA hk ho,T.ua _ c (g4 hk ho hi) hc]
  exact bT fun m _=>by rw[eP T.d6 hk ho]
 ub:=fun i j hi hj=>by
  rw[←Ex (k:=k) (o:=o),←T.ub _ _ (g4 hk ho hi) (g4 hk ho hj)]
  exact bT fun m _=>by rw[eP T.d6 hk ho,eP T.eL hk ho]
 bu:=fun i j hi hj=>by
  rw[←T.bu i j hi hj,←EH hk ho fun m=>g C m i*g U m j]
  exact bT fun m _=>by rw[eP T.d6 hk ho,eP T.eL hk ho]
def fj(A:Rows)(k:Nat):Rows:=A.set k ((A.getD k []).map fun x=> -x)
theorem r_{A:Rows}{N w k:Nat}(hA:bK N w A)(hk:k<N):bK N w (fj A k):=by
 refine⟨by unfold fj;rw[List.length_set];exact hA.len,fun r hr=>?_⟩
 unfold fj at hr
 rcases List.mem_or_eq_of_mem_set hr with h|rfl
 · exact hA.j5 r h
 · rw[List.length_map];exact cg hA hk
theorem y6(r:Row)(c:Nat):(r.map fun x=> -x).getD c 0= -r.getD c 0:=by
 rw[List.getD_eq_getElem?_getD,List.getD_eq_getElem?_getD,List.getElem?_map]
 cases r[c]?<;>rfl
theorem gJ{A:Rows}{N w k:Nat}(hA:bK N w A)(hk:k<N)(i c:Nat):g (fj A k) i c=if i=k then-g A k c else g A i c:=by
 unfold g fj
 rw[iL (by have:=hA.len;omega)]
 by_cases h:i=k
 · rw[if_pos h,if_pos h,y6]
 · rw[if_neg h,if_neg h]
theorem Tn.neg{A0 A U C:Rows}{N w k:Nat}(T:Tn A0 A U C N w)(hk:k<N):Tn A0 (fj A k) (fj U k) (fj C k) N w where
 isA:=r_ T.isA hk
 d6:=r_ T.d6 hk
 eL:=r_ T.eL hk
 ua:=fun i c hi hc=>by
  rw[gJ T.isA hk]
  by_cases h:i=k
  · rw[if_pos h,T.ua k c hk hc,←Ao]
    exact bT fun m _=>by rw[gJ T.d6 hk,if_pos h,Int.neg_mul]
  · rw[if_neg h,T.ua i c hi hc]
    exact bT fun m _=>by rw[gJ T.d6 hk,if_neg h]
 ub:=fun i j hi hj=>by
  have e:S N (fun m=>g (fj U k) i m*g (fj C k) j m)=S N fun m=>(if i=k then-1 else 1)*(if j=k then-1 else 1)*(g U i m*g C j m):=bT fun m _=>by
   rw[gJ T.d6 hk,gJ T.eL hk]
   by_cases h1:i=k<;>by_cases h2:j=k<;>simp only[h1,h2,if_true,if_false]<;>grind
  rw[e,nF,T.ub i j hi hj]
  by_cases h1:i=k
  · by_cases h2:j=k
    · simp[h1,h2]
    · rw[e_ (by omega)];simp
  · by_cases h2:j=k
    · rw[e_ (by omega)];simp
    · simp[h1,h2]
 bu:=fun i j hi hj=>by
  rw[←T.bu i j hi hj]
  exact bT fun m _=>by
   rw[gJ T.d6 hk,gJ T.eL hk]
   by_cases h:m=k
   · subst h;rw[if_pos rfl,if_pos rfl];grind
   · rw[if_neg h,if_neg h]
structure d_(A:Rows)(N top p:Nat)(L:List Nat):Prop where
 mem:∀k,k∈L↔top≤k∧k<N∧g A k p≠0
 ord:L.Pairwise fun i j=>(g A i p).natAbs<(g A j p).natAbs∨((g A i p).natAbs=(g A j p).natAbs∧i<j)
theorem pA{f:Nat→Nat}:∀ {l m:List Nat},(∀k,k∈l↔k∈m)→l.Pairwise (fun i j=>f i<f j∨(f i=f j∧i<j))→m.Pairwise (fun i j=>f i<f j∨(f i=f j∧i<j))→l=m
 | [],[],_,_,_=>rfl
 | [],b::m,h,_,_=>by have:=(h b).mpr (List.mem_cons_self ..);simp at this
 |a::l,[],h,_,_=>by have:=(h a).mp (List.mem_cons_self ..);simp at this
 |a::l,b::m,h,h1,h2=>by
  obtain⟨p1,q1⟩:=List.pairwise_cons.mp h1
  obtain⟨p2,q2⟩:=List.pairwise_cons.mp h2
  have e:a=b:=by
   rcases List.mem_cons.mp ((h a).mp (List.mem_cons_self ..))with z|z
   · exact z
   · rcases List.mem_cons.mp ((h b).mpr (List.mem_cons_self ..))with y|y
     · exact y.symm
     · have x1:=p1 b y
       have x2:=p2 a z
       omega
  subst e
  have na:a∉l:=fun z=>by have:=p1 a z;omega
  have nb:a∉m:=fun z=>by have:=p2 a z;omega
  rw[pA (l:=l) (m:=m) (fun k=>?_) q1 q2]
  have:=h k
  rw[List.mem_cons,List.mem_cons]at this
  constructor
  · intro z
    rcases this.mp (.inr z)with y|y
    · subst y;exact absurd z na
    · exact y
  · intro z
    rcases this.mpr (.inr z)with y|y
    · subst y;exact absurd z nb
    · exact y
theorem d_.unique{A:Rows}{N top p:Nat}{L M:List Nat}(h:d_ A N top p L)(h':d_ A N top p M):L=M:=
 pA (f:=fun i=>(g A i p).natAbs) (fun k=>(h.mem k).trans (h'.mem k).symm) h.ord h'.ord
structure B3 where
 A:Rows
 U:Rows
 C:Rows
def qn(x y:Int):Int:=(2*x+y).fdiv (2*y)
def d9(b:B3)(p k j:Nat):B3:=⟨bc b.A k (qn (g b.A k p) (g b.A j p)) j,bc b.U k (qn (g b.A k p) (g b.A j p)) j,bc b.C j (-(qn (g b.A k p) (g b.A j p))) k⟩
def ko(N top p:Nat)(b c:B3):Prop:=∃(L:List Nat) (k j:Nat),d_ b.A N top p (L++[j,k])∧c=d9 b p k j
theorem ko.unique{N top p:Nat}{b c d:B3}(h:ko N top p b c)(h':ko N top p b d):c=d:=by
 obtain⟨L,k,j,h1,rfl⟩:=h
 obtain⟨M,k',j',h2,rfl⟩:=h'
 have e:=h1.unique h2
 have e2:=congrArg List.reverse e
 simp only[List.reverse_append,List.reverse_cons,List.reverse_nil,List.nil_append,List.cons_append,List.cons.injEq]at e2
 rw[e2.1,e2.2.1]
inductive cL(N top p:Nat):B3→B3→Prop
 |refl (b:B3):cL N top p b b
 |head {b c d:B3} (h:ko N top p b c) (t:cL N top p c d):cL N top p b d
theorem cL.tail{N top p:Nat}{b c d:B3}(h:cL N top p b c)(t:ko N top p c d):cL N top p b d:=by
 induction h with
 |refl b=>exact .head t (.refl _)
 |head x _ ih=>exact .head x (ih t)
def kl(N top p:Nat)(b:B3):Prop:=∃L,d_ b.A N top p L∧L.length≤1
theorem kl.stop{N top p:Nat}{b c:B3}(h:kl N top p b)(s:ko N top p b c):False:=by
 obtain⟨L,h1,h2⟩:=h
 obtain⟨M,k,j,h3,_⟩:=s
 rw[h1.unique h3]at h2
 simp at h2
theorem cL.unique{N top p:Nat}{b c d:B3}(h:cL N top p b c)(hc:kl N top p c)(h':cL N top p b d)(hd:kl N top p d):c=d:=by
 induction h with
 |refl b=>
  cases h' with
  |refl=>rfl
  |head s _=>exact(hc.stop s).elim
 |head s _ ih=>
  cases h' with
  |refl=>exact(hd.stop s).elim
  |head s' t=>
   rw[s'.unique s]at t
   exact ih hc t
def d5(X:Rows)(N top m:Nat):Prop:=∀i c,top≤i→i<N→(g X i c).natAbs≤m
def PR(f:Nat→Nat):Nat→Nat
 |0=>1
 |n+1=>PR f n*f n
theorem xl{f:Nat→Nat}(h:∀i,1≤f i):∀n,1≤PR f n
 |0=>Nat.le_refl _
 |n+1=>Nat.mul_le_mul (xl h n) (h n)
theorem sR{f f':Nat→Nat}:∀ {n:Nat},(∀i,i<n→f i=f' i)→PR f n=PR f' n
 |0,_=>rfl
 |n+1,h=>by
  show PR f n*f n=PR f' n*f' n
  rw[sR fun i hi=>h i (Nat.lt_succ_of_lt hi),h n (Nat.lt_succ_self n)]
theorem xN{f f':Nat→Nat}{k:Nat}:∀ {n:Nat},k<n→(∀i,i≠k→f i=f' i)→PR f n*f' k=PR f' n*f k
 |0,hk,_=>absurd hk (Nat.not_lt_zero _)
 |n+1,hk,h=>by
  show PR f n*f n*f' k=PR f' n*f' n*f k
  by_cases e:k=n
  · subst e
    rw[sR (n:=k) fun i hi=>h i (Nat.ne_of_lt hi),Nat.mul_assoc,Nat.mul_comm (f k),Nat.mul_assoc]
  · have:=xN (n:=n) (by omega) h
    rw[h n (Ne.symm e),Nat.mul_right_comm,this,Nat.mul_right_comm]
theorem zK{f:Nat→Nat}{m top:Nat}(hm:1≤m):∀ {n:Nat},(∀i,i<n→i<top→f i≤1)→(∀i,i<n→f i≤m)→PR f n≤m^(n-top)
 |0,_,_=>by simp[PR]
 |n+1,h1,h2=>by
  have ih:=zK hm (n:=n) (fun i hi=>h1 i (Nat.lt_succ_of_lt hi)) fun i hi=>h2 i (Nat.lt_succ_of_lt hi)
  show PR f n*f n≤_
  by_cases ht:n<top
  · have z:n+1-top=n-top:=by omega
    rw[z]
    exact Nat.le_trans (Nat.mul_le_mul ih (h1 n (Nat.lt_succ_self n) ht)) (by rw[Nat.mul_one];exact Nat.le_refl _)
  · have z:n+1-top=(n-top)+1:=by omega
    rw[z,Nat.pow_succ]
    exact Nat.mul_le_mul ih (h2 n (Nat.lt_succ_self n))
def wt(A:Rows)(top p i:Nat):Nat:=if top≤i∧g A i p≠0 then 2*(g A i p).natAbs else 1
theorem x5(A:Rows)(top p i:Nat):1≤wt A top p i:=by
 unfold wt
 split<;>omega
theorem nC{x y:Int}(hy:y≠0):2*(x-qn x y*y).natAbs≤y.natAbs:=by
 unfold qn
 have h1:=Int.mul_fdiv_add_fmod (2*x+y) (2*y)
 have h2:(2*x+y).fmod (2*y)=2*x+y-2*y*(2*x+y).fdiv (2*y):=by omega
 generalize(2*x+y).fdiv (2*y)=q at*
 have e:2*(x-q*y)=(2*x+y).fmod (2*y)-y:=by rw[h2];grind
 rcases Int.lt_or_gt_of_ne hy with h|h
 · have a0:=Int.neg_fmod_neg (2*x+y) (2*y)
   have a1:=Int.fmod_nonneg_of_pos (-(2*x+y)) (show 0< -(2*y) by omega)
   have a2:=Int.fmod_lt_of_pos (-(2*x+y)) (show 0< -(2*y) by omega)
   omega
 · have a1:=Int.fmod_nonneg_of_pos (2*x+y) (show 0<2*y by omega)
   have a2:=Int.fmod_lt_of_pos (2*x+y) (show 0<2*y by omega)
   omega
theorem AJ{x y:Int}(hy:y≠0)(hxy:y.natAbs≤x.natAbs):(1+(qn x y).natAbs)*(if x-qn x y*y≠0 then 2*(x-qn x y*y).natAbs else 1)≤2*x.natAbs:=by
 have h2:=nC (x:=x) hy
 generalize qn x y=q at*
 generalize hr:x-q*y=r at*
 have hx:x=q*y+r:=by omega
 have hq:(q*y).natAbs=q.natAbs*y.natAbs:=Int.natAbs_mul ..
 by_cases h0:r=0
 · rw[if_neg (fun z=>z h0),Nat.mul_one]
   subst h0
   have hxa:x.natAbs=q.natAbs*y.natAbs:=by rw[←hq,hx];simp
   have hy1:1≤y.natAbs:=by omega
   have hq1:1≤q.natAbs:=by
    rcases Nat.eq_zero_or_pos q.natAbs with z|z
    · rw[z,Nat.zero_mul]at hxa;omega
    · exact z
   have:q.natAbs≤q.natAbs*y.natAbs:=Nat.le_mul_of_pos_right _ hy1
   omega
 · rw[if_pos h0]
   have hr1:1≤r.natAbs:=by omega
   have key:(1+q.natAbs)*r.natAbs≤x.natAbs:=by
    rcases Nat.lt_or_ge q.natAbs 2 with hlt|hge
    · rcases Nat.lt_or_ge q.natAbs 1 with h|h
      · have z:q.natAbs=0:=by omega
        have zq:q=0:=by omega
        subst zq
        simp at hx
        subst hx
        simp
      · have z:q.natAbs=1:=by omega
        rw[z]at hq⊢
        have:(q*y).natAbs=y.natAbs:=by omega
        have h3:x.natAbs=y.natAbs+r.natAbs∨x.natAbs+r.natAbs=y.natAbs∨x.natAbs+y.natAbs=r.natAbs:=by omega
        omega
    · have h3:(q*y).natAbs≤x.natAbs+r.natAbs:=by omega
      rw[hq]at h3
      have h4:q.natAbs*(2*r.natAbs)≤q.natAbs*y.natAbs:=Nat.mul_le_mul_left _ h2
      have h5:2*r.natAbs≤q.natAbs*r.natAbs:=Nat.mul_le_mul_right _ hge
      have h6:q.natAbs*(2*r.natAbs)=q.natAbs*r.natAbs+q.natAbs*r.natAbs:=by rw[Nat.mul_left_comm];omega
      rw[Nat.add_mul,Nat.one_mul]
      omega
   have:(1+q.natAbs)*(2*r.natAbs)=2*((1+q.natAbs)*r.natAbs):=by rw[Nat.mul_left_comm]
   omega
structure kP(A0:Rows)(N w top p m:Nat)(b0 b:B3)(gr:Nat):Prop where
 tn:Tn A0 b.A b.U b.C N w
 up:∀i,i<top→b.A.getD i []=b0.A.getD i []∧b.U.getD i []=b0.U.getD i []∧b.C.getD i []=b0.C.getD i []
 lA:d5 b.A N top (m*gr)
 lU:d5 b.U N top (m*gr)
 lC:d5 b.C N top (m*gr)
 zs:∀i c,top≤i→i<N→c<p→g b.A i c=0
 Fy:gr*PR (wt b.A top p) N≤PR (wt b0.A top p) N
 pos:1≤gr
 Fe:b=b0∨∃j,top≤j∧j<N∧g b.A j p≠0
theorem oX{X:Rows}{N w top k j m gr:Nat}{q:Int}(hX:bK N w X)(hk:k<N)(hj:j<N)(hkt:top≤k)(hjt:top≤j)(h:d5 X N top (m*gr)):d5 (bc X k q j) N top (m*(gr*(1+q.natAbs))):=fun i c hi hN=>by
 rw[cx hX hk hj]
 have e:m*(gr*(1+q.natAbs))=m*gr+q.natAbs*(m*gr):=by rw[←Nat.mul_assoc,Nat.mul_add,Nat.mul_one,Nat.mul_comm (m*gr) q.natAbs]
 rw[e]
 by_cases hik:i=k
 · rw[if_pos hik]
   have h1:=h k c hkt hk
   have h2:=h j c hjt hj
   have h3:(q*g X j c).natAbs≤q.natAbs*(m*gr):=by rw[Int.natAbs_mul];exact Nat.mul_le_mul_left _ h2
   omega
 · rw[if_neg hik]
   have:=h i c hi hN
   omega
theorem ik{X:Rows}{k j i:Nat}{q:Int}(hk:k<X.length)(h:i≠k):(bc X k q j).getD i []=X.getD i []:=by
 unfold bc
 rw[iL hk,if_neg h]
theorem kP.step{A0:Rows}{N w top p m gr:Nat}{b0 b:B3}{L:List Nat}{k j:Nat}(G:kP A0 N w top p m b0 b gr)(hp:p<w)(hL:d_ b.A N top p (L++[j,k])):
 kP A0 N w top p m b0 (d9 b p k j) (gr*(1+(qn (g b.A k p) (g b.A j p)).natAbs))∧(g (d9 b p k j).A k p).natAbs<(g b.A k p).natAbs∧(∀i,i≠k→g (d9 b p k j).A i p=g b.A i p)∧top≤k∧k<N∧top≤j∧j<N∧j≠k∧g b.A j p≠0:=by
 obtain⟨hk1,hk2,hk3⟩:=(hL.mem k).mp (by simp)
 obtain⟨hj1,hj2,hj3⟩:=(hL.mem j).mp (by simp)
 have hord:=hL.ord
 rw[List.pairwise_append]at hord
 have o2:=(List.pairwise_cons.mp hord.2.1).1 k (by simp)
 have hjk:j≠k:=by intro z;subst z;omega
 have hle:(g b.A j p).natAbs≤(g b.A k p).natAbs:=by omega
 have gk:g (d9 b p k j).A k p=g b.A k p-qn (g b.A k p) (g b.A j p)*g b.A j p:=by
  show g (bc b.A k _ j) k p=_
  rw[cx G.tn.isA hk2 hj2,if_pos rfl]
 have gi:∀i,i≠k→g (d9 b p k j).A i p=g b.A i p:=fun i hi=>by
  show g (bc b.A k _ j) i p=_
  rw[cx G.tn.isA hk2 hj2,if_neg hi]
 have hrest:=nC (x:=g b.A k p) hj3
 have hgrow:=AJ (x:=g b.A k p) hj3 hle
 refine⟨⟨G.tn.take hk2 hj2 hjk,fun i hi=>?_,oX G.tn.isA hk2 hj2 hk1 hj1 G.lA,oX G.tn.d6 hk2 hj2 hk1 hj1 G.lU,?_,fun i c hi hN hc=>?_,?_,?_,.inr ⟨j,hj1,hj2,by rw[gi j hjk];exact hj3⟩⟩,?_,gi,hk1,hk2,hj1,hj2,hjk,hj3⟩
 · obtain⟨a1,a2,a3⟩:=G.up i hi
   refine⟨(ik (by rw[G.tn.isA.len];exact hk2) (by omega)).trans a1,(ik (by rw[G.tn.d6.len];exact hk2) (by omega)).trans a2,(ik (by rw[G.tn.eL.len];exact hj2) (by omega)).trans a3⟩
 · have:=oX (q:= -(qn (g b.A k p) (g b.A j p))) G.tn.eL hj2 hk2 hj1 hk1 G.lC
   rw[Int.natAbs_neg]at this
   exact this
 · show g (bc b.A k _ j) i c=0
   rw[cx G.tn.isA hk2 hj2]
   by_cases h:i=k
   · rw[if_pos h,G.zs k c hk1 hk2 hc,G.zs j c hj1 hj2 hc,Int.mul_zero];rfl
   · rw[if_neg h];exact G.zs i c hi hN hc
 · have e:=xN (f:=wt (d9 b p k j).A top p) (f':=wt b.A top p) (k:=k) hk2 fun i hi=>by unfold wt;rw[gi i hi]
   have w1:wt b.A top p k=2*(g b.A k p).natAbs:=by unfold wt;rw[if_pos ⟨hk1,hk3⟩]
   have w2:(1+(qn (g b.A k p) (g b.A j p)).natAbs)*wt (d9 b p k j).A top p k≤wt b.A top p k:=by
    rw[w1]
    unfold wt
    rw[gk]
    by_cases h0:g b.A k p-qn (g b.A k p) (g b.A j p)*g b.A j p=0
    · rw[if_neg (fun z=>z.2 h0)]
      rw[if_neg (fun z=>z h0)]at hgrow
      exact hgrow
    · rw[if_pos ⟨hk1,h0⟩]
      rw[if_pos h0]at hgrow
      exact hgrow
   have hw:0<wt b.A top p k:=x5 _ _ _ _
   refine Nat.le_of_mul_le_mul_right (c:=wt b.A top p k) ?_ hw
   have s1:gr*(1+(qn (g b.A k p) (g b.A j p)).natAbs)*PR (wt (d9 b p k j).A top p) N*wt b.A top p k=gr*PR (wt b.A top p) N*((1+(qn (g b.A k p) (g b.A j p)).natAbs)*wt (d9 b p k j).A top p k):=by
    rw[Nat.mul_assoc _ (PR _ N),e]
    simp only[Nat.mul_assoc,Nat.mul_left_comm]
   rw[s1]
   exact Nat.mul_le_mul G.Fy w2
 · exact Nat.mul_pos G.pos (by omega)
 · rw[gk];omega
end Mx
namespace Mx
theorem kP.low{A0:Rows}{N w top p e gr:Nat}{b0 b:B3}(G:kP A0 N w top p (2^e) b0 b gr)(h0:d5 b0.A N top (2^e)):2^e*gr≤2^((N-top+1)*(e+1)):=by
 have h1:gr≤PR (wt b0.A top p) N:=Nat.le_trans (Nat.le_mul_of_pos_right _ (xl (x5 _ _ _) N)) G.Fy
 have h2:PR (wt b0.A top p) N≤(2^(e+1))^(N-top):=zK Nat.one_le_two_pow (fun i _ ht=>by unfold wt;rw[if_neg (by omega)];exact Nat.le_refl _) fun i hi=>by
  unfold wt
  split
  · rename_i h
    have:=h0 i p h.1 hi
    rw[Nat.pow_succ];omega
  · exact Nat.one_le_two_pow
 refine Nat.le_trans (Nat.mul_le_mul_left _ (Nat.le_trans h1 h2)) ?_
 rw[←Nat.pow_mul,←Nat.pow_add]
 refine Nat.pow_le_pow_right (by decide) ?_
 have e1:(N-top+1)*(e+1)=(e+1)*(N-top)+(e+1):=by rw[Nat.add_mul,Nat.one_mul,Nat.mul_comm]
 rw[e1]
 omega
structure eB(A0:Rows)(N w:Nat)(b:B3)(top p:Nat)(ld:Nat→Nat)(e u:Nat):Prop where
 tn:Tn A0 b.A b.U b.C N w
 le:top≤N
 lo:d5 b.A N top (2^e)∧d5 b.U N top (2^e)∧d5 b.C N top (2^e)
 hi:∀i c,i<top→(g b.A i c).natAbs≤2^u∧(g b.U i c).natAbs≤2^u∧(g b.C i c).natAbs≤2^u
 zs:∀i c,top≤i→i<N→c<p→g b.A i c=0
 lead:∀i,i<top→ld i<p∧0<g b.A i (ld i)∧∀c,c<ld i→g b.A i c=0
 mono:∀i j,i<j→j<top→ld i<ld j
 red:∀i j,i<j→j<top→0≤g b.A i (ld j)∧g b.A i (ld j)<g b.A j (ld j)
theorem eB.mq{A0:Rows}{N w top p e u:Nat}{b:B3}{ld:Nat→Nat}(S:eB A0 N w b top p ld e u):kP A0 N w top p (2^e) b b 1:=
 ⟨S.tn,fun _ _=>⟨rfl,rfl,rfl⟩,by rw[Nat.mul_one];exact S.lo.1,by rw[Nat.mul_one];exact S.lo.2.1,by rw[Nat.mul_one];exact S.lo.2.2,S.zs,by rw[Nat.one_mul];exact Nat.le_refl _,Nat.le_refl _,.inl rfl⟩
theorem eB.skip{A0:Rows}{N w top p e u:Nat}{b:B3}{ld:Nat→Nat}(S:eB A0 N w b top p ld e u)(h:d_ b.A N top p []):eB A0 N w b top (p+1) ld e u:=
 ⟨S.tn,S.le,S.lo,S.hi,fun i c h1 h2 h3=>by
  by_cases hc:c=p
  · subst hc
    exact Classical.byContradiction fun z=>absurd ((h.mem i).mpr ⟨h1,h2,z⟩) (by simp)
  · exact S.zs i c h1 h2 (by omega),fun i hi=>⟨Nat.lt_succ_of_lt (S.lead i hi).1,(S.lead i hi).2⟩,S.mono,S.red⟩
def setB(b:B3)(p top r:Nat):B3:=
 if g (bp b.A top r) top p<0 then⟨fj (bp b.A top r) top,fj (bp b.U top r) top,fj (bp b.C top r) top⟩else⟨bp b.A top r,bp b.U top r,bp b.C top r⟩
theorem oY{X:Rows}{N w top r m:Nat}(hX:bK N w X)(ht:top<N)(hr:r<N)(hrt:top≤r)(h:d5 X N top m):d5 (bp X top r) N top m:=fun i c hi hN=>by
 rw[eP hX ht hr]
 refine h _ c ?_ (g4 ht hr hN)
 unfold sw
 split
 · exact hrt
 · split
   · exact Nat.le_refl _
   · exact hi
theorem sO{X:Rows}{N w top m:Nat}(hX:bK N w X)(ht:top<N)(h:d5 X N top m):d5 (fj X top) N top m:=fun i c hi hN=>by
 rw[gJ hX ht]
 split
 · rw[Int.natAbs_neg];exact h top c (Nat.le_refl _) ht
 · exact h i c hi hN
theorem oJ{X:Rows}{N w top r i:Nat}(hX:bK N w X)(ht:top<N)(hr:r<N)(hrt:top≤r)(hi:i<top):(bp X top r).getD i []=X.getD i []:=by
 rw[rW (by have:=hX.len;omega) (by have:=hX.len;omega)]
 unfold sw
 rw[if_neg (by omega),if_neg (by omega)]
theorem uf{X:Rows}{N w top i:Nat}(hX:bK N w X)(ht:top<N)(hi:i<top):(fj X top).getD i []=X.getD i []:=by
 unfold fj
 rw[iL (by have:=hX.len;omega),if_neg (by omega)]
structure kF(A0:Rows)(N w top p m:Nat)(b0 b:B3):Prop where
 tn:Tn A0 b.A b.U b.C N w
 up:∀i,i<top→b.A.getD i []=b0.A.getD i []∧b.U.getD i []=b0.U.getD i []∧b.C.getD i []=b0.C.getD i []
 lo:d5 b.A N top m∧d5 b.U N top m∧d5 b.C N top m
 zs:∀i c,top≤i→i<N→c<p→g b.A i c=0
 tp:0<g b.A top p
 z1:∀i,top<i→i<N→g b.A i p=0
theorem kP.set{A0:Rows}{N w top p m gr r:Nat}{b0 b:B3}(G:kP A0 N w top p m b0 b gr)(hL:d_ b.A N top p [r]):kF A0 N w top p (m*gr) b0 (setB b p top r)∧top≤r∧r<N:=by
 obtain⟨hr1,hr2,hr3⟩:=(hL.mem r).mp (by simp)
 have ht:top<N:=by omega
 have z:∀i,top≤i→i<N→i≠r→g b.A i p=0:=fun i h1 h2 h3=>Classical.byContradiction fun y=>h3 (by simpa using(hL.mem i).mpr ⟨h1,h2,y⟩)
 have swg:∀i c,g (bp b.A top r) i c=g b.A (sw top r i) c:=fun i c=>eP G.tn.isA ht hr2 i c
 have gt:g (bp b.A top r) top p=g b.A r p:=by rw[swg];unfold sw;rw[if_pos rfl]
 have T1:=G.tn.vD ht hr2
 have z1:∀i,top<i→i<N→g (bp b.A top r) i p=0:=fun i h1 h2=>by
  rw[swg]
  unfold sw
  rw[if_neg (by omega)]
  by_cases h:i=r
  · rw[if_pos h];exact z top (Nat.le_refl _) ht (by omega)
  · rw[if_neg h];exact z i (by omega) h2 h
 have zs:∀i c,top≤i→i<N→c<p→g (bp b.A top r) i c=0:=fun i c h1 h2 h3=>by
  rw[swg]
  refine G.zs _ c ?_ (g4 ht hr2 h2) h3
  unfold sw
  split
  · exact hr1
  · split
    · exact Nat.le_refl _
    · exact h1
 have up:∀i,i<top→(bp b.A top r).getD i []=b0.A.getD i []∧(bp b.U top r).getD i []=b0.U.getD i []∧(bp b.C top r).getD i []=b0.C.getD i []:=fun i hi=>by
  obtain⟨a1,a2,a3⟩:=G.up i hi
  exact⟨(oJ G.tn.isA ht hr2 hr1 hi).trans a1,(oJ G.tn.d6 ht hr2 hr1 hi).trans a2,(oJ G.tn.eL ht hr2 hr1 hi).trans a3⟩
 have lo:=And.intro (oY G.tn.isA ht hr2 hr1 G.lA) (And.intro (oY G.tn.d6 ht hr2 hr1 G.lU) (oY G.tn.eL ht hr2 hr1 G.lC))
 refine⟨?_,hr1,hr2⟩
 unfold setB
 by_cases hs:g (bp b.A top r) top p<0
 · rw[if_pos hs]
   refine⟨T1.neg ht,fun i hi=>?_,⟨sO T1.isA ht lo.1,sO T1.d6 ht lo.2.1,sO T1.eL ht lo.2.2⟩,fun i c h1 h2 h3=>?_,?_,fun i h1 h2=>?_⟩
   · obtain⟨a1,a2,a3⟩:=up i hi
     exact⟨(uf T1.isA ht hi).trans a1,(uf T1.d6 ht hi).trans a2,(uf T1.eL ht hi).trans a3⟩
   · show g (fj (bp b.A top r) top) i c=0
     rw[gJ T1.isA ht]
     split
     · rw[zs top c (Nat.le_refl _) ht h3];rfl
     · exact zs i c h1 h2 h3
   · show 0<g (fj (bp b.A top r) top) top p
     rw[gJ T1.isA ht,if_pos rfl];omega
   · show g (fj (bp b.A top r) top) i p=0
     rw[gJ T1.isA ht,if_neg (by omega)];exact z1 i h1 h2
 · rw[if_neg hs]
   exact⟨T1,up,lo,zs,by show 0<g (bp b.A top r) top p;rw[gt]at hs⊢;omega,z1⟩
def cF(p top:Nat):Nat→B3→B3
 |0,b=>b
 |k+1,b=>
  let c:=cF p top k b
  ⟨bc c.A k ((g c.A k p).fdiv (g c.A top p)) top,bc c.U k ((g c.A k p).fdiv (g c.A top p)) top,bc c.C top (-((g c.A k p).fdiv (g c.A top p))) k⟩
structure j6(A0:Rows)(N w top p e u:Nat)(b:B3)(k:Nat)(c:B3):Prop where
 tn:Tn A0 c.A c.U c.C N w
 rA:∀i,k≤i→c.A.getD i []=b.A.getD i []∧c.U.getD i []=b.U.getD i []
 rC:∀i,i≠top→c.C.getD i []=b.C.getD i []
 ah:∀i q,i<k→q<p→g c.A i q=g b.A i q
 rd:∀i,i<k→0≤g c.A i p∧g c.A i p<g c.A top p
 sz:∀i q,i<k→(g c.A i q).natAbs≤2^(u+e+1)∧(g c.U i q).natAbs≤2^(u+e+1)
 sC:∀q,(g c.C top q).natAbs≤2^e+k*2^(u+u)
theorem sy(a:Int){b:Int}(hb:0<b):(a.fdiv b).natAbs≤a.natAbs:=by
 have h1:=Int.mul_fdiv_add_fmod a b
 have h2:=Int.fmod_nonneg_of_pos a hb
 have h3:=Int.fmod_lt_of_pos a hb
 generalize a.fdiv b=q at*
 rcases Int.lt_trichotomy q 0 with h|h|h
 · have h4:0≤(b-1)*(-q-1):=Int.mul_nonneg (by omega) (by omega)
   have e:(b-1)*(-q-1)= -(b*q)-b+q+1:=by grind
   omega
 · subst h;simp
 · have:q≤b*q:=by
    have:0≤(b-1)*q:=Int.mul_nonneg (by omega) (by omega)
    grind
   omega
theorem uH{a b c:Nat}(h1:a≤2^c)(h2:b≤2^c):a+b≤2^(c+1):=by rw[Nat.pow_succ];omega
theorem j6.step{A0:Rows}{N w top p e u k:Nat}{b c:B3}(I:j6 A0 N w top p e u b k c)(hk:k<top)(ht:top<N)(hp:p<w)(htp:0<g b.A top p)(hz:∀q,q<p→g b.A top q=0)
 (hlo:∀q,(g b.A top q).natAbs≤2^e∧(g b.U top q).natAbs≤2^e) (hhi:∀i q,i<top→(g b.A i q).natAbs≤2^u∧(g b.U i q).natAbs≤2^u∧(g b.C i q).natAbs≤2^u):
 j6 A0 N w top p e u b (k+1) ⟨bc c.A k ((g c.A k p).fdiv (g c.A top p)) top,bc c.U k ((g c.A k p).fdiv (g c.A top p)) top,bc c.C top (-((g c.A k p).fdiv (g c.A top p))) k⟩:=by
 have hkN:k<N:=by omega
 have gA:∀i q,k≤i→g c.A i q=g b.A i q:=fun i q hi=>by unfold g;rw[(I.rA i hi).1]
 have gU:∀i q,k≤i→g c.U i q=g b.U i q:=fun i q hi=>by unfold g;rw[(I.rA i hi).2]
 have gC:∀i q,i≠top→g c.C i q=g b.C i q:=fun i q hi=>by unfold g;rw[I.rC i hi]
 have qe:((g c.A k p).fdiv (g c.A top p)).natAbs≤2^u:=by
  rw[gA k p (Nat.le_refl _),gA top p (by omega)]
  exact Nat.le_trans (sy _ htp) (hhi k p hk).1
 have hq:∀x:Int,x.natAbs≤2^e→((g c.A k p).fdiv (g c.A top p)*x).natAbs≤2^(u+e):=fun x hx=>by
  rw[Int.natAbs_mul,Nat.pow_add];exact Nat.mul_le_mul qe hx
 have le1:2^u≤2^(u+e):=Nat.pow_le_pow_right (by decide) (by omega)
 refine⟨I.tn.take hkN ht (by omega),fun i hi=>?_,fun i hi=>?_,fun i q hi hqp=>?_,fun i hi=>?_,fun i q hi=>?_,fun q=>?_⟩
 · exact⟨(ik (by rw[I.tn.isA.len];exact hkN) (by omega)).trans (I.rA i (by omega)).1,(ik (by rw[I.tn.d6.len];exact hkN) (by omega)).trans (I.rA i (by omega)).2⟩
 · exact(ik (by rw[I.tn.eL.len];exact ht) hi).trans (I.rC i hi)
 · show g (bc c.A k _ top) i q=_
   rw[cx I.tn.isA hkN ht]
   split
   · rename_i h
     rw[gA top q (by omega),hz q hqp,Int.mul_zero,gA k q (Nat.le_refl _),h];omega
   · exact I.ah i q (by omega) hqp
 · show 0≤g (bc c.A k _ top) i p∧g (bc c.A k _ top) i p<g (bc c.A k _ top) top p
   rw[cx I.tn.isA hkN ht,cx I.tn.isA hkN ht,if_neg (show¬top=k by omega)]
   split
   · have h1:=Int.mul_fdiv_add_fmod (g c.A k p) (g c.A top p)
     have htp':0<g c.A top p:=by rw[gA top p (by omega)];exact htp
     have h2:=Int.fmod_nonneg_of_pos (g c.A k p) htp'
     have h3:=Int.fmod_lt_of_pos (g c.A k p) htp'
     rw[Int.mul_comm]at h1
     omega
   · exact I.rd i (by omega)
 · show(g (bc c.A k _ top) i q).natAbs≤_∧(g (bc c.U k _ top) i q).natAbs≤_
   rw[cx I.tn.isA hkN ht,cx I.tn.d6 hkN ht]
   split
   · have a1:=hq (g c.A top q) (by rw[gA top q (by omega)];exact(hlo q).1)
     have a2:=hq (g c.U top q) (by rw[gU top q (by omega)];exact(hlo q).2)
     rw[gA k q (Nat.le_refl _),gU k q (Nat.le_refl _)]
     have b1:=(hhi k q hk).1
     have b2:=(hhi k q hk).2.1
     rw[Nat.pow_succ]
     omega
   · exact I.sz i q (by omega)
 · show(g (bc c.C top _ k) top q).natAbs≤_
   rw[cx I.tn.eL ht hkN,if_pos rfl,gC k q (by omega),Int.neg_mul]
   have a1:=I.sC q
   have a2:((g c.A k p).fdiv (g c.A top p)*g b.C k q).natAbs≤2^(u+u):=by
    rw[Int.natAbs_mul,Nat.pow_add];exact Nat.mul_le_mul qe (hhi k q hk).2.2
   rw[Nat.add_mul,Nat.one_mul]
   omega
theorem j6.start{A0:Rows}{N w top p e u:Nat}{b:B3}(T:Tn A0 b.A b.U b.C N w)(h:∀q,(g b.C top q).natAbs≤2^e):j6 A0 N w top p e u b 0 b:=
 ⟨T,fun _ _=>⟨rfl,rfl⟩,fun _ _=>rfl,fun _ _ h=>absurd h (Nat.not_lt_zero _),fun _ h=>absurd h (Nat.not_lt_zero _),fun _ _ h=>absurd h (Nat.not_lt_zero _),fun q=>by rw[Nat.zero_mul];exact h q⟩
theorem kF.next{A0:Rows}{N w top p e u e' u':Nat}{b0 b c:B3}{ld:Nat→Nat}(S:eB A0 N w b0 top p ld e u)(s:kF A0 N w top p (2^e') b0 b)(ht:top<N)(I:j6 A0 N w top p e' u b top c)(hN:N≤8)
 (h1:u+e'+1≤u') (h2:u+u+4≤u'):eB A0 N w c (top+1) (p+1) (fun i=>if i=top then p else ld i) e' u':=by
 have hup:∀i q,i<top→g b.A i q=g b0.A i q:=fun i q hi=>by unfold g;rw[(s.up i hi).1]
 have hA:∀i q,top≤i→g c.A i q=g b.A i q:=fun i q hi=>by unfold g;rw[(I.rA i hi).1]
 have hU:∀i q,top≤i→g c.U i q=g b.U i q:=fun i q hi=>by unfold g;rw[(I.rA i hi).2]
 have hC:∀i q,i≠top→g c.C i q=g b.C i q:=fun i q hi=>by unfold g;rw[I.rC i hi]
 have le:∀ {a x:Nat},a≤2^x→x≤u'→a≤2^u':=fun h hx=>Nat.le_trans h (Nat.pow_le_pow_right (by decide) hx)
 refine⟨I.tn,ht,⟨fun i q hi hN=>?_,fun i q hi hN=>?_,fun i q hi hN=>?_⟩,fun i q hi=>?_,fun i q hi hN hq=>?_,fun i hi=>?_,fun i j hij hj=>?_,fun i j hij hj=>?_⟩
 · rw[hA i q (by omega)];exact s.lo.1 i q (by omega) hN
 · rw[hU i q (by omega)];exact s.lo.2.1 i q (by omega) hN
 · rw[hC i q (by omega)];exact s.lo.2.2 i q (by omega) hN
 · by_cases h:i=top
   · subst h
     refine⟨?_,?_,?_⟩
     · rw[hA i q (Nat.le_refl _)];exact le (s.lo.1 i q (Nat.le_refl _) ht) (by omega)
     · rw[hU i q (Nat.le_refl _)];exact le (s.lo.2.1 i q (Nat.le_refl _) ht) (by omega)
     · have h3:=I.sC q
       have h4:i*2^(u+u)≤2^(u+u+3):=by rw[Nat.pow_add _ _ 3,Nat.mul_comm];exact Nat.mul_le_mul_left _ (by omega)
       have h5:2^(u+u+3)*2≤2^u':=by rw[←Nat.pow_succ];exact Nat.pow_le_pow_right (by decide) h2
       have h6:2^e'*2≤2^u':=by rw[←Nat.pow_succ];exact Nat.pow_le_pow_right (by decide) (by omega)
       omega
   · have hi':i<top:=by omega
     refine⟨le (I.sz i q hi').1 h1,le (I.sz i q hi').2 h1,?_⟩
     rw[hC i q h]
     have:g b.C i q=g b0.C i q:=by unfold g;rw[(s.up i hi').2.2]
     rw[this]
     exact le (S.hi i q hi').2.2 (by omega)
 · rw[hA i q (by omega)]
   by_cases h:q=p
   · rw[h];exact s.z1 i (by omega) hN
   · exact s.zs i q (by omega) hN (by omega)
 · by_cases h:i=top
   · subst h
     rw[if_pos rfl]
     refine⟨Nat.lt_succ_self p,?_,fun q hq=>?_⟩
     · rw[hA i p (Nat.le_refl _)];exact s.tp
     · rw[hA i q (Nat.le_refl _)];exact s.zs i q (Nat.le_refl _) ht hq
   · have hi':i<top:=by omega
     rw[if_neg h]
     obtain⟨a1,a2,a3⟩:=S.lead i hi'
     refine⟨Nat.lt_succ_of_lt a1,?_,fun q hq=>?_⟩
     · rw[I.ah i _ hi' a1,hup i _ hi'];exact a2
     · rw[I.ah i _ hi' (Nat.lt_trans hq a1),hup i _ hi'];exact a3 q hq
 · by_cases h:j=top
   · rw[if_pos h,if_neg (by omega)];exact(S.lead i (by omega)).1
   · rw[if_neg h,if_neg (by omega)];exact S.mono i j hij (by omega)
 · by_cases h:j=top
   · subst h
     rw[if_pos rfl]
     exact I.rd i hij
   · have hj':j<top:=by omega
     rw[if_neg h]
     have:=S.red i j hij hj'
     have hl:=(S.lead j hj').1
     rw[I.ah i _ (by omega) hl,I.ah j _ hj' hl,hup i _ (by omega),hup j _ hj']
     exact this
theorem Tn.start{A:Rows}{N w:Nat}(hA:bK N w A):Tn A A (units N) (units N) N w where
 isA:=hA
 d6:=mm N
 eL:=mm N
 ua:=fun i c hi hc=>by
  rw[←pS hi fun k=>g A k c]
  exact bT fun m hm=>by rw[ia hi hm]
 ub:=fun i j hi hj=>by
  rw[uY i j,←pS hi fun k=>dl j k]
  · exact bT fun m hm=>by rw[ia hi hm,ia hj hm]
 bu:=fun i j hi hj=>by
  rw[←tR hi fun k=>dl k j]
  exact bT fun m hm=>by rw[ia hm hi,ia hm hj,Int.mul_comm]
theorem eB.start{A:Rows}{N w e:Nat}(hA:bK N w A)(h:d5 A N 0 (2^e)):eB A N w ⟨A,units N,units N⟩ 0 0 (fun _=>0) e 0:=by
 have hu:d5 (units N) N 0 (2^e):=fun i c _ hi=>by
  by_cases hc:c<N
  · rw[ia hi hc]
    unfold dl
    split
    · exact Nat.one_le_two_pow
    · exact Nat.zero_le _
  · unfold g
    rw[iM (l:=(units N).getD i []) (by rw[cg (mm N) hi];omega)]
    exact Nat.zero_le _
 exact⟨Tn.start hA,Nat.zero_le _,⟨h,hu,hu⟩,fun _ _ h=>absurd h (Nat.not_lt_zero _),fun _ _ _ _ h=>absurd h (Nat.not_lt_zero _),fun _ h=>absurd h (Nat.not_lt_zero _),fun _ _ _ h=>absurd h (Nat.not_lt_zero _),fun _ _ _ h=>absurd h (Nat.not_lt_zero _)⟩
end Mx
namespace Mx
def SU(f:Nat→Nat):Nat→Nat
 |0=>0
 |n+1=>SU f n+f n
theorem zN{f f':Nat→Nat}:∀ {n:Nat},(∀i,i<n→f' i≤f i)→SU f' n≤SU f n
 |0,_=>Nat.le_refl _
 |n+1,h=>Nat.add_le_add (zN fun i hi=>h i (Nat.lt_succ_of_lt hi)) (h n (Nat.lt_succ_self n))
theorem wz{f f':Nat→Nat}{k:Nat}(hlt:f' k<f k):∀ {n:Nat},k<n→(∀i,i<n→f' i≤f i)→SU f' n<SU f n
 |0,hk,_=>absurd hk (Nat.not_lt_zero _)
 |n+1,hk,h=>by
  by_cases e:k=n
  · subst e
    exact Nat.add_lt_add_of_le_of_lt (zN fun i hi=>h i (Nat.lt_succ_of_lt hi)) hlt
  · exact Nat.add_lt_add_of_lt_of_le (wz hlt (by omega) fun i hi=>h i (Nat.lt_succ_of_lt hi)) (h n (Nat.lt_succ_self n))
def mu(A:Rows)(N p:Nat):Nat:=SU (fun i=>(g A i p).natAbs) N
inductive vi(N p:Nat):Nat→B3→Nat→B3→Prop
 |none {top:Nat} {b:B3} (h:d_ b.A N top p []):vi N p top b top b
 |one {top r:Nat} {b c:B3} (h:cL N top p b c) (l:d_ c.A N top p [r]):vi N p top b (top+1) (cF p top top (setB c p top r))
theorem vi.unique{N p t t1 t2:Nat}{b b1 b2:B3}(h:vi N p t b t1 b1)(h':vi N p t b t2 b2):t1=t2∧b1=b2:=by
 have no:∀ {c:B3} {r:Nat},d_ b.A N t p []→cL N t p b c→d_ c.A N t p [r]→False:=fun{c r} h g l=>by
  cases g with
  |refl=>have:=h.unique l;cases this
  |head s _=>exact kl.stop ⟨[],h,by simp⟩ s
 cases h with
 |none h=>
  cases h' with
  |none _=>exact⟨rfl,rfl⟩
  |one g l=>exact(no h g l).elim
 |one g l=>
  cases h' with
  |none h=>exact(no h g l).elim
  |one g' l'=>
   have e:=g.unique ⟨_,l,by simp⟩ g' ⟨_,l',by simp⟩
   subst e
   have e2:=l.unique l'
   cases e2
   exact⟨rfl,rfl⟩
inductive cE(A:Rows)(N:Nat):Nat→Nat→B3→Prop
 |start:cE A N 0 0 ⟨A,units N,units N⟩
 |next {p t t':Nat} {b b':B3} (h:cE A N p t b) (c:vi N p t b t' b'):cE A N (p+1) t' b'
theorem cE.unique{A:Rows}{N:Nat}:∀ {p t1 t2:Nat} {b1 b2:B3},cE A N p t1 b1→cE A N p t2 b2→t1=t2∧b1=b2
 |0,_,_,_,_,.start,.start=>⟨rfl,rfl⟩
 |p+1,_,_,_,_,.next h c,.next h' c'=>by
  obtain⟨rfl,rfl⟩:=cE.unique h h'
  exact c.unique c'
def Ez(N e0:Nat):Nat→Nat
 |0=>e0
 |t+1=>(N-t+1)*(Ez N e0 t+1)
def Vz(N e0:Nat):Nat→Nat
 |0=>0
 |t+1=>Vz N e0 t+Vz N e0 t+Ez N e0 (t+1)+5
end Mx
namespace Mx
def bt(X:Rows)(n w:Nat)(v:Nat→Int):Prop:=∃z:Nat→Int,∀c,c<w→v c=S n fun k=>z k*g X k c
theorem bt.row{X:Rows}{n w k:Nat}(hk:k<n):bt X n w (g X k):=⟨fun i=>dl k i,fun c _=>(pS hk fun i=>g X i c).symm⟩
theorem bt.sub{X:Rows}{n w:Nat}{u v:Nat→Int}(hu:bt X n w u)(hv:bt X n w v):bt X n w fun c=>u c-v c:=by
 obtain⟨y,hy⟩:=hu
 obtain⟨z,hz⟩:=hv
 refine⟨fun k=>y k-z k,fun c hc=>?_⟩
 show u c-v c=S n fun k=>(y k-z k)*g X k c
 rw[hy c hc,hz c hc,Int.sub_eq_add_neg,←Ao,←lI]
 exact bT fun k _=>by rw[Int.sub_mul,Int.sub_eq_add_neg]
theorem bt.trans{X Y:Rows}{m n w:Nat}{v:Nat→Int}(h:∀k,k<m→bt Y n w (g X k))(hv:bt X m w v):bt Y n w v:=by
 obtain⟨z,hz⟩:=hv
 have h':∀k,∃y:Nat→Int,k<m→∀c,c<w→g X k c=S n fun i=>y i*g Y i c:=fun k=>by
  by_cases hk:k<m
  · obtain⟨y,hy⟩:=h k hk
    exact⟨y,fun _=>hy⟩
  · exact⟨fun _=>0,fun h=>absurd h hk⟩
 refine⟨fun i=>S m fun k=>z k*Classical.choose (h' k) i,fun c hc=>?_⟩
 rw[hz c hc]
 have e1:S m (fun k=>z k*g X k c)=S m fun k=>S n fun i=>z k*Classical.choose (h' k) i*g Y i c:=bT fun k hk=>by
  rw[Classical.choose_spec (h' k) hk c hc,←nF]
  exact bT fun i _=>(Int.mul_assoc _ _ _).symm
 rw[e1,yo]
 exact bT fun i _=>xp _ _ _
structure cp(X:Rows)(n w:Nat)(ld:Nat→Nat):Prop where
 lead:∀i,i<n→ld i<w∧0<g X i (ld i)∧∀c,c<ld i→g X i c=0
 mono:∀i j,i<j→j<n→ld i<ld j
theorem cp.inj{X:Rows}{n w:Nat}{ld:Nat→Nat}(s:cp X n w ld){i j:Nat}(hi:i<n)(hj:j<n)(h:ld i=ld j):i=j:=by
 rcases Nat.lt_trichotomy i j with q|q|q
 · exact absurd h (Nat.ne_of_lt (s.mono i j q hj))
 · exact q
 · exact absurd h.symm (Nat.ne_of_lt (s.mono j i q hi))
theorem cp.lt{X:Rows}{n w:Nat}{ld:Nat→Nat}(s:cp X n w ld){i j:Nat}(hi:i<n)(hj:j<n)(h:ld i<ld j):i<j:=by
 rcases Nat.lt_trichotomy i j with q|q|q
 · exact q
 · rw[q]at h;exact absurd h (Nat.lt_irrefl _)
 · exact absurd (Nat.lt_trans h (s.mono j i q hi)) (Nat.lt_irrefl _)
theorem cp.gone{X:Rows}{n w q:Nat}{ld:Nat→Nat}{v z:Nat→Int}(s:cp X n w ld)(hz:∀c,c<w→v c=S n fun k=>z k*g X k c)(h0:∀c,c<q→v c=0)(k:Nat):k<n→ld k<q→z k=0:=by
 induction k using Nat.strongRecOn with
 |ind k ih=>
  intro hk hq
  obtain⟨h1,h2,h3⟩:=s.lead k hk
  have e:=hz (ld k) h1
  rw[h0 _ hq,nQ hk fun i hi ne=>?_]at e
  · exact(Int.mul_eq_zero.mp e.symm).resolve_right (Int.ne_of_gt h2)
  · rcases Nat.lt_or_gt_of_ne ne with l|l
    · rw[ih i l hi (Nat.lt_trans (s.mono i k l hk) hq),Int.zero_mul]
    · rw[(s.lead i hi).2.2 _ (s.mono k i l hi),Int.mul_zero]
theorem cp.at{X:Rows}{n w q:Nat}{ld:Nat→Nat}{v:Nat→Int}(s:cp X n w ld)(hv:bt X n w v)(hq:q<w)(h0:∀c,c<q→v c=0):(∃i,i<n∧ld i=q∧g X i q∣v q)∨v q=0:=by
 obtain⟨z,hz⟩:=hv
 have go:∀k,k<n→ld k≠q→z k*g X k q=0:=fun k hk ne=>by
  rcases Nat.lt_or_gt_of_ne ne with l|l
  · rw[s.gone hz h0 k hk l,Int.zero_mul]
  · rw[(s.lead k hk).2.2 _ l,Int.mul_zero]
 by_cases h:∃i,i<n∧ld i=q
 · obtain⟨i,hi,e⟩:=h
   refine .inl ⟨i,hi,e,z i,?_⟩
   rw[hz q hq,nQ hi fun k hk ne=>go k hk fun z=>ne (s.inj hk hi (z.trans e.symm)),Int.mul_comm]
 · refine .inr ?_
   rw[hz q hq]
   exact pB fun k hk=>go k hk fun e=>h ⟨k,hk,e⟩
theorem cp.sees{X Y:Rows}{n m w:Nat}{ld ld':Nat→Nat}(sX:cp X n w ld)(sY:cp Y m w ld')(h:∀k,k<n→bt Y m w (g X k))(i:Nat)(hi:i<n):∃j,j<m∧ld' j=ld i∧g Y j (ld i)∣g X i (ld i):=by
 obtain⟨h1,h2,h3⟩:=sX.lead i hi
 rcases sY.at (h i hi) h1 h3 with q|q
 · exact q
 · rw[q]at h2;exact absurd h2 (by decide)
theorem cp.same{X Y:Rows}{n m w:Nat}{ld ld':Nat→Nat}(sX:cp X n w ld)(sY:cp Y m w ld')(h1:∀k,k<n→bt Y m w (g X k))(h2:∀k,k<m→bt X n w (g Y k))(i:Nat):i<n→i<m∧ld' i=ld i∧g Y i (ld i)=g X i (ld i):=by
 induction i using Nat.strongRecOn with
 |ind i ih=>
  intro hi
  obtain⟨j,hj,ej,dj⟩:=sX.sees sY h1 i hi
  have e:j=i:=by
   rcases Nat.lt_trichotomy j i with l|l|l
   · have:=(ih j l (Nat.lt_trans l hi)).2.1
     exact absurd (this.symm.trans ej) (Nat.ne_of_lt (sX.mono j i l hi))
   · exact l
   · obtain⟨k,hk,ek,_⟩:=sY.sees sX h2 i (Nat.lt_trans l hj)
     have lk:k<i:=sX.lt hk hi (by rw[ek,←ej];exact sY.mono i j l hj)
     have:=(ih k lk hk).2.1
     exact absurd (this.trans ek) (Nat.ne_of_lt (sY.mono k i lk (Nat.lt_trans l hj)))
  subst e
  refine⟨hj,ej,?_⟩
  obtain⟨k,hk,ek,dk⟩:=sY.sees sX h2 j hj
  have:=sX.inj hk hi (ek.trans ej)
  subst this
  rw[ej]at dk
  exact Int.dvd_antisymm (by rw[←ej];exact Int.le_of_lt (sY.lead k hj).2.1) (Int.le_of_lt (sX.lead k hi).2.1) dj dk
theorem cp.many{X Y:Rows}{n m w:Nat}{ld ld':Nat→Nat}(sX:cp X n w ld)(sY:cp Y m w ld')(h1:∀k,k<n→bt Y m w (g X k))(h2:∀k,k<m→bt X n w (g Y k)):n=m:=by
 refine Nat.le_antisymm ?_ ?_
 · cases n with
   |zero=>exact Nat.zero_le _
   |succ n=>exact(sX.same sY h1 h2 n (Nat.lt_succ_self n)).1
 · cases m with
   |zero=>exact Nat.zero_le _
   |succ m=>exact(sY.same sX h2 h1 m (Nat.lt_succ_self m)).1
def mL(X:Rows)(n:Nat)(ld:Nat→Nat):Prop:=∀i j,i<j→j<n→0≤g X i (ld j)∧g X i (ld j)<g X j (ld j)
theorem cp.only{X Y:Rows}{n m w:Nat}{ld ld':Nat→Nat}(sX:cp X n w ld)(sY:cp Y m w ld')(h1:∀k,k<n→bt Y m w (g X k))(h2:∀k,k<m→bt X n w (g Y k))(rX:mL X n ld)(rY:mL Y m ld'){i:Nat}(hi:i<n)(c:Nat):c<w→g X i c=g Y i c:=by
 induction c using Nat.strongRecOn with
 |ind c ih=>
  intro hc
  obtain⟨im,il,ig⟩:=sX.same sY h1 h2 i hi
  have hv:bt X n w fun c=>g X i c-g Y i c:=(bt.row hi).sub (h2 i im)
  rcases sX.at hv hc fun d hd=>by rw[ih d hd (Nat.lt_trans hd hc),Int.sub_self]with⟨j,hj,rfl,d⟩|q
  · obtain⟨jm,jl,jg⟩:=sX.same sY h1 h2 j hj
    rcases Nat.lt_trichotomy i j with l|l|l
    · have a:=rX i j l hj
      have b:=rY i j l jm
      rw[jl,jg]at b
      exact Int.eq_of_sub_eq_zero (Int.eq_zero_of_dvd_of_natAbs_lt_natAbs d (by omega))
    · subst l
      exact ig.symm
    · rw[(sX.lead i hi).2.2 _ (sX.mono j i l hi),(sY.lead i im).2.2 _ (by rw[il];exact sX.mono j i l hi)]
  · exact Int.eq_of_sub_eq_zero q
end Mx
namespace Mx
theorem cL.mq{A0:Rows}{N w top p m:Nat}{b0 b c:B3}(hp:p<w)(h:cL N top p b c):∀ {gr:Nat},kP A0 N w top p m b0 b gr→∃gr',kP A0 N w top p m b0 c gr':=by
 induction h with
 |refl b=>exact fun G=>⟨_,G⟩
 |head s _ ih=>
  intro gr G
  obtain⟨L,k,j,hL,rfl⟩:=s
  exact ih (G.step hp hL).1
theorem kF.mono{A0:Rows}{N w top p m m':Nat}{b0 b:B3}(s:kF A0 N w top p m b0 b)(h:m≤m'):kF A0 N w top p m' b0 b:=
 ⟨s.tn,s.up,⟨fun i c h1 h2=>Nat.le_trans (s.lo.1 i c h1 h2) h,fun i c h1 h2=>Nat.le_trans (s.lo.2.1 i c h1 h2) h,fun i c h1 h2=>Nat.le_trans (s.lo.2.2 i c h1 h2) h⟩,s.zs,s.tp,s.z1⟩
theorem kF.Ag{A0:Rows}{N w top p m:Nat}{b0 b:B3}(s:kF A0 N w top p m b0 b){i:Nat}(hi:i<top)(q:Nat):g b.A i q=g b0.A i q∧g b.U i q=g b0.U i q∧g b.C i q=g b0.C i q:=by
 obtain⟨a1,a2,a3⟩:=s.up i hi
 unfold g
 rw[a1,a2,a3]
 exact⟨rfl,rfl,rfl⟩
theorem eB.one{A0:Rows}{N w t p e u r:Nat}{b c:B3}{ld:Nat→Nat}(S:eB A0 N w b t p ld e u)(hp:p<w)(h:cL N t p b c)(l:d_ c.A N t p [r]):
 kF A0 N w t p (2^((N-t+1)*(e+1))) b (setB c p t r)∧t<N∧∀k,k≤t→j6 A0 N w t p ((N-t+1)*(e+1)) u (setB c p t r) k (cF p t k (setB c p t r)):=by
 obtain⟨gr,G⟩:=h.mq hp S.mq
 obtain⟨s,h1,h2⟩:=G.set l
 have s1:=s.mono (G.low S.lo.1)
 have ht:t<N:=Nat.lt_of_le_of_lt h1 h2
 refine⟨s1,ht,fun k=>?_⟩
 induction k with
 |zero=>exact fun _=>j6.start s1.tn fun q=>s1.lo.2.2 t q (Nat.le_refl _) ht
 |succ k ih=>
  intro hk
  refine(ih (Nat.le_of_lt hk)).step hk ht hp s1.tp (fun q hq=>s1.zs t q (Nat.le_refl _) ht hq) (fun q=>⟨s1.lo.1 t q (Nat.le_refl _) ht,s1.lo.2.1 t q (Nat.le_refl _) ht⟩) fun i q hi=>?_
  obtain⟨a1,a2,a3⟩:=s1.Ag hi q
  rw[a1,a2,a3]
  exact S.hi i q hi
theorem cE.oq{A:Rows}{N w e0:Nat}(hA:bK N w A)(hlo:d5 A N 0 (2^e0))(hN:N≤8){p t:Nat}{b:B3}(h:cE A N p t b):p≤w→∃ld,eB A N w b t p ld (Ez N e0 t) (Vz N e0 t):=by
 induction h with
 |start=>exact fun _=>⟨_,eB.start hA hlo⟩
 |next _ c ih=>
  intro hp
  obtain⟨ld,S⟩:=ih (Nat.le_of_lt hp)
  cases c with
  |none l=>exact⟨ld,S.skip l⟩
  |one g l=>
   obtain⟨s1,ht,I⟩:=S.one hp g l
   exact⟨_,kF.next (e':=Ez N e0 (_+1)) (u':=Vz N e0 (_+1)) S s1 ht (I _ (Nat.le_refl _)) hN (by show _≤Vz N e0 _+Vz N e0 _+Ez N e0 (_+1)+5;omega) (by show _≤Vz N e0 _+Vz N e0 _+Ez N e0 (_+1)+5;omega)⟩
def Sm(b:B3)(N m:Nat):Prop:=∀i c,i<N→(g b.A i c).natAbs≤m∧(g b.U i c).natAbs≤m∧(g b.C i c).natAbs≤m
structure ke(N p t z:Nat)(b:B3):Prop where
 ga:∀c,cL N t p b c→Sm c N (2^z)
 lo:∀c r k,cL N t p b c→d_ c.A N t p [r]→k≤t→Sm (cF p t k (setB c p t r)) N (2^z)
theorem eB.iI{A0:Rows}{N w t p e u z:Nat}{b:B3}{ld:Nat→Nat}(S:eB A0 N w b t p ld e u)(hp:p<w)(hN:N≤8)(hz:u+u+(N-t+1)*(e+1)+5≤z):ke N p t z b:=by
 have p1:2^u≤2^z:=Nat.pow_le_pow_right (by decide) (by omega)
 have p2:2^((N-t+1)*(e+1))≤2^z:=Nat.pow_le_pow_right (by decide) (by omega)
 have p3:2^(u+(N-t+1)*(e+1)+1)≤2^z:=Nat.pow_le_pow_right (by decide) (by omega)
 refine⟨fun c h i q hi=>?_,fun c r k h l hk i q hi=>?_⟩
 · obtain⟨gr,G⟩:=h.mq hp S.mq
   by_cases ht:i<t
   · obtain⟨a1,a2,a3⟩:=G.up i ht
     have:=S.hi i q ht
     unfold g at this⊢
     rw[a1,a2,a3]
     exact⟨Nat.le_trans this.1 p1,Nat.le_trans this.2.1 p1,Nat.le_trans this.2.2 p1⟩
   · have ht':=Nat.le_of_not_lt ht
     have w1:=Nat.le_trans (G.low S.lo.1) p2
     exact⟨Nat.le_trans (G.lA i q ht' hi) w1,Nat.le_trans (G.lU i q ht' hi) w1,Nat.le_trans (G.lC i q ht' hi) w1⟩
 · obtain⟨s,ht,I'⟩:=S.one hp h l
   have I:=I' k hk
   have aA:(g (cF p t k (setB c p t r)).A i q).natAbs≤2^z∧(g (cF p t k (setB c p t r)).U i q).natAbs≤2^z:=by
    by_cases hik:i<k
    · exact⟨Nat.le_trans (I.sz i q hik).1 p3,Nat.le_trans (I.sz i q hik).2 p3⟩
    · obtain⟨b1,b2⟩:=I.rA i (Nat.le_of_not_lt hik)
      unfold g
      rw[b1,b2]
      by_cases hit:i<t
      · obtain⟨a1,a2,a3⟩:=s.Ag hit q
        have:=S.hi i q hit
        rw[←a1,←a2]at this
        exact⟨Nat.le_trans this.1 p1,Nat.le_trans this.2.1 p1⟩
      · have hit':=Nat.le_of_not_lt hit
        exact⟨Nat.le_trans (s.lo.1 i q hit' hi) p2,Nat.le_trans (s.lo.2.1 i q hit' hi) p2⟩
   refine⟨aA.1,aA.2,?_⟩
   by_cases hit:i=t
   · subst hit
     refine Nat.le_trans (I.sC q) ?_
     have f1:2^((N-i+1)*(e+1))≤2^(u+u+(N-i+1)*(e+1)):=Nat.pow_le_pow_right (by decide) (by omega)
     have f2:k*2^(u+u)≤8*2^(u+u+(N-i+1)*(e+1)):=Nat.mul_le_mul (by omega) (Nat.pow_le_pow_right (by decide) (by omega))
     have f3:2^(u+u+(N-i+1)*(e+1)+5)≤2^z:=Nat.pow_le_pow_right (by decide) hz
     rw[Nat.pow_add _ _ 5]at f3
     omega
   · have:=I.rC i hit
     unfold g
     rw[this]
     by_cases hlt:i<t
     · have a:=(s.Ag hlt q).2.2
       have:=(S.hi i q hlt).2.2
       rw[←a]at this
       exact Nat.le_trans this p1
     · exact Nat.le_trans (s.lo.2.2 i q (Nat.le_of_not_lt hlt) hi) p2
theorem EN{x y:Int}(hy:y≠0):(qn x y).natAbs≤x.natAbs+y.natAbs:=by
 have h:=nC (x:=x) hy
 have h2:(qn x y*y).natAbs=(qn x y).natAbs*y.natAbs:=Int.natAbs_mul _ _
 have h3:(qn x y).natAbs≤(qn x y).natAbs*y.natAbs:=Nat.le_mul_of_pos_right _ (Int.natAbs_pos.mpr hy)
 generalize qn x y*y=t at h h2
 omega
end Mx
namespace Mx
theorem ve{x:Int}(hx:x≠0):qn x x=1:=by
 have h:=nC (x:=x) hx
 have e:x-qn x x*x=(1-qn x x)*x:=by rw[Int.sub_mul,Int.one_mul]
 rw[e,Int.natAbs_mul]at h
 have hp:0<x.natAbs:=Int.natAbs_pos.mpr hx
 have h2:(1-qn x x).natAbs=0:=Classical.byContradiction fun z=>by
  have:1*x.natAbs≤(1-qn x x).natAbs*x.natAbs:=Nat.mul_le_mul_right _ (Nat.pos_of_ne_zero z)
  omega
 omega
structure Nr(N t:Nat)(b:B3)(m a:Nat):Prop where
 pr:∀i j q,t≤i→i<N→t≤j→j<N→i≠j→(∀c,c<q→g b.A i c=0)→(∀c,c<q→g b.A j c=0)→g b.A i q≠0→g b.A j q≠0→∀c,g b.A i c=g b.A j c
 nr:∀i j q,i<N→t≤j→j<N→(∀c,c<q→g b.A j c=0)→g b.A j q≠0→(g b.A i q).natAbs≤2^m*(g b.A j q).natAbs
 sm:Sm b N (2^a)
def nl(A:Rows)(N t p:Nat):Nat:=SU (fun i=>if t≤i∧g A i p≠0 then 1 else 0) N
theorem zR(A:Rows)(N t p:Nat):nl A N t p≤N:=by
 unfold nl
 induction N with
 |zero=>exact Nat.le_refl _
 |succ n ih=>
  unfold SU
  refine Nat.add_le_add ih ?_
  split
  · exact Nat.le_refl _
  · exact Nat.zero_le _
theorem Nr.E5{A0:Rows}{N w t p m a:Nat}{b c:B3}(n:Nr N t b m a)(T:Tn A0 b.A b.U b.C N w)(zs:∀i q,t≤i→i<N→q<p→g b.A i q=0)(h:ko N t p b c):
 Nr N t c m (a+1)∧(∀i q,t≤i→i<N→q<p→g c.A i q=0)∧nl c.A N t p<nl b.A N t p:=by
 obtain⟨L,k,j,hL,rfl⟩:=h
 obtain⟨hk1,hk2,hk3⟩:=(hL.mem k).mp (by simp)
 obtain⟨hj1,hj2,hj3⟩:=(hL.mem j).mp (by simp)
 have hjk:j≠k:=fun e=>by
  subst e
  have:=hL.ord
  rw[List.pairwise_append]at this
  have:=(List.pairwise_cons.mp this.2.1).1 j (by simp)
  omega
 have same:=n.pr k j p hk1 hk2 hj1 hj2 (Ne.symm hjk) (fun c hc=>zs k c hk1 hk2 hc) (fun c hc=>zs j c hj1 hj2 hc) hk3 hj3
 have eq1:qn (g b.A k p) (g b.A j p)=1:=by rw[←same p];exact ve hk3
 have gA:∀i q,g (d9 b p k j).A i q=if i=k then 0 else g b.A i q:=fun i q=>by
  show g (bc b.A k _ j) i q=_
  rw[cx T.isA hk2 hj2,eq1,Int.one_mul]
  split
  · rw[same q,Int.sub_self]
  · rfl
 have gne:∀i q,g (d9 b p k j).A i q≠0→i≠k∧g (d9 b p k j).A i q=g b.A i q:=fun i q h=>by
  rw[gA]at h⊢
  split at h
  · exact absurd rfl h
  · rename_i z;exact⟨z,if_neg z⟩
 have gk:∀ {i},i≠k→∀q,g (d9 b p k j).A i q=g b.A i q:=fun hi q=>by rw[gA,if_neg hi]
 refine⟨⟨fun i i' q h1 h2 h3 h4 h5 h6 h7 h8 h9 d=>?_,fun i i' q h1 h2 h3 h4 h5=>?_,fun i q hi=>?_⟩,fun i q h1 h2 h3=>?_,?_⟩
 · obtain⟨n1,e1⟩:=gne i q h8
   obtain⟨n2,e2⟩:=gne i' q h9
   rw[gk n1,gk n2]
   exact n.pr i i' q h1 h2 h3 h4 h5 (fun c hc=>by rw[←gk n1];exact h6 c hc) (fun c hc=>by rw[←gk n2];exact h7 c hc) (by rw[←e1];exact h8) (by rw[←e2];exact h9) d
 · obtain⟨n2,e2⟩:=gne i' q h5
   by_cases hi:i=k
   · rw[gA i,if_pos hi];exact Nat.zero_le _
   · rw[gk hi,e2]
     exact n.nr i i' q h1 h2 h3 (fun c hc=>by rw[←gk n2];exact h4 c hc) (by rw[←e2];exact h5)
 · have dbl:∀ {x y:Int},x.natAbs≤2^a→y.natAbs≤2^a→(x-1*y).natAbs≤2^(a+1)∧(x- -1*y).natAbs≤2^(a+1):=fun{x y} h1 h2=>by
    rw[Nat.pow_succ];omega
   have up:2^a≤2^(a+1):=Nat.pow_le_pow_right (by decide) (Nat.le_succ _)
   refine⟨?_,?_,?_⟩
   · rw[gA]
     split
     · exact Nat.zero_le _
     · exact Nat.le_trans (n.sm i q hi).1 up
   · show(g (bc b.U k _ j) i q).natAbs≤_
     rw[cx T.d6 hk2 hj2,eq1]
     split
     · exact(dbl (n.sm k q hk2).2.1 (n.sm j q hj2).2.1).1
     · exact Nat.le_trans (n.sm i q hi).2.1 up
   · show(g (bc b.C j _ k) i q).natAbs≤_
     rw[cx T.eL hj2 hk2,eq1]
     split
     · exact(dbl (n.sm j q hj2).2.2 (n.sm k q hk2).2.2).2
     · exact Nat.le_trans (n.sm i q hi).2.2 up
 · rw[gA]
   split
   · rfl
   · exact zs i q h1 h2 h3
 · unfold nl
   refine wz (k:=k) ?_ hk2 fun i hi=>?_
   · rw[gA,if_pos rfl,if_neg (fun z=>z.2 rfl),if_pos ⟨hk1,hk3⟩];decide
   · rw[gA]
     split
     · rw[if_neg (fun z=>z.2 rfl)];exact Nat.zero_le _
     · exact Nat.le_refl _
theorem Nr.reach{A0:Rows}{N w t p m:Nat}{b c:B3}(hp:p<w)(h:cL N t p b c):∀ {a M gr:Nat} {b0:B3},Nr N t b m a→kP A0 N w t p M b0 b gr→∃a',Nr N t c m a'∧a'+nl c.A N t p≤a+nl b.A N t p:=by
 induction h with
 |refl b=>exact fun n G=>⟨_,n,Nat.le_refl _⟩
 |head s _ ih=>
  intro a M gr b0 n G
  obtain⟨n2,z2,l2⟩:=n.E5 G.tn G.zs s
  obtain⟨L,k,j,hL,rfl⟩:=s
  obtain⟨a',n3,l3⟩:=ih n2 (G.step hp hL).1
  exact⟨a',n3,by omega⟩
end Mx
namespace Mx
theorem wA{t r i:Nat}(hr:t≤r)(hi:t≤i):t≤sw t r i:=by
 unfold sw
 split
 · exact hr
 · split
   · exact Nat.le_refl _
   · exact hi
theorem EU{t r i j:Nat}(h:i≠j):sw t r i≠sw t r j:=fun e=>h (by rw[←o9 t r i,e,o9])
theorem xt{A0:Rows}{N w t p r:Nat}{c:B3}(T:Tn A0 c.A c.U c.C N w)(ht:t<N)(hr:r<N):
 (∀i q,(g (setB c p t r).A i q).natAbs=(g c.A (sw t r i) q).natAbs∧(g (setB c p t r).U i q).natAbs=(g c.U (sw t r i) q).natAbs∧(g (setB c p t r).C i q).natAbs=(g c.C (sw t r i) q).natAbs)∧∀i q,i≠t→g (setB c p t r).A i q=g c.A (sw t r i) q:=by
 have T1:=T.vD ht hr
 unfold setB
 split
 · refine⟨fun i q=>?_,fun i q hi=>?_⟩
   · have e:∀ {X:Rows} {v:Nat},bK N v X→(g (fj (bp X t r) t) i q).natAbs=(g X (sw t r i) q).natAbs:=fun{X v} hX=>by
      rw[gJ (lO hX ht hr) ht]
      split
      · rename_i z;rw[Int.natAbs_neg,eP hX ht hr,z]
      · rw[eP hX ht hr]
     exact⟨e T.isA,e T.d6,e T.eL⟩
   · show g (fj (bp c.A t r) t) i q=_
     rw[gJ T1.isA ht,if_neg hi,eP T.isA ht hr]
 · refine⟨fun i q=>?_,fun i q hi=>?_⟩
   · have e:∀ {X:Rows} {v:Nat},bK N v X→(g (bp X t r) i q).natAbs=(g X (sw t r i) q).natAbs:=fun{X v} hX=>by rw[eP hX ht hr]
     exact⟨e T.isA,e T.d6,e T.eL⟩
   · exact eP T.isA ht hr i q
theorem Nr.set{A0:Rows}{N w t p r m a:Nat}{c:B3}(n:Nr N t c m a)(T:Tn A0 c.A c.U c.C N w)(ht:t<N)(hr:r<N)(htr:t≤r):
 Nr N (t+1) (setB c p t r) m a∧∀i j q,i<N→t≤j→j<N→(∀d,d<q→g (setB c p t r).A j d=0)→g (setB c p t r).A j q≠0→(g (setB c p t r).A i q).natAbs≤2^m*(g (setB c p t r).A j q).natAbs:=by
 obtain⟨ab,ne⟩:=xt (p:=p) T ht hr
 have z:∀j q,g (setB c p t r).A j q=0↔g c.A (sw t r j) q=0:=fun j q=>by
  rw[←Int.natAbs_eq_zero,(ab j q).1,Int.natAbs_eq_zero]
 have nr:∀i j q,i<N→t≤j→j<N→(∀d,d<q→g (setB c p t r).A j d=0)→g (setB c p t r).A j q≠0→(g (setB c p t r).A i q).natAbs≤2^m*(g (setB c p t r).A j q).natAbs:=fun i j q h1 h2 h3 h4 h5=>by
  rw[(ab i q).1,(ab j q).1]
  exact n.nr _ _ q (g4 ht hr h1) (wA htr h2) (g4 ht hr h3) (fun d hd=>(z j d).mp (h4 d hd)) fun e=>h5 ((z j q).mpr e)
 refine⟨⟨fun i j q h1 h2 h3 h4 h5 h6 h7 h8 h9 d=>?_,fun i j q h1 h2 h3 h4 h5=>nr i j q h1 (Nat.le_of_lt h2) h3 h4 h5,fun i q hi=>?_⟩,nr⟩
 · rw[ne i d (Nat.ne_of_gt h1),ne j d (Nat.ne_of_gt h3)]
   exact n.pr _ _ q (wA htr (Nat.le_of_lt h1)) (g4 ht hr h2) (wA htr (Nat.le_of_lt h3)) (g4 ht hr h4) (EU h5) (fun c hc=>(z i c).mp (h6 c hc)) (fun c hc=>(z j c).mp (h7 c hc)) (fun e=>h8 ((z i q).mpr e)) (fun e=>h9 ((z j q).mpr e)) d
 · obtain⟨a1,a2,a3⟩:=ab i q
   rw[a1,a2,a3]
   exact n.sm _ q (g4 ht hr hi)
theorem BI{x y:Int}{M:Nat}(hy:0<y)(h:x.natAbs≤M*y.natAbs):(x.fdiv y).natAbs≤M:=by
 rw[Int.fdiv_eq_ediv_of_nonneg _ (Int.le_of_lt hy)]
 obtain⟨k,rfl⟩:=Int.eq_ofNat_of_zero_le (Int.le_of_lt hy)
 rw[Int.natAbs_natCast]at h
 have h1:x≤(M:Int)*k:=by rw[←Int.natCast_mul];omega
 have h2: -((M:Int))*k≤x:=by rw[Int.neg_mul,←Int.natCast_mul];omega
 have u:x/(k:Int)≤M:=Int.ediv_le_of_le_mul hy h1
 have l: -(M:Int)≤x/(k:Int):=Int.le_ediv_of_mul_le hy h2
 omega
structure LN(N t m a:Nat)(s:B3)(k:Nat)(c:B3):Prop where
 nr:∀i j q,i<k→t+1≤j→j<N→(∀d,d<q→g s.A j d=0)→g s.A j q≠0→(g c.A i q).natAbs≤2^(m+m+1)*(g s.A j q).natAbs
 sA:∀i q,i<k→(g c.A i q).natAbs≤2^(a+m+1)∧(g c.U i q).natAbs≤2^(a+m+1)
 sC:∀q,(g c.C t q).natAbs≤2^a+k*2^(m+a)
theorem LN.go{A0:Rows}{N w t p m a e u:Nat}{s:B3}(sm:Sm s N (2^a))(nr:∀i j q,i<N→t≤j→j<N→(∀d,d<q→g s.A j d=0)→g s.A j q≠0→(g s.A i q).natAbs≤2^m*(g s.A j q).natAbs)
 (ht:t<N) (tp:0<g s.A t p) (zs:∀q,q<p→g s.A t q=0) (I:∀k,k≤t→j6 A0 N w t p e u s k (cF p t k s)):∀k,k≤t→LN N t m a s k (cF p t k s)
 |0,_=>⟨fun _ _ _ h=>absurd h (Nat.not_lt_zero _),fun _ _ h=>absurd h (Nat.not_lt_zero _),fun q=>by rw[Nat.zero_mul];exact(sm t q ht).2.2⟩
 |k+1,hk=>by
  have L:=LN.go sm nr ht tp zs I k (Nat.le_of_lt hk)
  have I0:=I k (Nat.le_of_lt hk)
  have el:cF p t (k+1) s=⟨bc (cF p t k s).A k ((g (cF p t k s).A k p).fdiv (g (cF p t k s).A t p)) t,bc (cF p t k s).U k ((g (cF p t k s).A k p).fdiv (g (cF p t k s).A t p)) t,bc (cF p t k s).C t (-((g (cF p t k s).A k p).fdiv (g (cF p t k s).A t p))) k⟩:=rfl
  rw[el]
  generalize cF p t k s=c at L I0
  have hkN:k<N:=Nat.lt_trans hk ht
  have gA:∀i q,k≤i→g c.A i q=g s.A i q:=fun i q hi=>by unfold g;rw[(I0.rA i hi).1]
  have gU:∀i q,k≤i→g c.U i q=g s.U i q:=fun i q hi=>by unfold g;rw[(I0.rA i hi).2]
  have gC:∀i q,i≠t→g c.C i q=g s.C i q:=fun i q hi=>by unfold g;rw[I0.rC i hi]
  have hQ:((g c.A k p).fdiv (g c.A t p)).natAbs≤2^m:=by
   rw[gA k p (Nat.le_refl _),gA t p (Nat.le_of_lt hk)]
   exact BI tp (nr k t p hkN (Nat.le_refl _) ht zs (Int.ne_of_gt tp))
  generalize(g c.A k p).fdiv (g c.A t p)=Q at hQ
  have mul:∀ {x:Int} {y:Nat},x.natAbs≤y→(Q*x).natAbs≤2^m*y:=fun{x y} h=>by rw[Int.natAbs_mul];exact Nat.mul_le_mul hQ h
  have big:∀ {x y:Int},x.natAbs≤2^a→y.natAbs≤2^a→(x-Q*y).natAbs≤2^(a+m+1):=fun{x y} hx hy=>by
   have h1:=mul hy
   have h2:2^a≤2^(m+a):=Nat.pow_le_pow_right (by decide) (Nat.le_add_left _ _)
   rw[←Nat.pow_add]at h1
   rw[Nat.pow_succ,Nat.add_comm a m]
   omega
  refine⟨fun i j q h1 h2 h3 h4 h5=>?_,fun i q hi=>?_,fun q=>?_⟩
  · rw[cx I0.tn.isA hkN ht]
    split
    · have n1:=nr k j q hkN (Nat.le_of_lt h2) h3 h4 h5
      have n2:=mul (nr t j q ht (Nat.le_of_lt h2) h3 h4 h5)
      rw[gA k q (Nat.le_refl _),gA t q (Nat.le_of_lt hk)]
      have p1:2^m*(g s.A j q).natAbs≤2^m*(2^m*(g s.A j q).natAbs):=Nat.mul_le_mul_left _ (Nat.le_mul_of_pos_left _ (Nat.pow_pos (by decide)))
      have p2:2^(m+m+1)*(g s.A j q).natAbs=2^m*(2^m*(g s.A j q).natAbs)+2^m*(2^m*(g s.A j q).natAbs):=by
       rw[Nat.pow_succ,Nat.pow_add,Nat.mul_two,Nat.add_mul,Nat.mul_assoc]
      rw[p2]
      omega
    · exact L.nr i j q (by omega) h2 h3 h4 h5
  · refine⟨?_,?_⟩
    · rw[cx I0.tn.isA hkN ht]
      split
      · rw[gA k q (Nat.le_refl _),gA t q (Nat.le_of_lt hk)]
        exact big (sm k q hkN).1 (sm t q ht).1
      · exact(L.sA i q (by omega)).1
    · rw[cx I0.tn.d6 hkN ht]
      split
      · rw[gU k q (Nat.le_refl _),gU t q (Nat.le_of_lt hk)]
        exact big (sm k q hkN).2.1 (sm t q ht).2.1
      · exact(L.sA i q (by omega)).2
  · rw[cx I0.tn.eL ht hkN,if_pos rfl,gC k q (Nat.ne_of_lt hk),Int.neg_mul]
    have h1:=mul (sm k q hkN).2.2
    have h2:=L.sC q
    rw[←Nat.pow_add]at h1
    rw[Nat.add_mul,Nat.one_mul]
    omega
end Mx
namespace Mx
theorem Nr.mono{N t m m' a a':Nat}{b:B3}(n:Nr N t b m a)(hm:m≤m')(ha:a≤a'):Nr N t b m' a':=by
 have p1:2^a≤2^a':=Nat.pow_le_pow_right (by decide) ha
 exact⟨n.pr,fun i j q h1 h2 h3 h4 h5=>Nat.le_trans (n.nr i j q h1 h2 h3 h4 h5) (Nat.mul_le_mul_right _ (Nat.pow_le_pow_right (by decide) hm)),fun i q hi=>⟨Nat.le_trans (n.sm i q hi).1 p1,Nat.le_trans (n.sm i q hi).2.1 p1,Nat.le_trans (n.sm i q hi).2.2 p1⟩⟩
theorem Nr.one{A0:Rows}{N w t p e u m a r:Nat}{b c:B3}{ld:Nat→Nat}(S:eB A0 N w b t p ld e u)(n:Nr N t b m a)(hp:p<w)(hN:N≤8)(h:cL N t p b c)(l:d_ c.A N t p [r]):
 (∀k,k≤t→Sm (cF p t k (setB c p t r)) N (2^(a+8+m+4)))∧Nr N (t+1) (cF p t t (setB c p t r)) (m+m+1) (a+8+m+4):=by
 obtain⟨a1,n1,l1⟩:=n.reach hp h S.mq
 have hnl:=zR b.A N t p
 have n2:=n1.mono (Nat.le_refl m) (show a1≤a+8 by omega)
 obtain⟨gr,G⟩:=h.mq hp S.mq
 obtain⟨_,hr1,hr2⟩:=G.set l
 obtain⟨s1,ht,I⟩:=S.one hp h l
 obtain⟨n3,nr⟩:=n2.set (p:=p) G.tn ht hr2 hr1
 generalize setB c p t r=s at s1 I n3 nr
 have L:=LN.go n3.sm nr ht s1.tp (fun q hq=>s1.zs t q (Nat.le_refl _) ht hq) I
 have p1:2^(a+8)≤2^(a+8+m+4):=Nat.pow_le_pow_right (by decide) (by omega)
 have p2:2^(a+8+m+1)≤2^(a+8+m+4):=Nat.pow_le_pow_right (by decide) (by omega)
 have p3:2^(a+8)+8*2^(m+(a+8))≤2^(a+8+m+4):=by
  have:2^(a+8)≤2^(m+(a+8)):=Nat.pow_le_pow_right (by decide) (by omega)
  rw[Nat.pow_add _ (a+8+m) 4,Nat.add_comm (a+8) m]
  omega
 have gA:∀k,k≤t→∀i q,k≤i→g (cF p t k s).A i q=g s.A i q∧g (cF p t k s).U i q=g s.U i q:=fun k hk i q hi=>by unfold g;rw[((I k hk).rA i hi).1,((I k hk).rA i hi).2];exact⟨rfl,rfl⟩
 have sm:∀k,k≤t→Sm (cF p t k s) N (2^(a+8+m+4)):=fun k hk i q hi=>by
  have AU:(g (cF p t k s).A i q).natAbs≤2^(a+8+m+4)∧(g (cF p t k s).U i q).natAbs≤2^(a+8+m+4):=by
   by_cases hik:i<k
   · exact⟨Nat.le_trans ((L k hk).sA i q hik).1 p2,Nat.le_trans ((L k hk).sA i q hik).2 p2⟩
   · obtain⟨e1,e2⟩:=gA k hk i q (Nat.le_of_not_lt hik)
     rw[e1,e2]
     exact⟨Nat.le_trans (n3.sm i q hi).1 p1,Nat.le_trans (n3.sm i q hi).2.1 p1⟩
  refine⟨AU.1,AU.2,?_⟩
  by_cases hit:i=t
  · subst hit
    refine Nat.le_trans ((L k hk).sC q) (Nat.le_trans ?_ p3)
    exact Nat.add_le_add_left (Nat.mul_le_mul_right _ (by omega)) _
  · have:g (cF p t k s).C i q=g s.C i q:=by unfold g;rw[(I k hk).rC i hit]
    rw[this]
    exact Nat.le_trans (n3.sm i q hi).2.2 p1
 have gT:∀i q,t+1≤i→g (cF p t t s).A i q=g s.A i q:=fun i q hi=>(gA t (Nat.le_refl _) i q (Nat.le_of_lt hi)).1
 refine⟨sm,fun i j q h1 h2 h3 h4 h5 h6 h7 h8 h9 d=>?_,fun i j q h1 h2 h3 h4 h5=>?_,sm t (Nat.le_refl _)⟩
 · rw[gT i d h1,gT j d h3]
   exact n3.pr i j q h1 h2 h3 h4 h5 (fun c hc=>by rw[←gT i c h1];exact h6 c hc) (fun c hc=>by rw[←gT j c h3];exact h7 c hc) (by rw[←gT i q h1];exact h8) (by rw[←gT j q h3];exact h9) d
 · have z4:∀d,d<q→g s.A j d=0:=fun d hd=>by rw[←gT j d h2];exact h4 d hd
   have z5:g s.A j q≠0:=by rw[←gT j q h2];exact h5
   rw[gT j q h2]
   by_cases hi:i<t
   · exact(L t (Nat.le_refl _)).nr i j q hi h2 h3 z4 z5
   · rw[(gA t (Nat.le_refl _) i q (Nat.le_of_not_lt hi)).1]
     exact Nat.le_trans (n3.nr i j q h1 h2 h3 z4 z5) (Nat.mul_le_mul_right _ (Nat.pow_le_pow_right (by decide) (by omega)))
theorem Nr.iI{A0:Rows}{N w t p e u m a z:Nat}{b:B3}{ld:Nat→Nat}(S:eB A0 N w b t p ld e u)(n:Nr N t b m a)(hp:p<w)(hN:N≤8)(hz:a+8+m+4≤z):ke N p t z b:=by
 have pz:2^(a+8+m+4)≤2^z:=Nat.pow_le_pow_right (by decide) hz
 have up:∀ {x:B3},Sm x N (2^(a+8+m+4))→Sm x N (2^z):=fun h i q hi=>⟨Nat.le_trans (h i q hi).1 pz,Nat.le_trans (h i q hi).2.1 pz,Nat.le_trans (h i q hi).2.2 pz⟩
 refine⟨fun c h=>up ?_,fun c r k h l hk=>up ((n.one S hp hN h l).1 k hk)⟩
 obtain⟨a1,n1,l1⟩:=n.reach hp h S.mq
 have hnl:=zR b.A N t p
 exact(n1.mono (Nat.le_refl m) (show a1≤a+8+m+4 by omega)).sm
def mz(m:Nat):Nat→Nat
 |0=>m
 |d+1=>mz m d+mz m d+1
def az(m a:Nat):Nat→Nat
 |0=>a
 |d+1=>az m a d+8+mz m d+4
theorem BU(m a d:Nat):az m a d=a+az m 0 d:=by
 induction d with
 |zero=>rfl
 |succ d ih=>unfold az;rw[ih];omega
theorem y8:∀d,d<10→az 3 0 d≤5000:=by decide
theorem cE.near{A:Rows}{N w e0 p0 t0 m a:Nat}{b0:B3}(hA:bK N w A)(hlo:d5 A N 0 (2^e0))(hN:N≤8)(h0:cE A N p0 t0 b0)(n0:Nr N t0 b0 m a):∀(d:Nat) {t:Nat} {b:B3},cE A N (p0+d) t b→p0+d≤w→Nr N t b (mz m d) (az m a d)
 |0,t,b,h,_=>by
  obtain⟨rfl,rfl⟩:=h0.unique h
  exact n0
 |d+1,t,b,.next h c,hw=>by
  have n:=cE.near hA hlo hN h0 n0 d h (Nat.le_of_lt hw)
  cases c with
  |none l=>exact n.mono (show mz m d≤mz m d+mz m d+1 by omega) (show az m a d≤az m a d+8+mz m d+4 by omega)
  |one g l=>
   obtain⟨ld,S⟩:=h.oq hA hlo hN (Nat.le_of_lt hw)
   exact(n.one S hw hN g l).2
theorem cE.pF{A:Rows}{N w e0 p0 t0 a z:Nat}{b0:B3}(hA:bK N w A)(hlo:d5 A N 0 (2^e0))(hN:N≤8)(hw:w≤8)(h0:cE A N p0 t0 b0)(n0:Nr N t0 b0 3 a)(hz:a+5000≤z){p t:Nat}{b:B3}(hp:p<w)(hp0:p0≤p)(h:cE A N p t b):ke N p t z b:=by
 obtain⟨d,rfl⟩:=Nat.exists_eq_add_of_le hp0
 obtain⟨ld,S⟩:=h.oq hA hlo hN (Nat.le_of_lt hp)
 have n:=cE.near hA hlo hN h0 n0 d h (Nat.le_of_lt hp)
 refine n.iI S hp hN ?_
 have e:=BU 3 a (d+1)
 have s:=y8 (d+1) (by omega)
 have:az 3 a (d+1)=az 3 a d+8+mz 3 d+4:=rfl
 omega
theorem cE.iI{A:Rows}{N w e0 z:Nat}(hA:bK N w A)(hlo:d5 A N 0 (2^e0))(hN:N≤8)(hz:∀t,t≤N→Vz N e0 t≤z){p t:Nat}{b:B3}(hp:p<w)(h:cE A N p t b):ke N p t z b:=by
 obtain⟨ld,S⟩:=h.oq hA hlo hN (Nat.le_of_lt hp)
 by_cases ht:t<N
 · exact S.iI hp hN (hz (t+1) ht)
 · have hle:=S.le
   have e:N=t:=by omega
   have nolive:∀ {X:Rows} {L:List Nat} {k:Nat},d_ X N t p L→k∈L→False:=fun h hk=>by
    have:=(h.mem _).mp hk
    omega
   refine⟨fun c g=>?_,fun c r k g l hk=>(nolive l (List.mem_singleton.mpr rfl)).elim⟩
   cases g with
   |refl=>
    have p1:2^Vz N e0 t≤2^z:=Nat.pow_le_pow_right (by decide) (hz t hle)
    exact fun i q hi=>⟨Nat.le_trans (S.hi i q (by omega)).1 p1,Nat.le_trans (S.hi i q (by omega)).2.1 p1,Nat.le_trans (S.hi i q (by omega)).2.2 p1⟩
   |head s _=>
    obtain⟨L,k,j,hL,_⟩:=s
    exact(nolive (k:=k) hL (by simp)).elim
end Mx
namespace Mx
theorem Ai{n:Nat}{f:Nat→Int}:∀ {N:Nat},n≤N→(∀i,n≤i→i<N→f i=0)→S N f=S n f
 |0,h,_=>by rw[Nat.le_zero.mp h]
 |N+1,h,z=>by
  by_cases e:n=N+1
  · rw[e]
  · have hn:n≤N:=by omega
    show S N f+f N=_
    rw[z N hn (Nat.lt_succ_self N),Int.add_zero]
    exact Ai hn fun i h1 h2=>z i h1 (Nat.lt_succ_of_lt h2)
theorem eB.gG{A:Rows}{N w top e u:Nat}{c:B3}{ld:Nat→Nat}(s:eB A N w c top w ld e u):cp c.A top w ld∧mL c.A top ld:=⟨⟨s.lead,s.mono⟩,s.red⟩
theorem eB.in{A:Rows}{N w top e u:Nat}{c:B3}{ld:Nat→Nat}(s:eB A N w c top w ld e u)(k:Nat)(hk:k<top):bt A N w (g c.A k):=
 ⟨g c.U k,fun q hq=>s.tn.ua k q (Nat.lt_of_lt_of_le hk s.le) hq⟩
theorem eB.out{A:Rows}{N w top e u:Nat}{c:B3}{ld:Nat→Nat}(s:eB A N w c top w ld e u)(k:Nat)(hk:k<N):bt c.A top w (g A k):=by
 refine⟨fun i=>g c.C i k,fun q hq=>?_⟩
 have e1:S N (fun i=>g c.C i k*g c.A i q)=g A k q:=by
  have:S N (fun i=>g c.C i k*g c.A i q)=S N fun i=>S N fun j=>g c.C i k*g c.U i j*g A j q:=bT fun i hi=>by
   rw[s.tn.ua i q hi hq,←nF]
   exact bT fun j _=>(Int.mul_assoc _ _ _).symm
  rw[this,yo]
  have e2:S N (fun j=>S N fun i=>g c.C i k*g c.U i j*g A j q)=S N fun j=>dl k j*g A j q:=bT fun j hj=>by
   rw[xp,s.tn.bu k j hk hj]
  rw[e2,pS hk fun j=>g A j q]
 rw[←e1]
 exact Ai s.le fun i h1 h2=>by rw[s.zs i q h1 h2 hq,Int.mul_zero]
theorem gM{X:Rows}{n i q:Nat}(h:i<n):g (X.take n) i q=g X i q:=by
 unfold g
 rw[List.getD_eq_getElem?_getD (l:=X.take n),List.getD_eq_getElem?_getD (l:=X),List.getElem?_take_of_lt h]
theorem kb{X:Rows}{N w n:Nat}(hX:bK N w X)(h:n≤N):bK n w (X.take n):=
 ⟨by rw[List.length_take,hX.len];omega,fun r hr=>hX.j5 r (List.mem_of_mem_take hr)⟩
theorem eB.same{A A':Rows}{N N' w top top' e u e' u':Nat}{c c':B3}{ld ld':Nat→Nat}(s:eB A N w c top w ld e u)(s':eB A' N' w c' top' w ld' e' u')(h1:∀k,k<N→bt A' N' w (g A k))(h2:∀k,k<N'→bt A N w (g A' k)):top=top'∧c.A.take top=c'.A.take top':=by
 have l1:∀k,k<top→bt c'.A top' w (g c.A k):=fun k hk=>bt.trans (fun j hj=>bt.trans s'.out (h1 j hj)) (s.in k hk)
 have l2:∀k,k<top'→bt c.A top w (g c'.A k):=fun k hk=>bt.trans (fun j hj=>bt.trans s.out (h2 j hj)) (s'.in k hk)
 have e:=s.gG.1.many s'.gG.1 l1 l2
 refine⟨e,?_⟩
 subst e
 refine(kb s.tn.isA s.le).ext (kb s'.tn.isA s'.le) fun i q hi hq=>?_
 rw[gM hi,gM hi]
 exact s.gG.1.only s'.gG.1 l1 l2 s.gG.2 s'.gG.2 hi q hq
theorem eB.pv{A F:Rows}{N w n top e u:Nat}{c:B3}{ld ld':Nat→Nat}(s:eB A N w c top w ld e u)(hF:bK n w F)(sF:cp F n w ld')(rF:mL F n ld')(h1:∀k,k<N→bt F n w (g A k))(h2:∀k,k<n→bt A N w (g F k)):c.A.take top=F:=by
 have l1:∀k,k<top→bt F n w (g c.A k):=fun k hk=>bt.trans h1 (s.in k hk)
 have l2:∀k,k<n→bt c.A top w (g F k):=fun k hk=>bt.trans s.out (h2 k hk)
 have e:=s.gG.1.many sF l1 l2
 subst e
 refine(kb s.tn.isA s.le).ext hF fun i q hi hq=>?_
 rw[gM hi]
 exact s.gG.1.only sF l1 l2 s.gG.2 rF hi q hq
end Mx
namespace Mx
theorem cp.first{F:Rows}{n w f q:Nat}{ld:Nat→Nat}{v:Nat→Int}{x:Int}(s:cp F n w ld)(hf:f<n)(hx:0<x)(hv:∀c,v c=x*g F f c)(h0:∀c,c<q→v c=0)(h1:v q≠0):q=ld f:=by
 obtain⟨_,l2,l3⟩:=s.lead f hf
 rcases Nat.lt_trichotomy q (ld f)with h|h|h
 · exact absurd (by rw[hv,l3 q h,Int.mul_zero]) h1
 · exact h
 · have:=h0 _ h
   rw[hv]at this
   exact absurd this (Int.ne_of_gt (Int.mul_pos hx l2))
theorem Nr.made{F:Rows}{N n w t a:Nat}{ld:Nat→Nat}{b:B3}(s:cp F n w ld)(hP:∀i f,i<N→f<n→(g b.A i (ld f)).natAbs≤2^3*(g F f (ld f)).natAbs)
 (hD:∀i,t≤i→i<N→(∀q,g b.A i q=0)∨∃f x,f<n∧0<x∧∀q,g b.A i q=x*g F f q)
 (hU:∀i j f x y,t≤i→i<N→t≤j→j<N→i≠j→f<n→(∀q,g b.A i q=x*g F f q)→(∀q,g b.A j q=y*g F f q)→0<x→0<y→∀q,g b.A i q=g b.A j q) (sm:Sm b N (2^a)):Nr N t b 3 a:=by
 refine⟨fun i j q h1 h2 h3 h4 h5 h6 h7 h8 h9=>?_,fun i j q h1 h2 h3 h4 h5=>?_,sm⟩
 · rcases hD i h1 h2 with z|⟨f,x,hf,hx,ex⟩
   · exact absurd (z q) h8
   rcases hD j h3 h4 with z|⟨f',y,hf',hy,ey⟩
   · exact absurd (z q) h9
   have e1:=s.first hf hx ex h6 h8
   have e2:=s.first hf' hy ey h7 h9
   have:=s.inj hf hf' (e1.symm.trans e2)
   subst this
   exact hU i j f x y h1 h2 h3 h4 h5 hf ex ey hx hy
 · rcases hD j h2 h3 with z|⟨f,x,hf,hx,ex⟩
   · exact absurd (z q) h5
   have e1:=s.first hf hx ex h4 h5
   subst e1
   refine Nat.le_trans (hP i f h1 hf) (Nat.mul_le_mul_left _ ?_)
   rw[ex,Int.natAbs_mul]
   exact Nat.le_mul_of_pos_left _ (Int.natAbs_pos.mpr (Int.ne_of_gt hx))
theorem mL.at{F:Rows}{n w:Nat}{ld:Nat→Nat}(s:cp F n w ld)(r:mL F n ld){i j:Nat}(hi:i<n)(hj:j<n):0≤g F i (ld j)∧g F i (ld j)≤g F j (ld j):=by
 rcases Nat.lt_trichotomy i j with l|l|l
 · have:=r i j l hj
   exact⟨this.1,Int.le_of_lt this.2⟩
 · subst l
   exact⟨Int.le_of_lt (s.lead i hi).2.1,Int.le_refl _⟩
 · rw[(s.lead i hi).2.2 _ (s.mono j i l hi)]
   exact⟨Int.le_refl _,Int.le_of_lt (s.lead j hj).2.1⟩
theorem Nr.rows{F A:Rows}{N n w a:Nat}{ld:Nat→Nat}(s:cp F n w ld)(r:mL F n ld)(hlo:d5 A N 0 (2^a))
 (hD:∀i,i<N→(∀q,g A i q=0)∨∃f x,f<n∧0<x∧x≤8∧∀q,g A i q=x*g F f q)
 (hU:∀i j f x y,i<N→j<N→i≠j→f<n→(∀q,g A i q=x*g F f q)→(∀q,g A j q=y*g F f q)→0<x→0<y→False):Nr N 0 ⟨A,units N,units N⟩ 3 a:=by
 refine Nr.made s (fun i f hi hf=>?_) (fun i _ hi=>?_) (fun i j f x y _ h2 _ h4 h5 hf hx hy px py=>(hU i j f x y h2 h4 h5 hf hx hy px py).elim) fun i q hi=>?_
 · rcases hD i hi with z|⟨f',x,hf',hx,hx8,ex⟩
   · show(g A i _).natAbs≤_
     rw[z];exact Nat.zero_le _
   · show(g A i _).natAbs≤_
     obtain⟨b1,b2⟩:=r.at s hf' hf
     rw[ex,Int.natAbs_mul]
     exact Nat.mul_le_mul (by omega) (by omega)
 · rcases hD i hi with z|⟨f',x,hf',hx,_,ex⟩
   · exact .inl z
   · exact .inr ⟨f',x,hf',hx,ex⟩
 · have one:1≤2^a:=Nat.one_le_two_pow
   have u:(g (units N) i q).natAbs≤2^a:=by
    by_cases hq:q<N
    · rw[ia hi hq]
      unfold dl
      split
      · exact one
      · exact Nat.zero_le _
    · unfold g
      rw[iM (by rw[cg (mm N) hi];exact Nat.le_of_not_lt hq)]
      exact Nat.zero_le _
   exact⟨hlo i q (Nat.zero_le _) hi,u,u⟩
end Mx
namespace Mx
theorem bt.wB{X:Rows}{n w:Nat}{u v:Nat→Int}(x:Int)(hu:bt X n w u)(hv:bt X n w v):bt X n w fun c=>u c+x*v c:=by
 obtain⟨y,hy⟩:=hu
 obtain⟨z,hz⟩:=hv
 refine⟨fun k=>y k+x*z k,fun c hc=>?_⟩
 show u c+x*v c=S n fun k=>(y k+x*z k)*g X k c
 rw[hy c hc,hz c hc,←nF,←lI]
 exact bT fun k _=>by rw[Int.add_mul,Int.mul_assoc]
theorem bt.eq{X:Rows}{n w:Nat}{u v:Nat→Int}(hu:bt X n w u)(h:∀c,c<w→v c=u c):bt X n w v:=by
 obtain⟨y,hy⟩:=hu
 exact⟨y,fun c hc=>(h c hc).trans (hy c hc)⟩
structure dP(X:Rows)(n:Nat)(Y:Rows)(m w:Nat):Prop where
 to:∀k,k<n→bt Y m w (g X k)
 of:∀k,k<m→bt X n w (g Y k)
theorem dP.refl(X:Rows)(n w:Nat):dP X n X n w:=⟨fun _ h=>bt.row h,fun _ h=>bt.row h⟩
theorem dP.trans{X Y Z:Rows}{n m l w:Nat}(h:dP X n Y m w)(h':dP Y m Z l w):dP X n Z l w:=
 ⟨fun k hk=>bt.trans h'.to (h.to k hk),fun k hk=>bt.trans h.of (h'.of k hk)⟩
theorem dP.add{X Y:Rows}{n w k o:Nat}{x:Int}(hk:k<n)(ho:o<n)(hko:k≠o)(e:∀q,q<w→g Y k q=g X k q+x*g X o q)(h:∀i q,i<n→i≠k→q<w→g Y i q=g X i q):dP X n Y n w:=by
 refine⟨fun i hi=>?_,fun i hi=>?_⟩
 · by_cases hik:i=k
   · subst hik
     refine((bt.row hk).wB (-x) (bt.row ho)).eq fun q hq=>?_
     rw[e q hq,h o q ho (Ne.symm hko) hq,Int.neg_mul]
     omega
   · exact(bt.row hi).eq fun q hq=>(h i q hi hik hq).symm
 · by_cases hik:i=k
   · subst hik
     exact((bt.row hk).wB x (bt.row ho)).eq e
   · exact(bt.row hi).eq fun q hq=>h i q hi hik hq
theorem dP.perm{X Y:Rows}{n w:Nat}{f:Nat→Nat}(hf:∀i,i<n→f i<n)(hff:∀i,f (f i)=i)(e:∀i q,i<n→q<w→g Y i q=g X (f i) q):dP X n Y n w:=
 ⟨fun i hi=>(bt.row (hf i hi)).eq fun q hq=>by rw[e (f i) q (hf i hi) hq,hff],fun i hi=>(bt.row (hf i hi)).eq fun q hq=>e i q hi hq⟩
theorem dP.neg{X Y:Rows}{n w k:Nat}(hk:k<n)(e:∀q,q<w→g Y k q= -g X k q)(h:∀i q,i<n→i≠k→q<w→g Y i q=g X i q):dP X n Y n w:=by
 have ng:∀ {Z:Rows} {u:Nat→Int},bt Z n w u→bt Z n w fun q=> -u q:=fun{Z u} hu=>(hu.wB (-2) hu).eq fun q _=>by omega
 refine⟨fun i hi=>?_,fun i hi=>?_⟩
 · by_cases hik:i=k
   · subst hik
     exact(ng (bt.row hk)).eq fun q hq=>by rw[e q hq,Int.neg_neg]
   · exact(bt.row hi).eq fun q hq=>(h i q hi hik hq).symm
 · by_cases hik:i=k
   · subst hik
     exact(ng (bt.row hk)).eq e
   · exact(bt.row hi).eq fun q hq=>h i q hi hik hq
theorem dP.ins{X Y:Rows}{n w k:Nat}(hk:k≤n)(hr:bt X n w (g Y k))(lo:∀i q,i<k→q<w→g Y i q=g X i q)(hi:∀i q,k≤i→i<n→q<w→g Y (i+1) q=g X i q):dP X n Y (n+1) w:=by
 refine⟨fun i h=>?_,fun i h=>?_⟩
 · by_cases l:i<k
   · exact(bt.row (Nat.lt_succ_of_lt h)).eq fun q hq=>(lo i q l hq).symm
   · exact(bt.row (Nat.succ_lt_succ h)).eq fun q hq=>(hi i q (Nat.le_of_not_lt l) h hq).symm
 · rcases Nat.lt_trichotomy i k with l|l|l
   · exact(bt.row (Nat.lt_of_lt_of_le l hk)).eq fun q hq=>lo i q l hq
   · subst l;exact hr
   · cases i with
     |zero=>exact absurd l (Nat.not_lt_zero _)
     |succ i=>exact(bt.row (Nat.lt_of_succ_lt_succ h)).eq fun q hq=>hi i q (Nat.le_of_lt_succ l) (Nat.lt_of_succ_lt_succ h) hq
theorem bt.zero{X:Rows}{n w:Nat}{v:Nat→Int}(h:∀c,c<w→v c=0):bt X n w v:=
 ⟨fun _=>0,fun c hc=>by rw[h c hc,pB fun k _=>Int.zero_mul _]⟩
end Mx
namespace Mx
structure gy(A:Rows)(N w M:Nat)(X:Rows)(m:Nat):Prop where
 is:bK m w X
 lo:1≤m
 hi:m≤8
 bd:∀r∈X,∀x∈r,x.natAbs≤M
 same:dP A N X m w
theorem gy.more{A X:Rows}{N w M M' m:Nat}(h:gy A N w M X m)(l:M≤M'):gy A N w M' X m:=⟨h.is,h.lo,h.hi,fun r hr x hx=>Nat.le_trans (h.bd r hr x hx) l,h.same⟩
theorem gy.mem{A X:Rows}{N w M m k:Nat}(h:gy A N w M X m)(hk:k<m):X.getD k []∈X:=by
 rw[bJ (by rw[h.is.len];exact hk)];exact List.getElem_mem _
theorem tT{M:Nat}{r s:Row}{c:Int}(hr:∀x∈r,x.natAbs≤M)(hs:∀x∈s,x.natAbs≤M)(hc:c.natAbs≤7):∀x∈dh r c s,x.natAbs≤M*8:=fun x hx=>by
 unfold dh at hx
 obtain⟨k,hk,e⟩:=List.mem_iff_getElem.mp hx
 rw[List.getElem_zipWith]at e
 rw[List.length_zipWith]at hk
 have h1:=hr _ (List.getElem_mem (Nat.lt_of_lt_of_le hk (Nat.min_le_left _ _)))
 have h2:=hs _ (List.getElem_mem (Nat.lt_of_lt_of_le hk (Nat.min_le_right _ _)))
 rw[←e]
 refine Nat.le_trans (Int.natAbs_add_le _ _) ?_
 rw[Int.natAbs_mul]
 have:=Nat.mul_le_mul hc h2
 omega
theorem gy.put{A X:Rows}{N w M M' m k:Nat}{r:Row}(h:gy A N w M X m)(l:M≤M')(hr:r.length=w)(hb:∀x∈r,x.natAbs≤M')(s:dP X m (X.set k r) m w):gy A N w M' (X.set k r) m:=
 ⟨t_ h.is hr,h.lo,h.hi,fun q hq x hx=>(List.mem_or_eq_of_mem_set hq).elim (fun z=>Nat.le_trans (h.bd q z x hx) l) (fun z=>hb x (z▸hx)),h.same.trans s⟩
theorem gy.add{A X:Rows}{N w M m k o:Nat}{c:Int}(h:gy A N w M X m)(hk:k<m)(ho:o<m)(hko:k≠o)(hc:c.natAbs≤7):gy A N w (M*8) (X.set k (dh (X.getD k []) c (X.getD o []))) m:=by
 have lX:k<X.length:=by rw[h.is.len];exact hk
 have e:(X.getD k []).length=(X.getD o []).length:=(h.is.row hk).trans (h.is.row ho).symm
 refine h.put (Nat.le_mul_of_pos_right _ (by decide)) (by rw[md e];exact h.is.row hk) (tT (h.bd _ (h.mem hk)) (h.bd _ (h.mem ho)) hc) (dP.add (x:=c) hk ho hko (fun q _=>?_) fun i q _ hi _=>?_)
 · rw[kR lX,if_pos rfl,nB e];rfl
 · rw[kR lX,if_neg hi]
theorem gy.neg{A X:Rows}{N w M m k:Nat}(h:gy A N w M X m)(hk:k<m):gy A N w M (X.set k ((X.getD k []).map fun x=> -x)) m:=by
 have lX:k<X.length:=by rw[h.is.len];exact hk
 refine h.put (Nat.le_refl _) (by rw[List.length_map];exact h.is.row hk) (fun x hx=>?_) (dP.neg hk (fun q _=>?_) fun i q _ hi _=>?_)
 · obtain⟨y,hy,rfl⟩:=List.mem_map.mp hx
   rw[Int.natAbs_neg]
   exact h.bd _ (h.mem hk) y hy
 · rw[kR lX,if_pos rfl]
   unfold g
   generalize X.getD k []=r
   rw[List.getD_eq_getElem?_getD,List.getElem?_map,List.getD_eq_getElem?_getD]
   cases r[q]?<;>rfl
 · rw[kR lX,if_neg hi]
theorem gy.swap{A X:Rows}{N w M m k o:Nat}(h:gy A N w M X m)(hk:k<m)(ho:o<m):gy A N w M ((X.set k (X.getD o [])).set o (X.getD k [])) m:=by
 have lX:k<X.length:=by rw[h.is.len];exact hk
 have lo:o<(X.set k (X.getD o [])).length:=by rw[List.length_set,h.is.len];exact ho
 refine⟨t_ (t_ h.is (h.is.row ho)) (h.is.row hk),h.lo,h.hi,fun q hq x hx=>?_,h.same.trans (dP.perm (f:=fun i=>if i=o then k else if i=k then o else i) (fun i hi=>?_) (fun i=>?_) fun i q _ _=>?_)⟩
 · rcases List.mem_or_eq_of_mem_set hq with z|z
   · rcases List.mem_or_eq_of_mem_set z with z|z
     · exact h.bd q z x hx
     · exact h.bd _ (h.mem ho) x (z▸hx)
   · exact h.bd _ (h.mem hk) x (z▸hx)
 · show(if i=o then k else if i=k then o else i)<m
   split
   · exact hk
   · split
     · exact ho
     · exact hi
 · show(if(if i=o then k else if i=k then o else i)=o then k else if(if i=o then k else if i=k then o else i)=k then o else(if i=o then k else if i=k then o else i))=i
   by_cases h1:i=o
   · rw[if_pos h1,if_pos rfl]
     split
     · rename_i z;rw[z,h1]
     · exact h1.symm
   · rw[if_neg h1]
     by_cases h2:i=k
     · rw[if_pos h2,if_pos rfl];exact h2.symm
     · rw[if_neg h2,if_neg h1,if_neg h2]
 · show _=g X (if i=o then k else if i=k then o else i) q
   rw[kR lo,kR lX]
   split
   · rfl
   · split<;>rfl
theorem iS{X:Rows}{r:Row}{k:Nat}(hk:k≤X.length)(i:Nat):(X.take k++r::X.drop k).getD i []=if i<k then X.getD i []else if i=k then r else X.getD (i-1) []:=by
 have lt:(X.take k).length=k:=by rw[List.length_take];omega
 rw[List.getD_eq_getElem?_getD,List.getD_eq_getElem?_getD,List.getD_eq_getElem?_getD]
 by_cases h:i<k
 · rw[if_pos h,List.getElem?_append_left (by rw[lt];exact h),List.getElem?_take_of_lt h]
 · rw[if_neg h,List.getElem?_append_right (by rw[lt];omega),lt]
   by_cases h2:i=k
   · rw[if_pos h2,h2,Nat.sub_self];rfl
   · rw[if_neg h2]
     have:i-k=(i-1-k)+1:=by omega
     rw[this,List.getElem?_cons_succ,List.getElem?_drop]
     congr 2;omega
theorem gy.ins{A X:Rows}{N w M m k o:Nat}{c:Int}(h:gy A N w M X m)(hk:k<m)(ho:o<m)(hm:m<8)(hc:c.natAbs≤7):gy A N w (M*8) (X.take k++dh (X.getD k []) c (X.getD o [])::X.drop k) (m+1):=by
 have lX:k≤X.length:=by rw[h.is.len];exact Nat.le_of_lt hk
 have e:(X.getD k []).length=(X.getD o []).length:=(h.is.row hk).trans (h.is.row ho).symm
 have mem:∀q∈X.take k++dh (X.getD k []) c (X.getD o [])::X.drop k,q∈X∨q=dh (X.getD k []) c (X.getD o []):=fun q hq=>by
  rcases List.mem_append.mp hq with z|z
  · exact .inl (List.mem_of_mem_take z)
  · rcases List.mem_cons.mp z with z|z
    · exact .inr z
    · exact .inl (List.mem_of_mem_drop z)
 refine⟨⟨?_,fun q hq=>?_⟩,Nat.le_succ_of_le h.lo,hm,fun q hq x hx=>?_,h.same.trans (dP.ins (Nat.le_of_lt hk) ?_ (fun i q hi _=>?_) fun i q hi _ _=>?_)⟩
 · rw[List.length_append,List.length_cons,List.length_take,List.length_drop,h.is.len];omega
 · rcases mem q hq with z|z
   · exact h.is.j5 q z
   · rw[z,md e];exact h.is.row hk
 · rcases mem q hq with z|z
   · exact Nat.le_trans (h.bd q z x hx) (Nat.le_mul_of_pos_right _ (by decide))
   · exact tT (h.bd _ (h.mem hk)) (h.bd _ (h.mem ho)) hc x (z▸hx)
 · refine((bt.row hk).wB c (bt.row ho)).eq fun q _=>?_
   unfold g
   rw[iS lX,if_neg (Nat.lt_irrefl k),if_pos rfl,nB e]
 · unfold g
   rw[iS lX,if_pos hi]
 · unfold g
   rw[iS lX,if_neg (by omega),if_neg (by omega),Nat.add_sub_cancel]
end Mx
namespace Mx
structure Fm(F:Rows)(n w a:Nat)(ld:Nat→Nat):Prop where
 is:bK n w F
 st:cp F n w ld
 rd:mL F n ld
 lo:d5 F n 0 (2^a)
theorem cp.eqv{X Y:Rows}{n w:Nat}{ld ld':Nat→Nat}(s:cp X n w ld)(h:∀i q,i<n→g Y i q=g X i q)(e:∀i,i<n→ld' i=ld i):cp Y n w ld':=
 ⟨fun i hi=>by
  obtain⟨h1,h2,h3⟩:=s.lead i hi
  rw[e i hi,h i _ hi]
  exact⟨h1,h2,fun c hc=>by rw[h i c hi];exact h3 c hc⟩,fun i j hij hj=>by rw[e i (Nat.lt_trans hij hj),e j hj];exact s.mono i j hij hj⟩
theorem Fm.of{A:Rows}{N w top a e0:Nat}{c:B3}(hA:bK N w A)(hlo:d5 A N 0 (2^e0))(hN:N≤8)(hz:∀t,t≤N→Vz N e0 t≤a)(h:cE A N w top c):∃ld,eB A N w c top w ld (Ez N e0 top) (Vz N e0 top)∧Fm (c.A.take top) top w a ld:=by
 obtain⟨ld,s⟩:=h.oq hA hlo hN (Nat.le_refl _)
 refine⟨ld,s,kb s.tn.isA s.le,s.gG.1.eqv (fun i q hi=>gM hi) fun _ _=>rfl,fun i j hij hj=>?_,fun i q _ hi=>?_⟩
 · rw[gM (Nat.lt_trans hij hj),gM hj]
   exact s.red i j hij hj
 · rw[gM hi]
   exact Nat.le_trans (s.hi i q hi).1 (Nat.pow_le_pow_right (by decide) (hz top s.le))
structure gS(F:Rows)(n:Nat)(A:Rows)(N:Nat)(φ:Nat→Nat)(x:Nat→Int):Prop where
 x1:∀i,0<x i∧x i≤8
 row:∀i q,i<N→g A i q=if φ i<n then x i*g F (φ i) q else 0
 inj:∀i j,i<N→j<N→φ i=φ j→φ i<n→i=j
theorem Fm.low{F A:Rows}{n w a N:Nat}{ld φ:Nat→Nat}{x:Nat→Int}(h:Fm F n w a ld)(P:gS F n A N φ x):d5 A N 0 (2^(a+3)):=fun i q _ hi=>by
 rw[P.row i q hi]
 split
 · rename_i hf
   rw[Int.natAbs_mul,Nat.pow_add,Nat.mul_comm]
   have:=P.x1 i
   exact Nat.mul_le_mul (h.lo _ q (Nat.zero_le _) hf) (by omega)
 · exact Nat.zero_le _
theorem Fm.nr{F A:Rows}{n w a N:Nat}{ld φ:Nat→Nat}{x:Nat→Int}(h:Fm F n w a ld)(P:gS F n A N φ x):Nr N 0 ⟨A,units N,units N⟩ 3 (a+3):=by
 have fst:∀i f y,i<N→f<n→0<y→(∀q,g A i q=y*g F f q)→φ i=f:=fun i f y hi hf hy e=>by
  have ne:g A i (ld f)≠0:=by rw[e];exact Int.ne_of_gt (Int.mul_pos hy (h.st.lead f hf).2.1)
  have hr:=P.row i
  by_cases hp:φ i<n
  · have z:∀c,c<ld f→g A i c=0:=fun c hc=>by rw[e,(h.st.lead f hf).2.2 c hc,Int.mul_zero]
    have:=h.st.first hp (P.x1 i).1 (fun c=>by rw[hr c hi,if_pos hp]) z ne
    exact(h.st.inj hf hp this).symm
  · rw[hr _ hi,if_neg hp]at ne
    exact absurd rfl ne
 refine Nr.rows h.st h.rd (h.low P) (fun i hi=>?_) fun i j f y y' hi hj hij hf e e' hy hy'=>?_
 · by_cases hp:φ i<n
   · exact .inr ⟨φ i,x i,hp,(P.x1 i).1,(P.x1 i).2,fun q=>by rw[P.row i q hi,if_pos hp]⟩
   · exact .inl fun q=>by rw[P.row i q hi,if_neg hp]
 · have e1:=fst i f y hi hf hy e
   have e2:=fst j f y' hj hf hy' e'
   exact hij (P.inj i j hi hj (e1.trans e2.symm) (by rw[e1];exact hf))
theorem Fm.iI{F A:Rows}{n w a N z:Nat}{ld φ:Nat→Nat}{x:Nat→Int}(h:Fm F n w a ld)(P:gS F n A N φ x)(hA:bK N w A)(hN:N≤8)(hw:w≤8)(hz:a+5003≤z)(p t:Nat)(c:B3)(hp:p<w)(H:cE A N p t c):ke N p t z c:=
 cE.pF hA (h.low P) hN hw .start (h.nr P) (by omega) hp (Nat.zero_le _) H
theorem Fm.pv{F A:Rows}{n w a N top e0:Nat}{ld:Nat→Nat}{c:B3}(h:Fm F n w a ld)(hA:bK N w A)(hlo:d5 A N 0 (2^e0))(hN:N≤8)(h1:∀k,k<N→bt F n w (g A k))(h2:∀k,k<n→bt A N w (g F k))(H:cE A N w top c):c.A.take top=F:=by
 obtain⟨ld',s⟩:=H.oq hA hlo hN (Nat.le_refl _)
 exact s.pv h.is h.st h.rd h1 h2
theorem Fm.picked{F A:Rows}{n w a N top:Nat}{ld φ:Nat→Nat}{c:B3}(h:Fm F n w a ld)(P:gS F n A N φ fun _=>1)(hA:bK N w A)(hN:N≤8)(sj:∀f,f<n→∃i,i<N∧φ i=f)(H:cE A N w top c):c.A.take top=F:=by
 refine h.pv hA (h.low P) hN (fun k hk=>?_) (fun f hf=>?_) H
 · by_cases hp:φ k<n
   · exact(bt.row hp).eq fun q _=>by rw[P.row k q hk,if_pos hp,Int.one_mul]
   · exact bt.zero fun q _=>by rw[P.row k q hk,if_neg hp]
 · obtain⟨i,hi,rfl⟩:=sj f hf
   exact(bt.row hi).eq fun q _=>by rw[P.row i q hi,if_pos hf,Int.one_mul]
theorem Fm.E7{F A:Rows}{n w a top k:Nat}{ld:Nat→Nat}{c:B3}{x:Int}(h:Fm F n w a ld)(hk:k<n)(P:gS F n A n (fun i=>i) fun i=>if i=k then x else 1)(hA:bK n w A)(hN:n≤8)(H:cE A n w top c):
 top=n∧bK n w (c.A.take top)∧cp (c.A.take top) n w ld∧∀i,i<n→g (c.A.take top) i (ld i)=(if i=k then x else 1)*g F i (ld i):=by
 obtain⟨ld',s⟩:=H.oq hA (h.low P) hN (Nat.le_refl _)
 have row:∀i q,i<n→g A i q=(if i=k then x else 1)*g F i q:=fun i q hi=>by rw[P.row i q hi,if_pos hi]
 have sA:cp A n w ld:=⟨fun i hi=>by
  obtain⟨h1,h2,h3⟩:=h.st.lead i hi
  refine⟨h1,?_,fun c hc=>by rw[row i c hi,h3 c hc,Int.mul_zero]⟩
  rw[row i _ hi]
  exact Int.mul_pos (P.x1 i).1 h2,h.st.mono⟩
 have e:=sA.many s.gG.1 s.out s.in
 subst e
 have sm:=sA.same s.gG.1 s.out s.in
 refine⟨rfl,kb s.tn.isA (Nat.le_refl _),s.gG.1.eqv (fun i q hi=>gM hi) fun i hi=>(sm i hi).2.1.symm,fun i hi=>?_⟩
 rw[gM hi,(sm i hi).2.2,row i _ hi]
theorem Sm.step{A0:Rows}{N w p k j a:Nat}{b:B3}(T:Tn A0 b.A b.U b.C N w)(hk:k<N)(hj:j<N)(eq1:qn (g b.A k p) (g b.A j p)=1)(sm:Sm b N (2^a)):Sm (d9 b p k j) N (2^(a+1)):=fun i q hi=>by
 have dbl:∀ {x y:Int},x.natAbs≤2^a→y.natAbs≤2^a→(x-1*y).natAbs≤2^(a+1)∧(x- -1*y).natAbs≤2^(a+1):=fun{x y} h1 h2=>by
  rw[Nat.pow_succ];omega
 have up:2^a≤2^(a+1):=Nat.pow_le_pow_right (by decide) (Nat.le_succ _)
 refine⟨?_,?_,?_⟩
 · show(g (bc b.A k _ j) i q).natAbs≤_
   rw[cx T.isA hk hj,eq1]
   split
   · exact(dbl (sm k q hk).1 (sm j q hj).1).1
   · exact Nat.le_trans (sm i q hi).1 up
 · show(g (bc b.U k _ j) i q).natAbs≤_
   rw[cx T.d6 hk hj,eq1]
   split
   · exact(dbl (sm k q hk).2.1 (sm j q hj).2.1).1
   · exact Nat.le_trans (sm i q hi).2.1 up
 · show(g (bc b.C j _ k) i q).natAbs≤_
   rw[cx T.eL hj hk,eq1]
   split
   · exact(dbl (sm j q hj).2.2 (sm k q hk).2.2).2
   · exact Nat.le_trans (sm i q hi).2.2 up
theorem Sm.more{N M M':Nat}{b:B3}(h:Sm b N M)(l:M≤M'):Sm b N M':=fun i q hi=>⟨Nat.le_trans (h i q hi).1 l,Nat.le_trans (h i q hi).2.1 l,Nat.le_trans (h i q hi).2.2 l⟩
theorem Fm.sum{F A:Rows}{n w a j z:Nat}{ld:Nat→Nat}(h:Fm F n w a ld)(hj:j<n)(hN:n+1≤8)(hw:w≤8)(hA:bK (n+1) w A)(r0:∀q,g A 0 q=g F 0 q-g F j q)(r1:∀i q,i<n→g A (i+1) q=g F i q)(hz:a+5005≤z):
 d5 A (n+1) 0 (2^(a+3))∧(∀p t c,p<w→cE A (n+1) p t c→ke (n+1) p t z c)∧∀top c,cE A (n+1) w top c→c.A.take top=F:=by
 have n0:0<n:=Nat.lt_of_le_of_lt (Nat.zero_le _) hj
 have low1:d5 A (n+1) 0 (2^(a+1)):=fun i q _ hi=>by
  rw[Nat.pow_succ]
  cases i with
  |zero=>
   have h1:=h.lo 0 q (Nat.le_refl _) n0
   have h2:=h.lo j q (Nat.zero_le _) hj
   rw[r0];omega
  |succ i=>
   have h1:=h.lo i q (Nat.zero_le _) (Nat.lt_of_succ_lt_succ hi)
   rw[r1 i q (Nat.lt_of_succ_lt_succ hi)];omega
 have low:d5 A (n+1) 0 (2^(a+3)):=fun i q h1 h2=>Nat.le_trans (low1 i q h1 h2) (Nat.pow_le_pow_right (by decide) (by omega))
 refine⟨low,?_,fun top c H=>h.pv hA low hN (fun k hk=>?_) (fun k hk=>?_) H⟩
 rotate_left
 · cases k with
   |zero=>exact((bt.row n0).sub (bt.row hj)).eq fun q _=>r0 q
   |succ k=>exact(bt.row (Nat.lt_of_succ_lt_succ hk)).eq fun q _=>r1 k q (Nat.lt_of_succ_lt_succ hk)
 · exact(bt.row (Nat.succ_lt_succ hk)).eq fun q _=>(r1 k q hk).symm
 by_cases j0:j=0
 · subst j0
   refine h.iI (φ:=fun i=>if i=0 then n else i-1) (x:=fun _=>1) ⟨fun _=>⟨by decide,by decide⟩,fun i q hi=>?_,fun i k hi hk e hf=>?_⟩ hA hN hw (by omega)
   · cases i with
     |zero=>rw[r0,Int.sub_self,if_neg (by simp)]
     |succ i=>
      have hi:=Nat.lt_of_succ_lt_succ hi
      rw[r1 i q hi,if_neg (Nat.succ_ne_zero i),Nat.add_sub_cancel,if_pos hi,Int.one_mul]
   · cases i with
     |zero=>rw[if_pos rfl]at hf;exact absurd hf (Nat.lt_irrefl _)
     |succ i=>
      cases k with
      |zero=>rw[e,if_pos rfl]at hf;exact absurd hf (Nat.lt_irrefl _)
      |succ k=>
       rw[if_neg (Nat.succ_ne_zero i),if_neg (Nat.succ_ne_zero k),Nat.add_sub_cancel,Nat.add_sub_cancel]at e
       rw[e]
 have ldj:ld 0<ld j:=h.st.mono 0 j (Nat.pos_of_ne_zero j0) hj
 have ld0:∀i,i<n→ld 0≤ld i:=fun i hi=>by
  by_cases e:i=0
  · rw[e];exact Nat.le_refl _
  · exact Nat.le_of_lt (h.st.mono 0 i (Nat.pos_of_ne_zero e) hi)
 obtain⟨lw,lp,lz⟩:=h.st.lead 0 n0
 have z0:∀i q,i<n+1→q<ld 0→g A i q=0:=fun i q hi hq=>by
  cases i with
  |zero=>rw[r0,lz q hq,(h.st.lead j hj).2.2 q (Nat.lt_trans hq ldj),Int.sub_self]
  |succ i=>
   have hi:=Nat.lt_of_succ_lt_succ hi
   rw[r1 i q hi]
   exact(h.st.lead i hi).2.2 q (Nat.lt_of_lt_of_le hq (ld0 i hi))
 have none:∀q,q<ld 0→d_ A (n+1) 0 q []:=fun q hq=>⟨fun k=>by
  constructor
  · intro m;cases m
  · exact fun m=>absurd (z0 k q m.2.1 hq) m.2.2,List.Pairwise.nil⟩
 have cols:∀q,q≤ld 0→cE A (n+1) q 0 ⟨A,units (n+1),units (n+1)⟩:=fun q=>by
  induction q with
  |zero=>exact fun _=> .start
  |succ q ih=>exact fun hq=> .next (ih (Nat.le_of_lt hq)) (.none (none q hq))
 have S0:=eB.start hA low1
 have sm0:Sm ⟨A,units (n+1),units (n+1)⟩ (n+1) (2^(a+1)):=fun i q hi=>⟨S0.lo.1 i q (Nat.zero_le _) hi,S0.lo.2.1 i q (Nat.zero_le _) hi,S0.lo.2.2 i q (Nat.zero_le _) hi⟩
 have a0:g A 0 (ld 0)=g F 0 (ld 0):=by rw[r0,(h.st.lead j hj).2.2 _ ldj,Int.sub_zero]
 have a1:g A 1 (ld 0)=g F 0 (ld 0):=r1 0 _ n0
 have az:∀i,i<n→i≠0→g F i (ld 0)=0:=fun i hi h0=>(h.st.lead i hi).2.2 _ (h.st.mono 0 i (Nat.pos_of_ne_zero h0) hi)
 have fp:g F 0 (ld 0)≠0:=Int.ne_of_gt lp
 have live0:d_ A (n+1) 0 (ld 0) ([]++[0,1]):=⟨fun k=>by
  constructor
  · intro m
    have:k=0∨k=1:=by simpa using m
    rcases this with rfl|rfl
    · exact⟨Nat.le_refl _,Nat.succ_pos _,by rw[a0];exact fp⟩
    · exact⟨Nat.zero_le _,Nat.succ_lt_succ n0,by rw[a1];exact fp⟩
  · rintro⟨_,m1,m2⟩
    match k,m1,m2 with
    |0,_,_=>simp
    |1,_,_=>simp
    |k+2,m1,m2=>
     have hk:=Nat.lt_of_succ_lt_succ m1
     rw[r1 (k+1) _ hk]at m2
     exact absurd (az (k+1) hk (Nat.succ_ne_zero k)) m2,by
  rw[List.nil_append,List.pairwise_cons]
  refine⟨fun k hk=>?_,List.pairwise_singleton _ _⟩
  have:k=1:=by simpa using hk
  subst this
  exact .inr ⟨by rw[a0,a1],by decide⟩⟩
 have T0:=Tn.start hA
 have q1:qn (g A 1 (ld 0)) (g A 0 (ld 0))=1:=by rw[a0,a1];exact ve fp
 have st1:ko (n+1) 0 (ld 0) ⟨A,units (n+1),units (n+1)⟩ (d9 ⟨A,units (n+1),units (n+1)⟩ (ld 0) 1 0):=⟨[],1,0,live0,rfl⟩
 have sm1:Sm (d9 ⟨A,units (n+1),units (n+1)⟩ (ld 0) 1 0) (n+1) (2^(a+1+1)):=sm0.step T0 (Nat.succ_lt_succ n0) (Nat.succ_pos _) q1
 have gA1:∀i q,g (d9 ⟨A,units (n+1),units (n+1)⟩ (ld 0) 1 0).A i q=if i=1 then g F j q else g A i q:=fun i q=>by
  show g (bc A 1 _ 0) i q=_
  rw[cx hA (Nat.succ_lt_succ n0) (Nat.succ_pos _)]
  show(if i=1 then g A 1 q-qn (g A 1 (ld 0)) (g A 0 (ld 0))*g A 0 q else g A i q)=_
  rw[q1,r1 0 q n0,r0,Int.one_mul]
  split
  · omega
  · rfl
 obtain⟨gr,G⟩:=(cL.head st1 (.refl _)).mq lw ((cols (ld 0) (Nat.le_refl _)).oq hA low1 hN (Nat.le_of_lt lw)).choose_spec.mq
 have T1:=G.tn
 generalize d9 ⟨A,units (n+1),units (n+1)⟩ (ld 0) 1 0=c1 at st1 sm1 gA1 T1
 have live1:d_ c1.A (n+1) 0 (ld 0) [0]:=⟨fun k=>by
  rw[List.mem_singleton]
  constructor
  · rintro rfl
    exact⟨Nat.le_refl _,Nat.succ_pos _,by rw[gA1,if_neg (by decide),a0];exact fp⟩
  · rintro⟨_,m1,m2⟩
    match k,m1,m2 with
    |0,_,_=>rfl
    |1,_,m2=>rw[gA1,if_pos rfl]at m2;exact absurd (az j hj j0) m2
    |k+2,m1,m2=>
     have hk:=Nat.lt_of_succ_lt_succ m1
     rw[gA1,if_neg (by omega),r1 (k+1) _ hk]at m2
     exact absurd (az (k+1) hk (Nat.succ_ne_zero k)) m2,List.pairwise_singleton _ _⟩
 have reach:∀c,cL (n+1) 0 (ld 0) ⟨A,units (n+1),units (n+1)⟩ c→c=⟨A,units (n+1),units (n+1)⟩∨c=c1:=fun c H=>by
  cases H with
  |refl=>exact .inl rfl
  |head s t=>
   rw[s.unique st1]at t
   cases t with
   |refl=>exact .inr rfl
   |head s2 _=>exact(kl.stop ⟨[0],live1,Nat.le_refl _⟩ s2).elim
 obtain⟨ab,ne⟩:=xt (p:=ld 0) (r:=0) T1 (Nat.succ_pos n) (Nat.succ_pos n)
 have sw0:∀i,sw 0 0 i=i:=fun i=>by
  unfold sw
  split
  · rename_i e;exact e.symm
  · rfl
 have smS:Sm (setB c1 (ld 0) 0 0) (n+1) (2^(a+1+1)):=fun i q hi=>by
  obtain⟨b1,b2,b3⟩:=ab i q
  rw[b1,b2,b3,sw0]
  exact sm1 i q hi
 have cols1:cE A (n+1) (ld 0+1) 1 (setB c1 (ld 0) 0 0):= .next (cols (ld 0) (Nat.le_refl _)) (.one (.head st1 (.refl _)) live1)
 have row:∀i,1≤i→i<n+1→∃f,f<n∧∀q,g (setB c1 (ld 0) 0 0).A i q=g F f q:=fun i h1 h2=>by
  match i,h1,h2 with
  |1,_,_=>exact⟨j,hj,fun q=>by rw[ne 1 q (by decide),sw0,gA1,if_pos rfl]⟩
  |i+2,_,h2=>
   have hk:=Nat.lt_of_succ_lt_succ h2
   exact⟨i+1,hk,fun q=>by rw[ne _ q (by omega),sw0,gA1,if_neg (by omega),r1 (i+1) q hk]⟩
 have nr:Nr (n+1) 1 (setB c1 (ld 0) 0 0) 3 (a+1+1):=by
  refine Nr.made h.st (fun i f hi hf=>?_) (fun i h1 h2=>?_) (fun i k f x y h1 h2 h3 h4 h5 hf ex ey hx hy q=>?_) smS
  · have big:∀ {x:Int},x.natAbs≤(g F f (ld f)).natAbs→x.natAbs≤2^3*(g F f (ld f)).natAbs:=fun hx=>by omega
    have at':=fun k (hk:k<n)=>h.rd.at h.st hk hf
    rw[(ab i (ld f)).1,sw0,gA1]
    refine big ?_
    split
    · have:=at' j hj;omega
    · cases i with
      |zero=>
       have h1:=at' j hj
       have h2:=at' 0 n0
       rw[r0];omega
      |succ i=>
       have h1:=at' i (Nat.lt_of_succ_lt_succ hi)
       rw[r1 i _ (Nat.lt_of_succ_lt_succ hi)];omega
  · obtain⟨f,hf,e⟩:=row i h1 h2
    exact .inr ⟨f,1,hf,by decide,fun q=>by rw[e,Int.one_mul]⟩
  · have go:∀i x,1≤i→i<n+1→0<x→(∀q,g (setB c1 (ld 0) 0 0).A i q=x*g F f q)→∀q,g (setB c1 (ld 0) 0 0).A i q=g F f q:=fun i x h1 h2 hx ex=>by
     obtain⟨f',hf',e⟩:=row i h1 h2
     obtain⟨m1,m2,m3⟩:=h.st.lead f' hf'
     have e1:=h.st.first hf hx ex (q:=ld f') (fun c hc=>by rw[e];exact m3 c hc) (by rw[e];exact Int.ne_of_gt m2)
     have e2:=h.st.inj hf' hf e1
     subst e2
     exact e
    rw[go i x h1 h2 hx ex,go k y h3 h4 hy ey]
 intro p t c hp H
 by_cases hl:ld 0+1≤p
 · exact cE.pF hA low1 hN hw cols1 nr (by omega) hp hl H
 have hl:p≤ld 0:=Nat.le_of_lt_succ (Nat.lt_of_not_le hl)
 obtain⟨rfl,rfl⟩:=(cols p hl).unique H
 have u0:2^(a+1)≤2^z:=Nat.pow_le_pow_right (by decide) (by omega)
 have u1:2^(a+1+1)≤2^z:=Nat.pow_le_pow_right (by decide) (by omega)
 by_cases e:p=ld 0
 · subst e
   refine⟨fun c H=>?_,fun c r k H l hk=>?_⟩
   · rcases reach c H with rfl|rfl
     · exact sm0.more u0
     · exact sm1.more u1
   · rcases reach c H with rfl|rfl
     · have:=l.unique live0;cases this
     · have:=l.unique live1
       cases this
       have:k=0:=Nat.le_zero.mp hk
       subst this
       exact smS.more u1
 · have hlt:p<ld 0:=Nat.lt_of_le_of_ne hl e
   refine⟨fun c H=>?_,fun c r k H l hk=>?_⟩
   · cases H with
     |refl=>exact sm0.more u0
     |head s _=>exact(kl.stop ⟨[],none p hlt,Nat.zero_le _⟩ s).elim
   · cases H with
     |refl=>have:=l.unique (none p hlt);cases this
     |head s _=>exact(kl.stop ⟨[],none p hlt,Nat.zero_le _⟩ s).elim
end Mx
namespace Mx
theorem uO{X R:Rows}{k l:Nat}(hk:k≤X.length)(i:Nat):(X.take k++R++X.drop l).getD i []=if i<k then X.getD i []else if i<k+R.length then R.getD (i-k) []else X.getD (l+(i-k-R.length)) []:=by
 have lt:(X.take k).length=k:=by rw[List.length_take];omega
 rw[List.append_assoc,List.getD_eq_getElem?_getD]
 by_cases h:i<k
 · rw[if_pos h,List.getElem?_append_left (by rw[lt];exact h),List.getElem?_take_of_lt h,List.getD_eq_getElem?_getD]
 · rw[if_neg h,List.getElem?_append_right (by rw[lt];omega),lt]
   by_cases h2:i<k+R.length
   · rw[if_pos h2,List.getElem?_append_left (by omega),List.getD_eq_getElem?_getD]
   · rw[if_neg h2,List.getElem?_append_right (by omega),List.getElem?_drop,List.getD_eq_getElem?_getD]
theorem x_{X R:Rows}{k l n m w:Nat}(hX:bK n w X)(hR:∀r∈R,r.length=w)(hk:k≤n)(hl:k+R.length+(n-l)=m):bK m w (X.take k++R++X.drop l):=by
 refine⟨?_,fun q hq=>?_⟩
 · rw[List.length_append,List.length_append,List.length_take,List.length_drop,hX.len];omega
 · rcases List.mem_append.mp hq with z|z
   · rcases List.mem_append.mp z with z|z
     · exact hX.j5 q (List.mem_of_mem_take z)
     · exact hR q z
   · exact hX.j5 q (List.mem_of_mem_drop z)
theorem y0{r:Row}{x:Int}(q:Nat):(r.map fun y=>x*y).getD q 0=x*r.getD q 0:=by
 rw[List.getD_eq_getElem?_getD,List.getElem?_map,List.getD_eq_getElem?_getD]
 cases r[q]? with
 |none=>exact(Int.mul_zero x).symm
 |some y=>rfl
theorem gS.times{F:Rows}{n w k:Nat}{x:Int}(hF:bK n w F)(hk:k<n)(hx:2≤x∧x≤5):gS F n (F.take k++[(F.getD k []).map fun y=>x*y]++F.drop (k+1)) n (fun i=>i) (fun i=>if i=k then x else 1):=by
 refine⟨fun i=>?_,fun i q hi=>?_,fun _ _ _ _ e _=>e⟩
 · show 0<(if i=k then x else 1)∧(if i=k then x else 1)≤8
   split
   · omega
   · exact⟨by decide,by decide⟩
 · have hl:=hF.len
   rw[if_pos hi]
   unfold g
   rw[uO (by omega)]
   by_cases h1:i<k
   · rw[if_pos h1,if_neg (Nat.ne_of_lt h1),Int.one_mul]
   · rw[if_neg h1]
     by_cases h2:i=k
     · rw[if_pos (by rw[h2];exact Nat.lt_succ_self k),if_pos h2,h2,Nat.sub_self]
       exact y0 q
     · have h3:k+1+(i-k-1)=i:=by omega
       have h4:¬i<k+1:=by omega
       rw[List.length_singleton,if_neg h4,if_neg h2,Int.one_mul,h3]
theorem gS.Bx{F:Rows}{n w k:Nat}(hF:bK n w F)(hk:k≤n):gS F n (F.take k++[List.replicate w 0,List.replicate w 0]++F.drop k) (n+2) (fun i=>if i<k then i else if i<k+2 then n else i-2) fun _=>1:=by
 have hl:=hF.len
 refine⟨fun _=>⟨by decide,by decide⟩,fun i q hi=>?_,fun i j hi hj e hf=>?_⟩
 · unfold g
   rw[uO (by omega)]
   by_cases h1:i<k
   · rw[if_pos h1,if_pos h1,if_pos (Nat.lt_of_lt_of_le h1 hk),Int.one_mul]
   · rw[if_neg h1,if_neg h1]
     by_cases h2:i<k+2
     · have h4:i<k+ [List.replicate w (0:Int),List.replicate w 0].length:=h2
       rw[if_pos h4,if_pos h2,if_neg (Nat.lt_irrefl n)]
       have:i-k=0∨i-k=1:=by omega
       rcases this with e|e
       · rw[e];exact et _ _
       · rw[e];exact et _ _
     · have h3:k+(i-k-2)=i-2:=by omega
       have h4:¬i<k+ [List.replicate w (0:Int),List.replicate w 0].length:=h2
       rw[if_neg h4,if_neg h2,if_pos (by omega),Int.one_mul]
       show(F.getD (k+(i-k-2)) []).getD q 0=_
       rw[h3]
 · revert e hf
   show(if i<k then i else if i<k+2 then n else i-2)=(if j<k then j else if j<k+2 then n else j-2)→(if i<k then i else if i<k+2 then n else i-2)<n→i=j
   split
   · split
     · exact fun e _=>e
     · split
       · intro e _;omega
       · intro e _;omega
   · split
     · intro _ hf;exact absurd hf (Nat.lt_irrefl _)
     · split
       · intro e _;omega
       · split
         · intro e hf;omega
         · intro e _;omega
theorem uM{n k:Nat}(hk:k≤n)(f:Nat)(hf:f<n):∃i,i<n+2∧(if i<k then i else if i<k+2 then n else i-2)=f:=by
 by_cases h:f<k
 · exact⟨f,by omega,if_pos h⟩
 · exact⟨f+2,by omega,by rw[if_neg (by omega),if_neg (by omega)];rfl⟩
theorem gS.refl{F:Rows}{n:Nat}:gS F n F n (fun i=>i) fun _=>1:=
 ⟨fun _=>⟨by decide,by decide⟩,fun i q hi=>by rw[if_pos hi,Int.one_mul],fun _ _ _ _ e _=>e⟩
theorem Cd:∀N,N<9→∀t,t<N+1→Vz N 12 t≤15214481:=by decide+kernel
theorem Gx:∀N,N<9→∀t,t<N+1→Vz N 42 t≤60000000:=by decide+kernel
theorem xr{A:Rows}{N w M:Nat}(hA:bK N w A)(hb:∀r∈A,∀x∈r,x.natAbs≤M):d5 A N 0 M:=fun i q _ hi=>by
 by_cases hq:q<w
 · have li:i<A.length:=by rw[hA.len];exact hi
   have lq:q<(A[i]).length:=by rw[hA.j5 _ (List.getElem_mem li)];exact hq
   unfold g
   rw[bJ li,bJ lq]
   exact hb _ (List.getElem_mem li) _ (List.getElem_mem lq)
 · have:g A i q=0:=by
    unfold g
    rw[iM (by rw[cg hA hi];exact Nat.le_of_not_lt hq)]
   rw[this];exact Nat.zero_le _
theorem eB.gone{A:Rows}{N w e u:Nat}{c:B3}{ld:Nat→Nat}(s:eB A N w c 0 w ld e u)(hA:bK N w A):∀r∈A,r=List.replicate w 0:=fun r hr=>by
 obtain⟨i,hi,rfl⟩:=List.mem_iff_getElem.mp hr
 have hl:=hA.j5 _ hr
 have hiN:i<N:=by rw[←hA.len];exact hi
 refine List.ext_getElem (by rw[hl,List.length_replicate]) fun q h1 h2=>?_
 obtain⟨y,hy⟩:=s.out i hiN
 have:=hy q (by rw[←hl];exact h1)
 unfold g at this
 rw[bJ hi,bJ h1]at this
 rw[this,List.getElem_replicate];rfl
end Mx
namespace Prog
open PySem L2 L3
open PySem.Spec hiding items?
open PyProof.Rows hiding St
theorem fB{i j:Int}(h1: -(2^64)<i)(h2:i<2^64):IntMulOk i j:= .of_left (intBits_le_64 h1 h2)
def isInt:D→Bool
 | .int _=>true
 |_=>false
abbrev aE(r:List Int):List D:=r.map D.int
abbrev cv(r:List Int):D:= .tup (aE r)
abbrev a_(r:List Int):D:= .lst (aE r)
abbrev c_(A:List (List Int)):D:= .tup (A.map cv)
def cf(st:af):List D→List (List Int)→Prop
 | [],[]=>True
 |d::ds,r::rs=>items? st d=some (aE r)∧cf st ds rs
 |_,_=>False
structure iH(st:af)(d:D)(A:List (List Int)):Prop where
 ex:∃ds,items? st d=some ds∧cf st ds A
theorem cf.len{st:af}:∀ {ds:List D} {A:List (List Int)},cf st ds A→ds.length=A.length
 | [],[],_=>rfl
 |_::_,_::_,h=>by simp[cf.len h.2]
theorem cf.tup{st:af}:∀ {A:List (List Int)},cf st (A.map cv) A
 | []=>trivial
 |_::_=>⟨rfl,cf.tup⟩
theorem cf.lst{st:af}:∀ {A:List (List Int)},cf st (A.map a_) A
 | []=>trivial
 |_::_=>⟨rfl,cf.lst⟩
theorem cf.get{st:af}:∀ {ds:List D} {A:List (List Int)} {i:Nat} {d:D},cf st ds A→ds[i]?=some d→∃r,A[i]?=some r∧items? st d=some (aE r)
 |_::_,r::_,0,_,h,e=>by simp at e;subst e;exact⟨r,rfl,h.1⟩
 |_::_,_::_,i+1,d,h,e=>by
  obtain⟨r,e1,e2⟩:=cf.get (i:=i) (d:=d) h.2 (by simpa using e)
  exact⟨r,by simpa using e1,e2⟩
theorem jF{st:af}{A:List (List Int)}:iH st (c_ A) A:=⟨_,rfl,cf.tup⟩
structure Ext(st st':af):Prop where
 len:st.length≤st'.length
 same:∀m,m<st.length→st'[m]?=st[m]?
theorem Ext.push{st:af}{c:List Cell}:Ext st (st++c):=⟨by simp,fun m h=>List.getElem?_append_left h⟩
theorem nt{r:List Int}{k:Nat}(h:k<r.length):eK (aE r) (k:Int)=some (.int (r.getD k 0)):=by
 refine iq ?_
 rw[List.getElem?_map,List.getElem?_eq_getElem h,Mx.bJ h];rfl
theorem getD_mem{r:List Int}{k:Nat}(h:k<r.length):r.getD k 0∈r:=by rw[Mx.bJ h];exact List.getElem_mem _
theorem ints_app{r:List Int}{x:Int}:aE r++[D.int x]=aE (r++[x]):=by simp[aE]
theorem yJ{A:List (List Int)}{r:List Int}:A.map cv++[cv r]=(A++[r]).map cv:=by simp
theorem jO{r s:List Int}{d:D}(h:d∈fb (aE r) (aE s)):∃a b,a∈r∧b∈s∧d= .tup [.int a,.int b]:=by
 obtain⟨n,hn,e⟩:=List.mem_iff_getElem.mp h
 have e':(fb (aE r) (aE s))[n]?=some d:=by rw[List.getElem?_eq_getElem hn,e]
 obtain⟨x,y,ex,ey,rfl⟩:=oM e'
 rw[List.getElem?_map]at ex ey
 cases q1:r[n]? with
 |none=>rw[q1]at ex;cases ex
 |some a=>
  cases q2:s[n]? with
  |none=>rw[q2]at ey;cases ey
  |some b=>
   rw[q1]at ex
   rw[q2]at ey
   cases ex
   cases ey
   exact⟨a,b,List.mem_of_getElem? q1,List.mem_of_getElem? q2,rfl⟩
theorem oU(n:Nat):(List.replicate n [D.int 0]).flatten=aE (List.replicate n 0):=by
 induction n with
 |zero=>rfl
 |succ n ih=>rw[List.replicate_succ,List.flatten_cons,ih];rfl
theorem rT{d:D}{ds:List D}:eK (d::ds) 0=some d:=iq (j:=0) rfl
theorem Bi{n:Nat}{r:List Int}:(aE r).all (pl n)=true:=by
 refine List.all_eq_true.mpr fun d hd=>?_
 obtain⟨i,_,rfl⟩:=List.mem_map.mp hd
 cases n<;>rfl
def ak:Addr:=118
abbrev gb(b:Bool):Cell:=Cell.tab 98 ⟨48,32,48,66⟩ "Bench.live_rows.<locals>.<lambda>" b
abbrev CV:List (Addr×Pos×Str):=[(98,⟨48,32,48,66⟩,"Bench.live_rows.<locals>.<lambda>")]
def ie:dc:=fun ds st K=>∃(d:D) (A:List (List Int)),ds=[d]∧iH st d A∧A.length≤1000∧K (c_ A) st
def ky:List Str:=["rows"]
def yd:DS:=(cR (cU eC (ag (dm (fh (aa 0)) [none] (bY 0) cy (cU eC (ag (aa 0) av))) av)))
theorem fO{tg:eM}{te:DE}{ok:af→Prop}{σc:bF}{st:af}{K:List D→af→Prop}{ds:List D}{A:List (List Int)}(f:List Int→D)(aL:ok st)(hr:cf st ds A)(hx:∀d r,r∈A→items? st d=some (aE r)→∀K',K' (f r) st→∃σ2,tg d σc=some σ2∧te σ2 st K')(k:K (A.map f) st):cZ tg cy te ok σc ds [] st K:=by
 refine gp (fun rest acc st'=>∃(A1 A2:List (List Int)),st=st'∧A1++A2=A∧cf st rest A2∧acc=A1.map f) ?_ ?_ _ _ _ ⟨[],A,rfl,rfl,hr,rfl⟩
 · rintro acc st' ⟨A1,A2,rfl,he,h,rfl⟩
   match A2,h with
   | [],_=>
     rw[List.append_nil]at he
     subst he
     exact⟨aL,k⟩
 · rintro d rest acc st' ⟨A1,A2,rfl,he,h,rfl⟩ next
   match A2,h with
   |r::A2,h=>
    obtain⟨σ2,e2,q⟩:=hx d r (by rw[←he];simp) h.1 (fun y st2=>cZ tg cy te ok σc rest (A1.map f++[y]) st2 K) (next _ _ ⟨A1++[r],A2,rfl,by rw[←he];simp,h.2,by simp⟩)
    exact⟨aL,σ2,e2,q⟩
theorem wg:∀ds st K,ie ds st K→ds.length=1∧yd {nx:=fun _ st'=>K .aJ st',rt:=K} (bG ky ds) st:=by
 rintro ds st K ⟨d,A,rfl,⟨da,hd,ra⟩,hl,k⟩
 refine⟨rfl,?_⟩
 refine m6 hd fun ok aL=>⟨bU (by rw[ra.len];exact hl),?_⟩
 refine fO cv aL ra (fun e r hr he K' q=>⟨_,rfl,ef he q⟩) ?_
 exact ef rfl k
def iN:dc:=fun ds st K=>∃x y t r s,ds=[x,.int t,y]∧items? st x=some (aE r)∧items? st y=some (aE s)∧r.length≤1000∧(∀b∈s,IntMulOk t b)∧K (a_ (Mx.dh r t s)) st
def nH:List Str:=["row","times","other"]
def Bc:DS:=(cR (dm (m5 (ag (aa 0) (ag (aa 2) av))) [none,none,some 1] (gO 0 1) cy (au cO (aa 0) (au cY (aa 2) (aa 1)))))
theorem mT{t:Int}:∀(r s:List Int),(fb (aE r) (aE s)).map (fun d=>match d with| .tup [.int a,.int b]=> .int (a+t*b)|_=> .aJ)=aE (Mx.dh r t s)
 | [],_=>rfl
 |_::_,[]=>rfl
 |a::r,b::s=>by
  have:=mT (t:=t) r s
  unfold fb Mx.dh at this⊢
  simp only[aE,List.map_cons,List.zip_cons_cons,List.zipWith_cons_cons]at this⊢
  rw[this]
theorem zC:∀ds st K,iN ds st K→ds.length=3∧Bc {nx:=fun _ st'=>K .aJ st',rt:=K} (bG nH ds) st:=by
 rintro ds st K ⟨x,y,t,r,s,rfl,hx,hy,hl,hm,k⟩
 refine⟨rfl,?_⟩
 refine kQ hx hy fun ok aL=>⟨bU (by rw[hW];simp;omega),?_⟩
 refine comp_map (g:=fun d=>match d with| .tup [.int a,.int b]=> .int (a+t*b)|_=> .aJ) (aL st hx hy) _ (fun d hd K' q=>?_) ?_
 · obtain⟨a,b,ha,hb,rfl⟩:=jO hd
   exact⟨_,rfl,fE (hm b hb) (dz q)⟩
 · rw[mT];exact k
def j_:dc:=fun ds st K=>∃(d:D) (A:List (List Int)) (j:Nat),ds=[d,.int j]∧iH st d A∧(∀r∈A,j<r.length)∧A.length≤1000∧K (cv (Mx.qc A j)) st
def mf:List Str:=["rows","place"]
def zm:DS:=(cR (cU eC (ag (dm (fh (aa 0)) [none,some 1] (bY 0) cy (au bz (aa 0) (aa 1))) av)))
theorem xg{tg:eM}{te:DE}{ok:af→Prop}{σc:bF}{st:af}{K:List D→af→Prop}{ds:List D}{A:List (List Int)}(f:List Int→D)(aL:ok st)(hr:cf st ds A)(hx:∀d r,r∈A→items? st d=some (aE r)→∀K',K' (f r) st→∃σ2,tg d σc=some σ2∧te σ2 st K')(k:K (A.map f) st):cZ tg cy te ok σc ds [] st K:=by
 refine gp (fun rest acc st'=>∃(A1 A2:List (List Int)),st=st'∧A1++A2=A∧cf st rest A2∧acc=A1.map f) ?_ ?_ _ _ _ ⟨[],A,rfl,rfl,hr,rfl⟩
 · rintro acc st' ⟨A1,A2,rfl,he,h,rfl⟩
   match A2,h with
   | [],_=>
     rw[List.append_nil]at he
     subst he
     exact⟨aL,k⟩
 · rintro d rest acc st' ⟨A1,A2,rfl,he,h,rfl⟩ next
   match A2,h with
   |r::A2,h=>
    obtain⟨σ2,e2,q⟩:=hx d r (by rw[←he];simp) h.1 (fun y st2=>cZ tg cy te ok σc rest (A1.map f++[y]) st2 K) (next _ _ ⟨A1++[r],A2,rfl,by rw[←he];simp,h.2,by simp⟩)
    exact⟨aL,σ2,e2,q⟩
theorem xX(A:List (List Int))(j:Nat):A.map (fun r=>D.int (r.getD j 0))=aE (Mx.qc A j):=by unfold Mx.qc aE;rw[List.map_map];rfl
theorem xa:∀ds st K,j_ ds st K→ds.length=2∧zm {nx:=fun _ st'=>K .aJ st',rt:=K} (bG mf ds) st:=by
 rintro ds st K ⟨d,A,j,rfl,⟨da,hd,ra⟩,hj,hl,k⟩
 refine⟨rfl,?_⟩
 refine m6 hd fun ok aL=>⟨bU (by rw[ra.len];exact hl),?_⟩
 refine xg (fun r=> .int (r.getD j 0)) aL ra (fun e r hr he K' q=>⟨_,rfl,aM he (nt (hj r hr)) q⟩) ?_
 rw[xX]
 exact ef rfl k
def fS:dc:=fun ds st K=>∃(d:D) (A:List (List Int)) (n:Nat),ds=[d,.int n]∧iH st d A∧(∀r∈A,r.length=n)∧A.length≤1000∧n≤1000∧K (c_ (Mx.Ap A n)) st
def g7:List Str:=["rows","wide"]
def rp:DS:=(cR (cU eC (ag (dm (fg (ag (aa 1) av)) [none,some 0] (bY 0) cy (aY j_ (ag (aa 1) (ag (aa 0) av)))) av)))
theorem zx(A:List (List Int))(n:Nat):(List.range n).map (fun j=>cv (Mx.qc A j))=(Mx.Ap A n).map cv:=by unfold Mx.Ap;rw[List.map_map];rfl
theorem ql:∀ds st K,fS ds st K→ds.length=2∧rp {nx:=fun _ st'=>K .aJ st',rt:=K} (bG g7 ds) st:=by
 rintro ds st K ⟨d,A,n,rfl,hd,hw,hl,hn,k⟩
 refine⟨rfl,?_⟩
 refine gF ⟨by omega,by omega⟩ ⟨bU (by rw[fM];omega),?_⟩
 rw[Int.toNat_natCast]
 refine lJ (fun j=>cv (Mx.qc A j)) n (fun i hi K' q=>⟨_,rfl,d,A,i,rfl,hd,fun r hr=>by rw[hw r hr];exact hi,hl,q⟩) ?_
 rw[zx]
 exact ef rfl k
def iB:dc:=fun ds st K=>∃(n i:Nat),ds=[.int n,.int i]∧n≤1000∧K (cv (Mx.ip n i)) st
def jw:List Str:=["n","place"]
def we:DS:=(cR (cU eC (ag (dm (fg (ag (aa 0) av)) [none,some 1] (bY 0) cy (Cs (bS (au gg (aa 0) (aa 1))) (dC (.int 1)) (dC (.int 0)))) av)))
theorem ux:∀ds st K,iB ds st K→ds.length=2∧we {nx:=fun _ st'=>K .aJ st',rt:=K} (bG jw ds) st:=by
 rintro ds st K ⟨n,i,rfl,hn,k⟩
 refine⟨rfl,?_⟩
 refine gF ⟨by omega,by omega⟩ ⟨bU (by rw[fM];omega),?_⟩
 rw[Int.toNat_natCast]
 refine lJ (fun j=> .int (Mx.dl j i)) n (fun j hj K' q=>⟨_,rfl,?_⟩) ?_
 · refine eq2 (fun h=>e7 ?_) fun h=>?_
   · have:j=i:=by omega
     subst this
     rw[Mx.eQ]at q;exact q
   · rw[Mx.e_ (by omega)]at q;exact q
 · have:(List.range n).map (fun j=>D.int (Mx.dl j i))=aE (Mx.ip n i):=by unfold Mx.ip aE;rw[List.map_map];rfl
   rw[this]
   exact ef rfl k
def fZ:dc:=fun ds st K=>∃(n:Nat),ds=[.int n]∧n≤1000∧K (c_ (Mx.units n)) st
def iV:List Str:=["n"]
def uJ:DS:=(cR (cU eC (ag (dm (fg (ag (aa 0) av)) [none,some 0] (bY 0) cy (aY iB (ag (aa 1) (ag (aa 0) av)))) av)))
theorem tH:∀ds st K,fZ ds st K→ds.length=1∧uJ {nx:=fun _ st'=>K .aJ st',rt:=K} (bG iV ds) st:=by
 rintro ds st K ⟨n,rfl,hn,k⟩
 refine⟨rfl,?_⟩
 refine gF ⟨by omega,by omega⟩ ⟨bU (by rw[fM];omega),?_⟩
 rw[Int.toNat_natCast]
 refine lJ (fun i=>cv (Mx.ip n i)) n (fun i hi K' q=>⟨_,rfl,n,i,rfl,hn,q⟩) ?_
 have:(List.range n).map (fun i=>cv (Mx.ip n i))=(Mx.units n).map cv:=by unfold Mx.units;rw[List.map_map];rfl
 rw[this]
 exact ef rfl k
def d7:dc:=fun ds st K=>∃(t d:Int),ds=[.int t,.int d]∧d≠0∧K (.int (Mx.qn t d)) st
def fi:List Str:=["top","bottom"]
def mG:DS:=(cR (au kW (au cO (au cY (dC (.int 2)) (aa 0)) (aa 1)) (au cY (dC (.int 2)) (aa 1))))
theorem yK{a:Int}{m:Nat}(h:a.natAbs<2^m):Builtin.Int.intBits a≤m:=by
 unfold Builtin.Int.intBits
 by_cases h0:a.natAbs=0
 · have:a=0:=by omega
   subst this
   simp
 · have:=(Nat.log2_lt h0).mpr h
   split<;>omega
theorem jG{a b:Int}{m n:Nat}(ha:a.natAbs≤2^m)(hb:b.natAbs≤2^n)(h:m+n≤130000000):IntMulOk a b:=by
 have q:∀ {x:Int} {k:Nat},x.natAbs≤2^k→Builtin.Int.intBits x≤k+1:=fun{x k} h=>yK (Nat.lt_of_le_of_lt h (Nat.pow_lt_pow_right (by decide) (Nat.lt_succ_self k)))
 have h1:=q ha
 have h2:=q hb
 have e:(2:Nat)^27=134217728:=by decide
 have z:Builtin.Int.intTooBig (Builtin.Int.intBits a+Builtin.Int.intBits b)=false:=by
  unfold Builtin.Int.intTooBig bitsLine
  exact decide_eq_false (by omega)
 unfold IntMulOk
 rw[z]
 simp
theorem my:∀ds st K,d7 ds st K→ds.length=2∧mG {nx:=fun _ st'=>K .aJ st',rt:=K} (bG fi ds) st:=by
 rintro ds st K ⟨t,d,rfl,hd,k⟩
 exact⟨rfl,fE (fB (by decide) (by decide)) (dz (fE (fB (by decide) (by decide)) (tm (by omega) k)))⟩
def fv:dc:=fun ds st K=>∃(n k o:Nat) (A:List (List Int)),ds=[.ref n,.int k,.int o]∧st[n]?=some (.lst (A.map a_))∧k<A.length∧o<A.length∧K (.ref st.length) (st++[.lst ((Mx.bp A k o).map a_)])
def i6:List Str:=["rows","k","other","order"]
def uE:DS:=(aS (bP 3 (cU mS (ag (aa 0) av)))
 (aS (dO (aa 3) (aa 1) (au bz (aa 0) (aa 2)))
 (aS (dO (aa 3) (aa 2) (au bz (aa 0) (aa 1)))
 (cR (aa 3)))))
theorem de{A:List (List Int)}{j:Nat}(h:j<A.length):eK (A.map a_) (j:Int)=some (a_ (A.getD j [])):=by
 refine iq ?_
 rw[List.getElem?_map,List.getElem?_eq_getElem h,Mx.bJ h];rfl
theorem je{m k:Nat}(h:k<m):jr m (k:Int)=some k:=by
 have:=mX (i:=(k:Int)) (m:=m) (by omega) (by omega)
 rw[Int.toNat_natCast]at this
 exact this
theorem fU{A:List (List Int)}{k:Nat}{r:List Int}:(A.map a_).set k (a_ r)=(A.set k r).map a_:=by rw[List.map_set]
theorem tL:∀ds st K,fv ds st K→ds.length=3∧uE {nx:=fun _ st'=>K .aJ st',rt:=K} (bG i6 ds) st:=by
 rintro ds st K ⟨n,k,o,A,rfl,e,hk,ho,kk⟩
 refine⟨rfl,?_⟩
 have hn:n<st.length:=(List.getElem?_eq_some_iff.mp e).1
 refine yC (ay e) ?_
 have e1:(st++[Cell.lst (A.map a_)])[n]?=some (.lst (A.map a_)):=by rw[List.getElem?_append_left hn];exact e
 have e2:(st++[Cell.lst (A.map a_)])[st.length]?=some (.lst (A.map a_)):=by simp
 refine aM (ay e1) (de ho) (fI e2 (by rw[List.length_map];exact je hk) ?_)
 rw[fU]
 have es:(st++[Cell.lst (A.map a_)]).set st.length (.lst ((A.set k (A.getD o [])).map a_))=st++[Cell.lst ((A.set k (A.getD o [])).map a_)]:=by
  rw[List.set_append_right _ _ (Nat.le_refl _),Nat.sub_self];rfl
 rw[es]
 have e3:(st++[Cell.lst ((A.set k (A.getD o [])).map a_)])[n]?=some (.lst (A.map a_)):=by rw[List.getElem?_append_left hn];exact e
 have e4:(st++[Cell.lst ((A.set k (A.getD o [])).map a_)])[st.length]?=some (.lst ((A.set k (A.getD o [])).map a_)):=by simp
 refine aM (ay e3) (de hk) (fI e4 (by rw[List.length_map,List.length_set];exact je ho) ?_)
 rw[fU]
 have es2:(st++[Cell.lst ((A.set k (A.getD o [])).map a_)]).set st.length (.lst (((A.set k (A.getD o [])).set o (A.getD k [])).map a_))=st++[Cell.lst ((Mx.bp A k o).map a_)]:=by
  rw[List.set_append_right _ _ (Nat.le_refl _),Nat.sub_self];rfl
 rw[es2]
 exact kk
def gu:dc:=fun ds st K=>∃(d:D) (r:List Int),ds=[d]∧items? st d=some (aE r)∧r.length≤1000∧K (a_ (r.map fun x=> -x)) st
def kc:List Str:=["row"]
def xV:DS:=(cR (dm (fh (aa 0)) [none] (bY 0) cy (lg g_ (aa 0))))
theorem vK:∀ds st K,gu ds st K→ds.length=1∧xV {nx:=fun _ st'=>K .aJ st',rt:=K} (bG kc ds) st:=by
 rintro ds st K ⟨d,r,rfl,hd,hl,k⟩
 refine⟨rfl,?_⟩
 refine m6 hd fun ok aL=>⟨bU (by unfold aE;rw[List.length_map];exact hl),?_⟩
 refine comp_map (g:=fun x=>match x with| .int a=> .int (-a)|_=> .aJ) aL _ (fun x hx K' q=>?_) ?_
 · unfold aE at hx
   obtain⟨a,_,rfl⟩:=List.mem_map.mp hx
   exact⟨_,rfl,iC q⟩
 · have e:(aE r).map (fun x=>match x with| .int a=> .int (-a)|_=> .aJ)=aE (r.map fun x=> -x):=by unfold aE;rw[List.map_map,List.map_map];rfl
   rw[e];exact k
structure Bn(st:af)(b xb xu xc:Nat)(A U C:List (List Int)):Prop where
 eb:st[b]?=some (Cell.ins ak [("body",.ref xb),("turn",.ref xu),("back_columns",.ref xc)])
 e1:st[xb]?=some (Cell.lst (A.map a_))
 e2:st[xu]?=some (Cell.lst (U.map a_))
 e3:st[xc]?=some (Cell.lst (C.map a_))
 n1:xb≠xu
 n2:xb≠xc
 n3:xu≠xc
theorem iw{st:af}{b x:Nat}{C:Addr}{fs:List (Str×D)}{xs:List D}(h1:st[b]?=some (Cell.ins C fs))(h2:st[x]?=some (Cell.lst xs)):b≠x:=fun z=>by rw[z,h2]at h1;cases h1
def eR:dc:=fun ds st K=>∃(b N:Nat) (d:D) (A:List (List Int)),ds=[.ref b,d]∧st[b]?=some (.ins ak [])∧iH st d A∧A.length=N∧N≤8∧∀st',Bn st' b st.length (st.length+1) (st.length+2) A (Mx.units N) (Mx.units N)→st'.length=st.length+3→(∀m,m<st.length→m≠b→st'[m]?=st[m]?)→K .aJ st'
def fR:List Str:=["self","rows"]
def oH:DS:=(aS (kC ak "body" (aa 0) (i8 (fh (aa 1)) [none] (bY 0) cy (cU jt (ag (aa 0) av))))
 (aS (kC ak "turn" (aa 0) (i8 (fh (aY fZ (ag (cU eY (ag (aa 1) av)) av))) [none] (bY 0) cy (cU jt (ag (aa 0) av))))
 (kC ak "back_columns" (aa 0) (i8 (fh (aY fZ (ag (cU eY (ag (aa 1) av)) av))) [none] (bY 0) cy (cU jt (ag (aa 0) av))))))
theorem lR(f:Str)(v:D):∀fs:List (Str×D),(putD f v fs).length≤fs.length+1
 | []=>by simp[putD]
 |(g,x)::r=>by
  unfold putD
  split
  · simp
  · have:=lR f v r
    simp only[List.length_cons]
    omega
theorem sV{st:af}{A:List (List Int)}:cf st (A.map cv) A:=cf.tup
theorem qx(n:Nat):(Mx.units n).length=n:=by unfold Mx.units;simp
theorem nY:∀ds st K,eR ds st K→ds.length=2∧oH {nx:=fun _ st'=>K .aJ st',rt:=K} (bG fR ds) st:=by
 rintro ds st K ⟨b,N,d,A,rfl,eb,hA,hl,hN,k⟩
 refine⟨rfl,?_⟩
 have hb:b<st.length:=(List.getElem?_eq_some_iff.mp eb).1
 obtain⟨da,hd,ra⟩:=hA.ex
 have hdl:=ra.len
 have lst:∀(e:D) (r:List Int),True:=fun _ _=>trivial
 refine m6 hd fun ok aL=>⟨bU (by omega),?_⟩
 refine fO a_ aL ra (fun e r hr he K' q=>⟨_,rfl,ll he q⟩) ?_
 have eb1:(st++[Cell.lst (A.map a_)])[b]?=some (.ins ak []):=by rw[List.getElem?_append_left hb];exact eb
 refine jL eb1 (by decide) ?_
 generalize hs1:(st++[Cell.lst (A.map a_)]).set b (.ins ak (putD "body" (.ref st.length) []))=st1
 have l1:st1.length=st.length+1:=by rw[←hs1];simp
 have f1:∀m,m<st.length→m≠b→st1[m]?=st[m]?:=fun m hm hmb=>by rw[←hs1,List.getElem?_set_ne (Ne.symm hmb),List.getElem?_append_left hm]
 have b1:st1[b]?=some (.ins ak (putD "body" (.ref st.length) [])):=by rw[←hs1,List.getElem?_set_self (by simp;omega)]
 have x1:st1[st.length]?=some (.lst (A.map a_)):=by rw[←hs1,List.getElem?_set_ne (by omega)];simp
 clear hs1
 have itd:∃da',items? st1 d=some da'∧da'.length=N:=by
  cases d with
  |ref n=>
   by_cases hnb:n=b
   · subst hnb
     unfold items? at hd
     simp only[eb]at hd
     cases hd
   · have hn:n<st.length:=by
      unfold items? at hd
      simp only at hd
      cases q:st[n]? with
      |none=>rw[q]at hd;cases hd
      |some c=>exact(List.getElem?_eq_some_iff.mp q).1
     refine⟨da,?_,by omega⟩
     unfold items? at hd⊢
     simp only at hd⊢
     rw[f1 n hn hnb]
     exact hd
  |_=>exact⟨da,hd,by omega⟩
 obtain⟨da1,hd1,hdl1⟩:=itd
 refine dD hd1 ?_
 rw[hdl1]
 refine⟨N,rfl,by omega,?_⟩
 refine jM ⟨bU (by rw[List.length_map,qx];omega),?_⟩
 refine fO a_ trivial sV (fun e r hr he K' q=>⟨_,rfl,ll he q⟩) ?_
 have b2:(st1++[Cell.lst ((Mx.units N).map a_)])[b]?=some (.ins ak (putD "body" (.ref st.length) [])):=by rw[List.getElem?_append_left (by omega)];exact b1
 refine jL b2 (by have:=lR "body" (.ref st.length) [];simp only[List.length_nil]at this;omega) ?_
 generalize hs2:(st1++[Cell.lst ((Mx.units N).map a_)]).set b (.ins ak (putD "turn" (.ref st1.length) (putD "body" (.ref st.length) [])))=st2
 have l2:st2.length=st.length+2:=by rw[←hs2];simp;omega
 have f2:∀m,m<st1.length→m≠b→st2[m]?=st1[m]?:=fun m hm hmb=>by rw[←hs2,List.getElem?_set_ne (Ne.symm hmb),List.getElem?_append_left hm]
 have b2':st2[b]?=some (.ins ak (putD "turn" (.ref st1.length) (putD "body" (.ref st.length) []))):=by rw[←hs2,List.getElem?_set_self (by simp;omega)]
 have x2:st2[st1.length]?=some (.lst ((Mx.units N).map a_)):=by rw[←hs2,List.getElem?_set_ne (by omega)];simp
 clear hs2
 have itd2:items? st2 d=some da1:=by
  cases d with
  |ref n=>
   by_cases hnb:n=b
   · subst hnb
     unfold items? at hd1
     simp only[b1]at hd1
     cases hd1
   · have hn:n<st1.length:=by
      unfold items? at hd1
      simp only at hd1
      cases q:st1[n]? with
      |none=>rw[q]at hd1;cases hd1
      |some c=>exact(List.getElem?_eq_some_iff.mp q).1
     unfold items? at hd1⊢
     simp only at hd1⊢
     rw[f2 n hn hnb]
     exact hd1
  |_=>exact hd1
 refine dD itd2 ?_
 rw[hdl1]
 refine⟨N,rfl,by omega,?_⟩
 refine jM ⟨bU (by rw[List.length_map,qx];omega),?_⟩
 refine fO a_ trivial sV (fun e r hr he K' q=>⟨_,rfl,ll he q⟩) ?_
 have b3:(st2++[Cell.lst ((Mx.units N).map a_)])[b]?=some (.ins ak (putD "turn" (.ref st1.length) (putD "body" (.ref st.length) []))):=by rw[List.getElem?_append_left (by omega)];exact b2'
 refine jL b3 (by have h1:=lR "body" (.ref st.length) [];have h2:=lR "turn" (.ref st1.length) (putD "body" (.ref st.length) []);simp only[List.length_nil]at h1;omega) ?_
 refine k _ ⟨?_,?_,?_,?_,by omega,by omega,by omega⟩ (by simp;omega) fun m hm hmb=>?_
 · rw[List.getElem?_set_self (by simp;omega),l1,l2];rfl
 · rw[List.getElem?_set_ne (by omega),List.getElem?_append_left (by omega),f2 _ (by omega) (by omega)];exact x1
 · rw[List.getElem?_set_ne (by omega),List.getElem?_append_left (by omega)]
   rw[l1]at x2
   exact x2
 · rw[List.getElem?_set_ne (by omega)]
   rw[show st.length+2=st2.length by omega]
   simp
 · rw[List.getElem?_set_ne (Ne.symm hmb),List.getElem?_append_left (by omega),f2 m (by omega) hmb,f1 m hm hmb]
def eW:dc:=fun ds st K=>∃(b xb xu xc N w k j:Nat) (A U C:List (List Int)) (q:Int),ds=[.ref b,.int k,.int q,.int j]∧Bn st b xb xu xc A U C∧Mx.bK N w A∧Mx.bK N N U∧Mx.bK N N C∧k<N∧j<N∧N≤8∧w≤9∧(∀x∈A.getD j [],IntMulOk (-q) x)∧(∀x∈U.getD j [],IntMulOk (-q) x)∧(∀x∈C.getD k [],IntMulOk q x)∧
 ∀st',Bn st' b xb xu xc (Mx.bc A k q j) (Mx.bc U k q j) (Mx.bc C j (-q) k)→st'.length=st.length→(∀m,m≠xb→m≠xu→m≠xc→st'[m]?=st[m]?)→K .aJ st'
def iJ:List Str:=["self","k","times","other"]
def sf:DS:=(aS (dO (du ak "body" (aa 0)) (aa 1) (aY iN (ag (au bz (du ak "body" (aa 0)) (aa 1)) (ag (lg g_ (aa 2)) (ag (au bz (du ak "body" (aa 0)) (aa 3)) av)))))
 (aS (dO (du ak "turn" (aa 0)) (aa 1) (aY iN (ag (au bz (du ak "turn" (aa 0)) (aa 1)) (ag (lg g_ (aa 2)) (ag (au bz (du ak "turn" (aa 0)) (aa 3)) av)))))
 (dO (du ak "back_columns" (aa 0)) (aa 3) (aY iN (ag (au bz (du ak "back_columns" (aa 0)) (aa 3)) (ag (aa 2) (ag (au bz (du ak "back_columns" (aa 0)) (aa 1)) av)))))))
theorem rl:∀ds st K,eW ds st K→ds.length=4∧sf {nx:=fun _ st'=>K .aJ st',rt:=K} (bG iJ ds) st:=by
 rintro ds st K ⟨b,xb,xu,xc,N,w,k,j,A,U,C,q,rfl,B,hA,hU,hC,hk,hj,hN,hw,mA,mU,mC,kk⟩
 refine⟨rfl,?_⟩
 have lA:=hA.len
 have lU:=hU.len
 have lC:=hC.len
 have rA:=Mx.cg hA hk
 have rU:=Mx.cg hU hk
 have rC:=Mx.cg hC hj
 have bx1:=iw B.eb B.e1
 have bx2:=iw B.eb B.e2
 have bx3:=iw B.eb B.e3
 have n1:=B.n1
 have n2:=B.n2
 have n3:=B.n3
 refine cj B.eb rfl (aM (ay B.e1) (de (by omega)) (iC (cj B.eb rfl (aM (ay B.e1) (de (by omega)) ?_))))
 refine⟨_,_,-q,A.getD k [],A.getD j [],rfl,rfl,rfl,by omega,mA,?_⟩
 refine cj B.eb rfl (fI B.e1 (by rw[List.length_map,lA];exact je hk) ?_)
 rw[fU]
 have g1:∀m,m≠xb→(st.set xb (.lst ((A.set k (Mx.dh (A.getD k []) (-q) (A.getD j []))).map a_)))[m]?=st[m]?:=fun m hm=>List.getElem?_set_ne (Ne.symm hm)
 have h1:(st.set xb (.lst ((A.set k (Mx.dh (A.getD k []) (-q) (A.getD j []))).map a_)))[xb]?=some (.lst ((Mx.bc A k q j).map a_)):=List.getElem?_set_self (List.getElem?_eq_some_iff.mp B.e1).1
 have z1:(st.set xb (.lst ((A.set k (Mx.dh (A.getD k []) (-q) (A.getD j []))).map a_))).length=st.length:=List.length_set
 generalize st.set xb (.lst ((A.set k (Mx.dh (A.getD k []) (-q) (A.getD j []))).map a_))=st1 at g1 h1 z1⊢
 have eb1:=(g1 b bx1).trans B.eb
 have e21:=(g1 xu (Ne.symm n1)).trans B.e2
 have e31:=(g1 xc (Ne.symm n2)).trans B.e3
 refine cj eb1 rfl (aM (ay e21) (de (by omega)) (iC (cj eb1 rfl (aM (ay e21) (de (by omega)) ?_))))
 refine⟨_,_,-q,U.getD k [],U.getD j [],rfl,rfl,rfl,by omega,mU,?_⟩
 refine cj eb1 rfl (fI e21 (by rw[List.length_map,lU];exact je hk) ?_)
 rw[fU]
 have g2:∀m,m≠xu→(st1.set xu (.lst ((U.set k (Mx.dh (U.getD k []) (-q) (U.getD j []))).map a_)))[m]?=st1[m]?:=fun m hm=>List.getElem?_set_ne (Ne.symm hm)
 have h2:(st1.set xu (.lst ((U.set k (Mx.dh (U.getD k []) (-q) (U.getD j []))).map a_)))[xu]?=some (.lst ((Mx.bc U k q j).map a_)):=List.getElem?_set_self (List.getElem?_eq_some_iff.mp e21).1
 have z2:(st1.set xu (.lst ((U.set k (Mx.dh (U.getD k []) (-q) (U.getD j []))).map a_))).length=st1.length:=List.length_set
 generalize st1.set xu (.lst ((U.set k (Mx.dh (U.getD k []) (-q) (U.getD j []))).map a_))=st2 at g2 h2 z2⊢
 have eb2:=(g2 b bx2).trans eb1
 have e32:=(g2 xc (Ne.symm n3)).trans e31
 refine cj eb2 rfl (aM (ay e32) (de (by omega)) (cj eb2 rfl (aM (ay e32) (de (by omega)) ?_)))
 refine⟨_,_,q,C.getD j [],C.getD k [],rfl,rfl,rfl,by omega,mC,?_⟩
 refine cj eb2 rfl (fI e32 (by rw[List.length_map,lC];exact je hj) ?_)
 rw[fU]
 have hc:C.set j (Mx.dh (C.getD j []) q (C.getD k []))=Mx.bc C j (-q) k:=by unfold Mx.bc;rw[Int.neg_neg]
 rw[hc]
 refine kk _ ⟨?_,?_,?_,?_,n1,n2,n3⟩ (by rw[List.length_set];omega) fun m m1 m2 m3=>?_
 · rw[List.getElem?_set_ne (Ne.symm bx3)];exact eb2
 · rw[List.getElem?_set_ne (Ne.symm n2),g2 _ n1];exact h1
 · rw[List.getElem?_set_ne (Ne.symm n3)];exact h2
 · exact List.getElem?_set_self (List.getElem?_eq_some_iff.mp e32).1
 · rw[List.getElem?_set_ne (Ne.symm m3),g2 m m2,g1 m m1]
def eX:dc:=fun ds st K=>∃(b xb xu xc N w k o:Nat) (A U C:List (List Int)),ds=[.ref b,.int k,.int o]∧Bn st b xb xu xc A U C∧Mx.bK N w A∧Mx.bK N N U∧Mx.bK N N C∧k<N∧o<N∧
 ∀st',Bn st' b st.length (st.length+1) (st.length+2) (Mx.bp A k o) (Mx.bp U k o) (Mx.bp C k o)→st'.length=st.length+3→(∀m,m<st.length→m≠b→st'[m]?=st[m]?)→K .aJ st'
def fN:List Str:=["self","k","other"]
def oN:DS:=(aS (kC ak "body" (aa 0) (aY fv (ag (du ak "body" (aa 0)) (ag (aa 1) (ag (aa 2) av)))))
 (aS (kC ak "turn" (aa 0) (aY fv (ag (du ak "turn" (aa 0)) (ag (aa 1) (ag (aa 2) av)))))
 (kC ak "back_columns" (aa 0) (aY fv (ag (du ak "back_columns" (aa 0)) (ag (aa 1) (ag (aa 2) av)))))))
theorem nZ:∀ds st K,eX ds st K→ds.length=3∧oN {nx:=fun _ st'=>K .aJ st',rt:=K} (bG fN ds) st:=by
 rintro ds st K ⟨b,xb,xu,xc,N,w,k,o,A,U,C,rfl,B,hA,hU,hC,hk,ho,kk⟩
 refine⟨rfl,?_⟩
 have lA:=hA.len
 have lU:=hU.len
 have lC:=hC.len
 have bx1:=iw B.eb B.e1
 have bx2:=iw B.eb B.e2
 have bx3:=iw B.eb B.e3
 have hb:b<st.length:=(List.getElem?_eq_some_iff.mp B.eb).1
 have hu:xu<st.length:=(List.getElem?_eq_some_iff.mp B.e2).1
 have hc:xc<st.length:=(List.getElem?_eq_some_iff.mp B.e3).1
 refine cj B.eb rfl ?_
 refine⟨xb,k,o,A,rfl,B.e1,by omega,by omega,?_⟩
 have eb1:(st++[Cell.lst ((Mx.bp A k o).map a_)])[b]?=some (.ins ak [("body",.ref xb),("turn",.ref xu),("back_columns",.ref xc)]):=by rw[List.getElem?_append_left hb];exact B.eb
 refine jL eb1 (by simp) ?_
 have pb:putD "body" (.ref st.length) [("body",.ref xb),("turn",.ref xu),("back_columns",.ref xc)]=([("body",.ref st.length),("turn",.ref xu),("back_columns",.ref xc)]:List (Str×D)):=rfl
 rw[pb]
 generalize hs1:(st++[Cell.lst ((Mx.bp A k o).map a_)]).set b (.ins ak [("body",.ref st.length),("turn",.ref xu),("back_columns",.ref xc)])=st1
 have l1:st1.length=st.length+1:=by rw[←hs1];simp
 have f1:∀m,m<st.length→m≠b→st1[m]?=st[m]?:=fun m hm hmb=>by rw[←hs1,List.getElem?_set_ne (Ne.symm hmb),List.getElem?_append_left hm]
 have b1:st1[b]?=some (.ins ak [("body",.ref st.length),("turn",.ref xu),("back_columns",.ref xc)]):=by rw[←hs1,List.getElem?_set_self (by simp;omega)]
 have x1:st1[st.length]?=some (.lst ((Mx.bp A k o).map a_)):=by rw[←hs1,List.getElem?_set_ne (by omega)];simp
 clear hs1 eb1
 refine cj b1 rfl ?_
 refine⟨xu,k,o,U,rfl,(f1 xu hu (Ne.symm bx2)).trans B.e2,by omega,by omega,?_⟩
 have eb1:(st1++[Cell.lst ((Mx.bp U k o).map a_)])[b]?=some (.ins ak [("body",.ref st.length),("turn",.ref xu),("back_columns",.ref xc)]):=by rw[List.getElem?_append_left (by omega)];exact b1
 refine jL eb1 (by simp) ?_
 have pb:putD "turn" (.ref st1.length) [("body",.ref st.length),("turn",.ref xu),("back_columns",.ref xc)]=([("body",.ref st.length),("turn",.ref st1.length),("back_columns",.ref xc)]:List (Str×D)):=rfl
 rw[pb]
 generalize hs2:(st1++[Cell.lst ((Mx.bp U k o).map a_)]).set b (.ins ak [("body",.ref st.length),("turn",.ref st1.length),("back_columns",.ref xc)])=st2
 have l2:st2.length=st.length+2:=by rw[←hs2];simp;omega
 have f2:∀m,m<st1.length→m≠b→st2[m]?=st1[m]?:=fun m hm hmb=>by rw[←hs2,List.getElem?_set_ne (Ne.symm hmb),List.getElem?_append_left hm]
 have b2:st2[b]?=some (.ins ak [("body",.ref st.length),("turn",.ref st1.length),("back_columns",.ref xc)]):=by rw[←hs2,List.getElem?_set_self (by simp;omega)]
 have x2:st2[st1.length]?=some (.lst ((Mx.bp U k o).map a_)):=by rw[←hs2,List.getElem?_set_ne (by omega)];simp
 clear hs2 eb1
 refine cj b2 rfl ?_
 refine⟨xc,k,o,C,rfl,((f2 xc (by omega) (Ne.symm bx3)).trans (f1 xc hc (Ne.symm bx3))).trans B.e3,by omega,by omega,?_⟩
 have eb1:(st2++[Cell.lst ((Mx.bp C k o).map a_)])[b]?=some (.ins ak [("body",.ref st.length),("turn",.ref st1.length),("back_columns",.ref xc)]):=by rw[List.getElem?_append_left (by omega)];exact b2
 refine jL eb1 (by simp) ?_
 have pb:putD "back_columns" (.ref st2.length) [("body",.ref st.length),("turn",.ref st1.length),("back_columns",.ref xc)]=([("body",.ref st.length),("turn",.ref st1.length),("back_columns",.ref st2.length)]:List (Str×D)):=rfl
 rw[pb]
 refine kk _ ⟨?_,?_,?_,?_,by omega,by omega,by omega⟩ (by simp;omega) fun m hm hmb=>?_
 · rw[List.getElem?_set_self (by simp;omega),l1,l2]
 · rw[List.getElem?_set_ne (by omega),List.getElem?_append_left (by omega),f2 _ (by omega) (by omega)];exact x1
 · rw[List.getElem?_set_ne (by omega),List.getElem?_append_left (by omega)]
   rw[l1]at x2
   exact x2
 · rw[List.getElem?_set_ne (by omega)]
   rw[show st.length+2=st2.length by omega]
   simp
 · rw[List.getElem?_set_ne (Ne.symm hmb),List.getElem?_append_left (by omega),f2 m (by omega) hmb,f1 m hm hmb]
def dM:dc:=fun ds st K=>∃(b xb xu xc N w k:Nat) (A U C:List (List Int)),ds=[.ref b,.int k]∧Bn st b xb xu xc A U C∧Mx.bK N w A∧Mx.bK N N U∧Mx.bK N N C∧k<N∧N≤8∧w≤9∧
 ∀st',Bn st' b xb xu xc (Mx.fj A k) (Mx.fj U k) (Mx.fj C k)→st'.length=st.length→(∀m,m≠xb→m≠xu→m≠xc→st'[m]?=st[m]?)→K .aJ st'
def e8:List Str:=["self","k"]
def mE:DS:=(aS (dO (du ak "body" (aa 0)) (aa 1) (aY gu (ag (au bz (du ak "body" (aa 0)) (aa 1)) av)))
 (aS (dO (du ak "turn" (aa 0)) (aa 1) (aY gu (ag (au bz (du ak "turn" (aa 0)) (aa 1)) av)))
 (dO (du ak "back_columns" (aa 0)) (aa 1) (aY gu (ag (au bz (du ak "back_columns" (aa 0)) (aa 1)) av)))))
theorem lP:∀ds st K,dM ds st K→ds.length=2∧mE {nx:=fun _ st'=>K .aJ st',rt:=K} (bG e8 ds) st:=by
 rintro ds st K ⟨b,xb,xu,xc,N,w,k,A,U,C,rfl,B,hA,hU,hC,hk,hN,hw,kk⟩
 refine⟨rfl,?_⟩
 have lA:=hA.len
 have lU:=hU.len
 have lC:=hC.len
 have rA:=Mx.cg hA hk
 have rU:=Mx.cg hU hk
 have rC:=Mx.cg hC hk
 have bx1:=iw B.eb B.e1
 have bx2:=iw B.eb B.e2
 have bx3:=iw B.eb B.e3
 have n1:=B.n1
 have n2:=B.n2
 have n3:=B.n3
 refine cj B.eb rfl (aM (ay B.e1) (de (by omega)) ?_)
 refine⟨_,A.getD k [],rfl,rfl,by omega,?_⟩
 refine cj B.eb rfl (fI B.e1 (by rw[List.length_map,lA];exact je hk) ?_)
 rw[fU]
 have g1:∀m,m≠xb→(st.set xb (.lst ((A.set k ((A.getD k []).map fun x=> -x)).map a_)))[m]?=st[m]?:=fun m hm=>List.getElem?_set_ne (Ne.symm hm)
 have h1:(st.set xb (.lst ((A.set k ((A.getD k []).map fun x=> -x)).map a_)))[xb]?=some (.lst ((Mx.fj A k).map a_)):=List.getElem?_set_self (List.getElem?_eq_some_iff.mp B.e1).1
 have z1:(st.set xb (.lst ((A.set k ((A.getD k []).map fun x=> -x)).map a_))).length=st.length:=List.length_set
 generalize st.set xb (.lst ((A.set k ((A.getD k []).map fun x=> -x)).map a_))=st1 at g1 h1 z1⊢
 have eb1:=(g1 b bx1).trans B.eb
 have e21:=(g1 xu (Ne.symm n1)).trans B.e2
 have e31:=(g1 xc (Ne.symm n2)).trans B.e3
 refine cj eb1 rfl (aM (ay e21) (de (by omega)) ?_)
 refine⟨_,U.getD k [],rfl,rfl,by omega,?_⟩
 refine cj eb1 rfl (fI e21 (by rw[List.length_map,lU];exact je hk) ?_)
 rw[fU]
 have g2:∀m,m≠xu→(st1.set xu (.lst ((U.set k ((U.getD k []).map fun x=> -x)).map a_)))[m]?=st1[m]?:=fun m hm=>List.getElem?_set_ne (Ne.symm hm)
 have h2:(st1.set xu (.lst ((U.set k ((U.getD k []).map fun x=> -x)).map a_)))[xu]?=some (.lst ((Mx.fj U k).map a_)):=List.getElem?_set_self (List.getElem?_eq_some_iff.mp e21).1
 have z2:(st1.set xu (.lst ((U.set k ((U.getD k []).map fun x=> -x)).map a_))).length=st1.length:=List.length_set
 generalize st1.set xu (.lst ((U.set k ((U.getD k []).map fun x=> -x)).map a_))=st2 at g2 h2 z2⊢
 have eb2:=(g2 b bx2).trans eb1
 have e32:=(g2 xc (Ne.symm n3)).trans e31
 refine cj eb2 rfl (aM (ay e32) (de (by omega)) ?_)
 refine⟨_,C.getD k [],rfl,rfl,by omega,?_⟩
 refine cj eb2 rfl (fI e32 (by rw[List.length_map,lC];exact je hk) ?_)
 rw[fU]
 refine kk _ ⟨?_,?_,?_,?_,n1,n2,n3⟩ (by rw[List.length_set];omega) fun m m1 m2 m3=>?_
 · rw[List.getElem?_set_ne (Ne.symm bx3)];exact eb2
 · rw[List.getElem?_set_ne (Ne.symm n2),g2 _ n1];exact h1
 · rw[List.getElem?_set_ne (Ne.symm n3)];exact h2
 · exact List.getElem?_set_self (List.getElem?_eq_some_iff.mp e32).1
 · rw[List.getElem?_set_ne (Ne.symm m3),g2 m m2,g1 m m1]
def dH:dc:=fun ds st K=>∃(b xb xu xc N w top p:Nat) (A U C:List (List Int)) (f:Bool),ds=[.ref b,.int top,.int p]∧Bn st b xb xu xc A U C∧Mx.bK N w A∧top≤N∧N≤8∧p<w∧w≤9∧st[0]?=some (gb f)∧
 ∀L,Mx.d_ A N top p L→K (.lst (L.map fun(k:Nat)=> .int (k:Int))) (st.set 0 (gb true))
def fz:List Str:=["self","top","place","live"]
def nS:DS:=(aS (bP 3 (dm (nP (ag (aa 1) (ag (cU eY (ag (du ak "body" (aa 0)) av)) av))) [none,some 0,some 2] (bY 0) (bS (au ow (au bz (au bz (du ak "body" (aa 1)) (aa 0)) (aa 2)) (dC (.int 0)))) (aa 0)))
 (cR (tY 0 98 ⟨48,32,48,66⟩ "Bench.live_rows.<locals>.<lambda>" [none,some 0,some 2] (cU qo (ag (au bz (au bz (du ak "body" (aa 1)) (aa 0)) (aa 2)) av)) (aa 3))))
theorem o3{a b:Prop}(h:b):if false=true then a else b:=h
theorem AH{st:af}{b:Nat}{C:Addr}{fs:List (Str×D)}{f:Bool}(h1:st[b]?=some (Cell.ins C fs))(h2:st[0]?=some (gb f)):b≠0:=fun z=>by rw[z,h2]at h1;cases h1
theorem kO{st:af}{b:Nat}{xs:List D}{f:Bool}(h1:st[b]?=some (Cell.lst xs))(h2:st[0]?=some (gb f)):b≠0:=fun z=>by rw[z,h2]at h1;cases h1
theorem Bn.keep{st st':af}{b xb xu xc:Nat}{A U C:List (List Int)}(B:Bn st b xb xu xc A U C)(h:∀m,m=b∨m=xb∨m=xu∨m=xc→st'[m]?=st[m]?):Bn st' b xb xu xc A U C:=
 ⟨(h b (.inl rfl)).trans B.eb,(h xb (.inr (.inl rfl))).trans B.e1,(h xu (.inr (.inr (.inl rfl)))).trans B.e2,(h xc (.inr (.inr (.inr rfl)))).trans B.e3,B.n1,B.n2,B.n3⟩
theorem Bn.tab{st:af}{b xb xu xc:Nat}{A U C:List (List Int)}{f:Bool}(B:Bn st b xb xu xc A U C)(h:st[0]?=some (gb f))(c:Cell):Bn (st.set 0 c) b xb xu xc A U C:=
 B.keep fun m hm=>List.getElem?_set_ne fun z=>by
  subst z
  rcases hm with rfl|rfl|rfl|rfl
  · exact AH B.eb h rfl
  · exact kO B.e1 h rfl
  · exact kO B.e2 h rfl
  · exact kO B.e3 h rfl
theorem j9{r:List Int}{k:Nat}(h:k<r.length):eK (aE r) (k:Int)=some (.int (r.getD k 0)):=by
 refine iq ?_
 unfold aE
 rw[List.getElem?_map,List.getElem?_eq_getElem h,Mx.bJ h];rfl
def fk(A:List (List Int))(N top p:Nat):List Nat:=(List.range (N-top)).filterMap fun i=>if Mx.g A (top+i) p≠0 then some (top+i)else none
theorem qI{A:List (List Int)}{N top p k:Nat}:k∈fk A N top p↔top≤k∧k<N∧Mx.g A k p≠0:=by
 unfold fk
 rw[List.mem_filterMap]
 constructor
 · rintro⟨i,hi,e⟩
   rw[List.mem_range]at hi
   split at e
   · rename_i h;cases e;exact⟨by omega,by omega,h⟩
   · cases e
 · rintro⟨h1,h2,h3⟩
   refine⟨k-top,List.mem_range.mpr (by omega),?_⟩
   rw[show top+(k-top)=k by omega,if_pos h3]
theorem pw_filterMap{f:Nat→Option Nat}(h:∀i j a b,i<j→f i=some a→f j=some b→a<b):∀ {l:List Nat},l.Pairwise (· < ·)→(l.filterMap f).Pairwise (· < ·)
 | [],_=>by simp
 |x::l,hl=>by
  obtain⟨h1,h2⟩:=List.pairwise_cons.mp hl
  rw[List.filterMap_cons]
  split
  · exact pw_filterMap h h2
  · rename_i a e
    refine List.pairwise_cons.mpr ⟨fun b hb=>?_,pw_filterMap h h2⟩
    obtain⟨j,hj,ej⟩:=List.mem_filterMap.mp hb
    exact h x j a b (h1 j hj) e ej
theorem pw_liveR{A:List (List Int)}{N top p:Nat}:(fk A N top p).Pairwise (· < ·):=by
 unfold fk
 refine pw_filterMap (fun i j a b hij ha hb=>?_) List.pairwise_lt_range
 split at ha
 · split at hb
   · cases ha;cases hb;omega
   · cases hb
 · cases ha
theorem rf{f:Nat→Option Nat}(l:List Nat):(l.filterMap f).length≤l.length:=List.length_filterMap_le ..
theorem AS{A:List (List Int)}{N top p:Nat}{os:List (Int×Int)}(hp:os.Perm (((fk A N top p).map fun(k:Nat)=>(((Mx.g A k p).natAbs:Nat):Int)).zip ((fk A N top p).map fun(k:Nat)=>(k:Int))))(hs:os.Pairwise slt):
 Mx.d_ A N top p (os.map fun q=>q.2.toNat)∧os.map (fun q=>D.int q.2)=(os.map fun q=>q.2.toNat).map fun(k:Nat)=>D.int (k:Int):=by
 have hz:((fk A N top p).map fun(k:Nat)=>(((Mx.g A k p).natAbs:Nat):Int)).zip ((fk A N top p).map fun(k:Nat)=>(k:Int))=(fk A N top p).map fun k=>((((Mx.g A k p).natAbs:Nat):Int),(k:Int)):=by
  exact List.zip_map' ..
 rw[hz]at hp
 have hm:∀q∈os,∃k,k∈fk A N top p∧q=((((Mx.g A k p).natAbs:Nat):Int),(k:Int)):=fun q hq=>by
  obtain⟨k,h1,h2⟩:=List.mem_map.mp (hp.mem_iff.mp hq)
  exact⟨k,h1,h2.symm⟩
 refine⟨⟨fun k=>?_,?_⟩,?_⟩
 · rw[←qI]
   constructor
   · intro h
     obtain⟨q,hq,e⟩:=List.mem_map.mp h
     obtain⟨j,h1,rfl⟩:=hm q hq
     simp only[Int.toNat_natCast]at e
     rw[←e];exact h1
   · intro h
     exact List.mem_map.mpr ⟨((((Mx.g A k p).natAbs:Nat):Int),(k:Int)),hp.mem_iff.mpr (List.mem_map.mpr ⟨k,h,rfl⟩),by simp⟩
 · rw[List.pairwise_map]
   refine hs.imp_of_mem fun{x y} hx hy h=>?_
   obtain⟨j,_,rfl⟩:=hm x hx
   obtain⟨k,_,rfl⟩:=hm y hy
   unfold slt at h
   simp only[Int.toNat_natCast]
   omega
 · rw[List.map_map]
   refine List.map_congr_left fun q hq=>?_
   obtain⟨j,_,rfl⟩:=hm q hq
   simp
theorem mN:∀ds st K,dH ds st K→ds.length=3∧nS {nx:=fun _ st'=>K .aJ st',rt:=K} (bG fz ds) st:=by
 rintro ds st K ⟨b,xb,xu,xc,N,w,top,p,A,U,C,f,rfl,B,hA,ht,hN,hp,hw,h0,k⟩
 refine⟨rfl,?_⟩
 have lA:=hA.len
 have rowA:∀i,i<N→(A.getD i []).length=w:=fun i hi=>Mx.cg hA hi
 refine cj B.eb rfl (dD (ay B.e1) ?_)
 rw[List.length_map,lA]
 refine Ba ⟨by omega,by omega,by omega,by omega⟩ ⟨bU (by unfold df;simp;omega),?_⟩
 have er:((N:Int)-(top:Int)).toNat=N-top:=by omega
 rw[er]
 refine gp (fun rest acc st'=>∃i:Nat,i≤N-top∧st'=st∧rest=(List.range (N-top-i)).map (fun j=>D.int ((top+i+j:Nat):Int))∧acc=((List.range i).filterMap fun i=>if Mx.g A (top+i) p≠0 then some (top+i)else none).map fun(k:Nat)=>D.int (k:Int)) ?_ ?_ _ _ _ ⟨0,Nat.zero_le _,rfl,by unfold df;simp,by simp⟩
 · rintro acc st' ⟨i,hi,rfl,hr,rfl⟩
   have hi':i=N-top:=by
    rcases Nat.lt_or_ge i (N-top)with z|z
    · rw[show N-top-i=(N-top-i-1)+1 by omega,List.range_succ_eq_map]at hr;cases hr
    · omega
   subst hi'
   refine⟨trivial,?_⟩
   have e1:((fk A N top p).map fun(k:Nat)=>D.int (k:Int))=((fk A N top p).map fun(k:Nat)=>(k:Int)).map D.int:=by rw[List.map_map];rfl
   refine⟨(fk A N top p).map fun(k:Nat)=>(k:Int),(fk A N top p).map fun(k:Nat)=>(((Mx.g A k p).natAbs:Nat):Int),f,congrArg D.lst e1,?_,?_,by rw[List.length_map,List.length_map],h0,fun i n q hn hq=>?_,fun os hp' hs=>?_⟩
   · rw[List.length_map]
     have:=rf (f:=fun i=>if Mx.g A (top+i) p≠0 then some (top+i)else none) (List.range (N-top))
     rw[List.length_range]at this
     show(fk A N top p).length<64
     unfold fk
     omega
   · rw[List.pairwise_map]
     exact pw_liveR.imp fun h=>by omega
   · rw[List.getElem?_map]at hn hq
     cases z:(fk A N top p)[i]? with
     |none=>rw[z]at hn;cases hn
     |some j=>
      rw[z]at hn hq
      cases hn;cases hq
      obtain⟨j1,j2,j3⟩:=qI.mp (List.mem_of_getElem? z)
      have B1:=B.tab h0 (gb true)
      refine cj B1.eb rfl (aM (ay B1.e1) (de (by omega)) (aM rfl (j9 (by rw[rowA j j2];exact hp)) (wR ⟨rfl,rfl⟩)))
   · obtain⟨h1,h2⟩:=AS hp' hs
     rw[h2]
     exact k _ h1
 · rintro d rest acc st' ⟨i,hi,rfl,hr,rfl⟩ next
   have hlt:i<N-top:=by
    rcases Nat.lt_or_ge i (N-top)with z|z
    · exact z
    · rw[show N-top-i=0 by omega]at hr;cases hr
   rw[show N-top-i=(N-top-i-1)+1 by omega,List.range_succ_eq_map,List.map_cons,List.map_map]at hr
   obtain⟨rfl,rfl⟩:=List.cons.inj hr
   refine⟨trivial,_,rfl,?_⟩
   refine cj B.eb rfl (aM (ay B.e1) (de (j:=top+i+0) (by omega)) (aM rfl (j9 (by rw[rowA _ (by omega)];exact hp)) ?_))
   have e2:List.range (i+1)=List.range i++[i]:=List.range_succ
   have e3:((List.range (N-top-i-1)).map ((fun j=>D.int ((top+i+j:Nat):Int))∘Nat.succ))=(List.range (N-top-(i+1))).map fun j=>D.int ((top+(i+1)+j:Nat):Int):=by
    rw[show N-top-i-1=N-top-(i+1) by omega]
    refine List.map_congr_left fun j _=>?_
    show D.int ((top+i+(j+1):Nat):Int)=_
    rw[show top+i+(j+1)=top+(i+1)+j by omega]
   refine ne2 (fun h=>?_) fun h=>?_
   · refine(next _ _ ⟨i+1,by omega,rfl,e3,?_⟩)
     rw[e2,List.filterMap_append,List.map_append]
     have:Mx.g A (top+i) p≠0:=h
     simp[this]
   · refine(next _ _ ⟨i+1,by omega,rfl,e3,?_⟩)
     rw[e2,List.filterMap_append,List.map_append]
     have:Mx.g A (top+i) p=0:=h
     simp[this]
structure Bo(n0:Nat)(st st':af)(b xb xu xc:Nat):Prop where
 lo:1≤n0∧n0≤b∧n0≤xb∧n0≤xu∧n0≤xc
 fr:∀m,m<n0→m≠0→st'[m]?=st[m]?
 tb:∃f,st'[0]?=some (gb f)
def fH:dc:=fun ds st K=>∃(n0 b xb xu xc N w top p e u z:Nat) (A0 A U C:List (List Int)) (ld:Nat→Nat),ds=[.ref b,.int top,.int p]∧Bn st b xb xu xc A U C∧Bo n0 st st b xb xu xc∧Mx.eB A0 N w ⟨A,U,C⟩ top p ld e u∧N≤8∧w≤9∧p<w∧z≤60000000∧(∀c,Mx.cL N top p ⟨A,U,C⟩ c→Mx.Sm c N (2^z))∧
 (∀st',Bn st' b xb xu xc A U C→Bo n0 st st' b xb xu xc→Mx.d_ A N top p []→K (.bl false) st')∧
 ∀st' xb' xu' xc' (c:Mx.B3) (r:Nat),Bn st' b xb' xu' xc' (Mx.setB c p top r).A (Mx.setB c p top r).U (Mx.setB c p top r).C→Bo n0 st st' b xb' xu' xc'→Mx.cL N top p ⟨A,U,C⟩ c→Mx.d_ c.A N top p [r]→K (.bl true) st'
def gK:List Str:=["self","top","place","live","great","small"]
def p9:DS:=(aS (bP 3 (g0 ak "live_rows" dH (aa 0) (ag (aa 1) (ag (aa 2) av))))
 (aS (tF (bS (au lb (cU eY (ag (aa 3) av)) (dC (.int 1)))) (aS (bP 4 (au bz (aa 3) (lg g_ (dC (.int 1)))))
 (aS (bP 5 (au bz (aa 3) (lg g_ (dC (.int 2)))))
 (aS (iX (g0 ak "take" eW (aa 0) (ag (aa 4) (ag (aY d7 (ag (au bz (au bz (du ak "body" (aa 0)) (aa 4)) (aa 2)) (ag (au bz (au bz (du ak "body" (aa 0)) (aa 5)) (aa 2)) av))) (ag (aa 5) av)))))
 (bP 3 (g0 ak "live_rows" dH (aa 0) (ag (aa 1) (ag (aa 2) av))))))))
 (aS (eS (bS (au gg (cU eY (ag (aa 3) av)) (dC (.int 0)))) (cR (dC (.bl false))) dE)
 (aS (iX (g0 ak "exchange" eX (aa 0) (ag (aa 1) (ag (au bz (aa 3) (dC (.int 0))) av))))
 (aS (eS (bS (au mx (au bz (au bz (du ak "body" (aa 0)) (aa 1)) (aa 2)) (dC (.int 0)))) (iX (g0 ak "change_sign" dM (aa 0) (ag (aa 1) av))) dE)
 (cR (dC (.bl true))))))))
theorem Bo.Ci{n0:Nat}{st st':af}{b xb xu xc:Nat}(h:Bo n0 st st' b xb xu xc):Bo n0 st (st'.set 0 (gb true)) b xb xu xc:=
 ⟨h.lo,fun m hm h0=>by rw[List.getElem?_set_ne (Ne.symm h0)];exact h.fr m hm h0,true,by
  obtain⟨f,e⟩:=h.tb
  exact List.getElem?_set_self (List.getElem?_eq_some_iff.mp e).1⟩
theorem Bo.low{n0:Nat}{st st1 st2:af}{b xb xu xc:Nat}(h:Bo n0 st st1 b xb xu xc)(f:∀m,m≠xb→m≠xu→m≠xc→st2[m]?=st1[m]?):Bo n0 st st2 b xb xu xc:=by
 obtain⟨l1,l2,l3,l4,l5⟩:=h.lo
 refine⟨h.lo,fun m hm h0=>?_,?_⟩
 · rw[f m (by omega) (by omega) (by omega)];exact h.fr m hm h0
 · obtain⟨z,e⟩:=h.tb
   exact⟨z,by rw[f 0 (by omega) (by omega) (by omega)];exact e⟩
theorem uh{n j:Nat}(h:1≤j)(h2:j≤n):jr n (-(j:Int))=some (n-j):=by
 unfold jr
 rw[if_neg (by omega),if_pos (by omega)]
 congr 1
 omega
theorem El{L:List Nat}{j k:Nat}:eK ((L++[j,k]).map fun(k:Nat)=>D.int (k:Int)) (-1)=some (.int (k:Int)):=by
 unfold eK
 have:=uh (n:=((L++[j,k]).map fun(k:Nat)=>D.int (k:Int)).length) (j:=1) (by decide) (by simp)
 rw[show(-((1:Nat):Int))= -1 from rfl]at this
 rw[this]
 simp
theorem Eb{L:List Nat}{j k:Nat}:eK ((L++[j,k]).map fun(k:Nat)=>D.int (k:Int)) (-2)=some (.int (j:Int)):=by
 unfold eK
 have:=uh (n:=((L++[j,k]).map fun(k:Nat)=>D.int (k:Int)).length) (j:=2) (by decide) (by simp)
 rw[show(-((2:Nat):Int))= -2 from rfl]at this
 rw[this]
 simp
theorem zw:∀ {L:List Nat},1<L.length→∃M j k,L=M++[j,k]:=fun{L} h=>by
 refine⟨L.take (L.length-2),L[L.length-2]'(by omega),L[L.length-1]'(by omega),?_⟩
 have e1:L=L.take (L.length-2)++L.drop (L.length-2):=(List.take_append_drop _ _).symm
 have e2:L.drop (L.length-2)=[L[L.length-2]'(by omega),L[L.length-1]'(by omega)]:=by
  rw[List.drop_eq_getElem_cons (by omega),List.drop_eq_getElem_cons (by omega),List.drop_eq_nil_of_le (by omega)]
  congr 2
  congr 1
  omega
 rw[←e2];exact e1
theorem pE:∀ds st K,fH ds st K→ds.length=3∧p9 {nx:=fun _ st'=>K .aJ st',rt:=K} (bG gK ds) st:=by
 rintro ds st K ⟨n0,b,xb,xu,xc,N,w,top,p,e,u,z,A0,A,U,C,ld,rfl,B,O,S,hN,hw,hp,hzz,hz,kf,kt⟩
 refine⟨rfl,?_⟩
 have hle:=S.le
 obtain⟨f,h0⟩:=O.tb
 refine iu B.eb rfl ?_
 refine⟨b,xb,xu,xc,N,w,top,p,A,U,C,f,rfl,B,S.tn.isA,hle,hN,hp,hw,h0,fun L hL=>?_⟩
 have B1:=B.tab h0 (gb true)
 have O1:=O.Ci
 try dsimp only[av]
 refine gN (fun σ st'=>∃(L:List Nat) (v4 v5:Option D) (c:Mx.B3) (gr:Nat),σ=[some (.ref b),some (.int top),some (.int p),some (.lst (L.map fun(k:Nat)=> .int (k:Int))),v4,v5]∧L.length≤1∧Bn st' b xb xu xc c.A c.U c.C∧Bo n0 st st' b xb xu xc∧Mx.cL N top p ⟨A,U,C⟩ c∧Mx.kP A0 N w top p (2^e) ⟨A,U,C⟩ c gr∧Mx.d_ c.A N top p L) (fun nx hnx=>?_) ?_
 · refine⟨fun m σ st'=>∃(L:List Nat) (v4 v5:Option D) (c:Mx.B3) (gr:Nat),σ=[some (.ref b),some (.int top),some (.int p),some (.lst (L.map fun(k:Nat)=> .int (k:Int))),v4,v5]∧Bn st' b xb xu xc c.A c.U c.C∧Bo n0 st st' b xb xu xc∧Mx.cL N top p ⟨A,U,C⟩ c∧Mx.kP A0 N w top p (2^e) ⟨A,U,C⟩ c gr∧Mx.d_ c.A N top p L∧m=Mx.mu c.A N p,⟨_,L,none,none,⟨A,U,C⟩,1,rfl,B1,O1,.refl _,S.mq,hL,rfl⟩,?_⟩
   rintro m σ st1 ⟨L,v4,v5,c,gr,rfl,B,O,hR,hG,hL,rfl⟩
   refine dD rfl ?_
   rw[List.length_map]
   refine Fh (fun h=>e7 ?_) fun h=>o3 (hnx _ _ ⟨L,v4,v5,c,gr,rfl,by omega,B,O,hR,hG,hL⟩)
   obtain⟨M,j,k,rfl⟩:=zw (L:=L) (by omega)
   refine iC (aM rfl El (iC (aM rfl Eb ?_)))
   obtain⟨G2,hlt,hoth,k1,k2,j1,j2,hjk,hj0⟩:=hG.step hp hL
   have T:=hG.tn
   have lA:=T.isA.len
   have hsm:=hz c hR
   refine iu B.eb rfl (cj B.eb rfl (aM (ay B.e1) (de (by omega)) (aM rfl (j9 (by rw[Mx.cg T.isA k2];exact hp)) (cj B.eb rfl (aM (ay B.e1) (de (by omega)) (aM rfl (j9 (by rw[Mx.cg T.isA j2];exact hp)) ?_))))))
   refine⟨_,_,rfl,hj0,?_⟩
   have hq:(Mx.qn (Mx.g c.A k p) (Mx.g c.A j p)).natAbs≤2^(z+1):=Nat.le_trans (Mx.EN hj0) (Mx.uH (hsm k p k2).1 (hsm j p j2).1)
   have hm:∀ {x:Int},x.natAbs≤2^z→IntMulOk (Mx.qn (Mx.g c.A k p) (Mx.g c.A j p)) x∧IntMulOk (-(Mx.qn (Mx.g c.A k p) (Mx.g c.A j p))) x:=fun{x} h=>
    ⟨jG hq h (by omega),jG (by rw[Int.natAbs_neg];exact hq) h (by omega)⟩
   have mg:∀ {X:List (List Int)} {i:Nat} {x:Int},x∈X.getD i []→∃q,x=Mx.g X i q:=fun{X i x} hx=>by
    obtain⟨c,hc,rfl⟩:=List.mem_iff_getElem.mp hx
    exact⟨c,by unfold Mx.g;rw[Mx.bJ hc]⟩
   refine⟨b,xb,xu,xc,N,w,k,j,c.A,c.U,c.C,_,rfl,B,T.isA,T.d6,T.eL,k2,j2,hN,hw,fun x hx=>(by obtain⟨q,rfl⟩:=mg hx;exact(hm (hsm j q j2).1).2),fun x hx=>(by obtain⟨q,rfl⟩:=mg hx;exact(hm (hsm j q j2).2.1).2),fun x hx=>(by obtain⟨q,rfl⟩:=mg hx;exact(hm (hsm k q k2).2.2).1),fun st2 B2 l2 f2=>?_⟩
   have O2:=O.low f2
   obtain⟨f',h0'⟩:=O2.tb
   refine iu B2.eb rfl ?_
   refine⟨b,xb,xu,xc,N,w,top,p,_,_,_,f',rfl,B2,G2.tn.isA,hle,hN,hp,hw,h0',fun L2 hL2=>?_⟩
   refine⟨_,?_,L2,_,_,Mx.d9 c p k j,_,rfl,B2.tab h0' (gb true),O2.Ci,hR.tail ⟨M,k,j,hL,rfl⟩,G2,hL2,rfl⟩
   unfold Mx.mu
   refine Mx.wz (k:=k) hlt k2 fun i hi=>?_
   by_cases h:i=k
   · rw[h];exact Nat.le_of_lt hlt
   · rw[hoth i h];exact Nat.le_refl _
 · rintro σ st1 ⟨L,v4,v5,c,gr,rfl,hl,B,O,hR,hG,hL⟩
   refine dD rfl ?_
   rw[List.length_map]
   match L,hl,hL with
   | [],_,hL=>
     refine eq2 (fun h=>e7 ?_) fun h=>absurd rfl h
     have e0:c=⟨A,U,C⟩:=by
      rcases hG.Fe with z|⟨j,h1,h2,h3⟩
      · exact z
      · exact absurd ((hL.mem j).mpr ⟨h1,h2,h3⟩) (by simp)
     subst e0
     exact kf st1 B O hL
   | [r],_,hL=>
     refine eq2 (fun h=>absurd h (by simp)) fun h=>o3 ?_
     obtain⟨s1,hr1,hr2⟩:=hG.set hL
     have ht:top<N:=by omega
     have T:=hG.tn
     refine iu B.eb rfl (aM rfl (show eK ([r].map fun(k:Nat)=>D.int (k:Int)) 0=some (.int (r:Int))from rfl) ?_)
     refine⟨b,xb,xu,xc,N,w,top,r,c.A,c.U,c.C,rfl,B,T.isA,T.d6,T.eL,ht,hr2,fun st2 B2 l2 f2=>?_⟩
     obtain⟨l1,l2',l3,l4,l5⟩:=O.lo
     have hst:n0≤st1.length:=by
      have:=(List.getElem?_eq_some_iff.mp B.eb).1
      omega
     have O2:Bo n0 st st2 b st1.length (st1.length+1) (st1.length+2):=by
      refine⟨⟨l1,l2',by omega,by omega,by omega⟩,fun m hm h0=>?_,?_⟩
      · rw[f2 m (by omega) (by omega)];exact O.fr m hm h0
      · obtain⟨z,e⟩:=O.tb
        exact⟨z,by rw[f2 0 (by omega) (by omega)];exact e⟩
     have T1:=T.vD ht hr2
     refine cj B2.eb rfl (aM (ay B2.e1) (de (by have:=T1.isA.len;omega)) (aM rfl (j9 (by rw[Mx.cg T1.isA ht];exact hp)) ?_))
     refine Fi (fun h=>e7 ?_) fun h=>o3 ?_
     · have es:Mx.setB c p top r=⟨Mx.fj (Mx.bp c.A top r) top,Mx.fj (Mx.bp c.U top r) top,Mx.fj (Mx.bp c.C top r) top⟩:=if_pos h
       refine iu B2.eb rfl ?_
       refine⟨b,_,_,_,N,w,top,_,_,_,rfl,B2,T1.isA,T1.d6,T1.eL,ht,hN,hw,fun st3 B3 l3 f3=>?_⟩
       exact kt st3 _ _ _ c r (by rw[es];exact B3) (O2.low f3) hR hL
     · have es:Mx.setB c p top r=⟨Mx.bp c.A top r,Mx.bp c.U top r,Mx.bp c.C top r⟩:=if_neg (fun z=>by unfold Mx.g at z;omega)
       exact kt st2 _ _ _ c r (by rw[es];exact B2) O2 hR hL
def dN:dc:=fun ds st K=>∃(b xb xu xc N w top p e u z:Nat) (A0 A U C:List (List Int)),ds=[.ref b,.int top,.int p]∧Bn st b xb xu xc A U C∧Mx.Tn A0 A U C N w∧N≤8∧w≤9∧p<w∧top<N∧0<Mx.g A top p∧(∀q,q<p→Mx.g A top q=0)∧
 (∀q,(Mx.g A top q).natAbs≤2^e∧(Mx.g U top q).natAbs≤2^e∧(Mx.g C top q).natAbs≤2^e)∧(∀i q,i<top→(Mx.g A i q).natAbs≤2^u∧(Mx.g U i q).natAbs≤2^u∧(Mx.g C i q).natAbs≤2^u)∧z≤60000000∧(∀k,k≤top→Mx.Sm (Mx.cF p top k ⟨A,U,C⟩) N (2^z))∧
 ∀st',Bn st' b xb xu xc (Mx.cF p top top ⟨A,U,C⟩).A (Mx.cF p top top ⟨A,U,C⟩).U (Mx.cF p top top ⟨A,U,C⟩).C→(∀m,m≠xb→m≠xu→m≠xc→st'[m]?=st[m]?)→K .aJ st'
def e9:List Str:=["self","top","place","k"]
def mF:DS:=(nj (fg (ag (aa 1) av)) (bY 3) (iX (g0 ak "take" eW (aa 0) (ag (aa 3) (ag (au kW (au bz (au bz (du ak "body" (aa 0)) (aa 3)) (aa 2)) (au bz (au bz (du ak "body" (aa 0)) (aa 1)) (aa 2))) (ag (aa 1) av))))))
theorem vU{X:List (List Int)}{i:Nat}{x:Int}(hx:x∈X.getD i []):∃q,x=Mx.g X i q:=by
 obtain⟨c,hc,rfl⟩:=List.mem_iff_getElem.mp hx
 exact⟨c,by unfold Mx.g;rw[Mx.bJ hc]⟩
theorem l_:∀ds st K,dN ds st K→ds.length=3∧mF {nx:=fun _ st'=>K .aJ st',rt:=K} (bG e9 ds) st:=by
 rintro ds st K ⟨b,xb,xu,xc,N,w,top,p,e,u,z,A0,A,U,C,rfl,B,T,hN,hw,hp,ht,htp,hz,hlo,hhi,hzz,hsm,kk⟩
 refine⟨rfl,?_⟩
 refine gF ⟨by omega,by omega⟩ ?_
 rw[Int.toNat_natCast]
 refine jh top (fun k σ st'=>∃v3:Option D,σ=[some (.ref b),some (.int top),some (.int p),v3]∧Bn st' b xb xu xc (Mx.cF p top k ⟨A,U,C⟩).A (Mx.cF p top k ⟨A,U,C⟩).U (Mx.cF p top k ⟨A,U,C⟩).C∧(∀m,m≠xb→m≠xu→m≠xc→st'[m]?=st[m]?)∧Mx.j6 A0 N w top p e u ⟨A,U,C⟩ k (Mx.cF p top k ⟨A,U,C⟩)) ?_ ?_ ⟨none,rfl,B,fun _ _ _ _=>rfl,Mx.j6.start T fun q=>(hlo q).2.2⟩
 · rintro σ st' ⟨v3,rfl,B',f,I⟩
   exact kk st' B' f
 · rintro k σ st' rest hk ⟨v3,rfl,B',f,I⟩ next
   refine⟨_,rfl,?_⟩
   have hs:=I.step hk ht hp htp hz (fun q=>⟨(hlo q).1,(hlo q).2.1⟩) hhi
   have hs2:=hsm k (Nat.le_of_lt hk)
   generalize hc:Mx.cF p top k ⟨A,U,C⟩=c at*
   have lA:=I.tn.isA.len
   have kN:k<N:=by omega
   have gA:∀i q,k≤i→Mx.g c.A i q=Mx.g A i q:=fun i q hi=>by unfold Mx.g;rw[(I.rA i hi).1]
   have hq:((Mx.g c.A k p).fdiv (Mx.g c.A top p)).natAbs≤2^z:=Nat.le_trans (Mx.sy _ (by rw[gA top p (by omega)];exact htp)) (hs2 k p kN).1
   have htp':Mx.g c.A top p≠0:=by rw[gA top p (by omega)];omega
   refine iu B'.eb rfl (cj B'.eb rfl (aM (ay B'.e1) (de (by omega)) (aM rfl (j9 (by rw[Mx.cg I.tn.isA kN];exact hp)) (cj B'.eb rfl (aM (ay B'.e1) (de (by omega)) (aM rfl (j9 (by rw[Mx.cg I.tn.isA ht];exact hp)) (tm htp' ?_)))))))
   refine⟨b,xb,xu,xc,N,w,k,top,c.A,c.U,c.C,_,rfl,B',I.tn.isA,I.tn.d6,I.tn.eL,kN,ht,hN,hw,fun x hx=>?_,fun x hx=>?_,fun x hx=>?_,fun st2 B2 l2 f2=>?_⟩
   · obtain⟨q,rfl⟩:=vU hx
     exact jG (by rw[Int.natAbs_neg];exact hq) (hs2 top q ht).1 (by omega)
   · obtain⟨q,rfl⟩:=vU hx
     exact jG (by rw[Int.natAbs_neg];exact hq) (hs2 top q ht).2.1 (by omega)
   · obtain⟨q,rfl⟩:=vU hx
     exact jG hq (hs2 k q kN).2.2 (by omega)
   · have el:Mx.cF p top (k+1) ⟨A,U,C⟩=⟨Mx.bc c.A k ((Mx.g c.A k p).fdiv (Mx.g c.A top p)) top,Mx.bc c.U k ((Mx.g c.A k p).fdiv (Mx.g c.A top p)) top,Mx.bc c.C top (-((Mx.g c.A k p).fdiv (Mx.g c.A top p))) k⟩:=by rw[←hc];rfl
     refine next _ _ ⟨_,rfl,?_,fun m h1 h2 h3=>(f2 m h1 h2 h3).trans (f m h1 h2 h3),?_⟩
     · rw[el];exact B2
     · rw[el];exact hs
structure Bk(st st':af):Prop where
 le:st.length≤st'.length
 fr:∀m,m<st.length→m≠0→st'[m]?=st[m]?
 tb:∃f,st'[0]?=some (gb f)
def iD:dc:=fun ds st K=>∃(d:D) (N w e0 z:Nat) (A:List (List Int)) (f:Bool),ds=[d]∧iH st d A∧Mx.bK N w A∧1≤N∧N≤8∧w≤9∧Mx.d5 A N 0 (2^e0)∧z≤60000000∧(∀p t c,p<w→Mx.cE A N p t c→Mx.ke N p t z c)∧st[0]?=some (gb f)∧
 ∀st' (top:Nat) (c:Mx.B3),Mx.cE A N w top c→Bk st st'→K (.tup [c_ (c.A.take top),c_ c.U,c_ (Mx.Ap c.C N)]) st'
def jy:List Str:=["rows","bench","top","place","back"]
def vI:DS:=(aS (bP 1 (vM ak eR (ag (aa 0) av)))
 (aS (bP 2 (dC (.int 0)))
 (aS (nj (fg (ag (cU eY (ag (au bz (aa 0) (dC (.int 0))) av)) av)) (bY 3) (eS (bS (g0 ak "gather" fH (aa 1) (ag (aa 2) (ag (aa 3) av)))) (aS (iX (g0 ak "lower_above" dN (aa 1) (ag (aa 2) (ag (aa 3) av))))
 (wa 2 (tw (fun i j=>i+j)) (dC (.int 1)))) dE))
 (aS (bP 4 (aY fS (ag (du ak "back_columns" (aa 1)) (ag (cU eY (ag (aa 0) av)) av))))
 (cR (h_ (ag (aY ie (ag (jj (du ak "body" (aa 1)) ib (kq (aa 2))) av)) (ag (aY ie (ag (du ak "turn" (aa 1)) av)) (ag (aa 4) av)))))))))
theorem qL{st st':af}{f:Bool}(h0:st[0]?=some (gb f))(fr:∀m,m<st.length→m≠0→st'[m]?=st[m]?){d:D}{xs:List D}(h:items? st d=some xs):items? st' d=some xs:=by
 cases d with
 |ref n=>
  have e:=xB h
  have n0:n≠0:=kO e h0
  rw[ay ((fr n (List.getElem?_eq_some_iff.mp e).1 n0).trans e)]
 |_=>exact h
theorem qG{st st':af}{f:Bool}(h0:st[0]?=some (gb f))(fr:∀m,m<st.length→m≠0→st'[m]?=st[m]?):∀ {ds:List D} {A:List (List Int)},cf st ds A→cf st' ds A
 | [],[],_=>trivial
 |_::_,_::_,h=>⟨qL h0 fr h.1,qG h0 fr h.2⟩
theorem pP{st st':af}{f:Bool}(h0:st[0]?=some (gb f))(fr:∀m,m<st.length→m≠0→st'[m]?=st[m]?){d:D}{A:List (List Int)}(h:iH st d A):iH st' d A:=by
 obtain⟨ds,h1,h2⟩:=h.ex
 exact⟨ds,qL h0 fr h1,qG h0 fr h2⟩
theorem rQ{xs:List D}{j:Nat}:L3.cutD xs none (some (j:Int))=xs.take j:=by
 unfold L3.cutD
 rw[HT.u5,HT.tJ,List.drop_zero,Nat.sub_zero]
 by_cases h:j≤xs.length
 · rw[Nat.min_eq_left h]
 · rw[Nat.min_eq_right (by omega),List.take_length,List.take_of_length_le (by omega)]
theorem uK:∀ds st K,iD ds st K→ds.length=1∧vI {nx:=fun _ st'=>K .aJ st',rt:=K} (bG jy ds) st:=by
 rintro ds st K ⟨d,N,w,e0,z,A,f,rfl,hd,hA,hN1,hN,hw,hlo,hzz,hsz,h0,kk⟩
 refine⟨rfl,?_⟩
 have lA:=hA.len
 have h0l:0<st.length:=(List.getElem?_eq_some_iff.mp h0).1
 have hd1:iH (st++[Cell.ins ak []]) d A:=pP h0 (fun m hm _=>List.getElem?_append_left hm) hd
 refine⟨st.length,N,d,A,rfl,by simp,hd1,lA,hN,fun st1 B1 l1 f1=>⟨rfl,?_⟩⟩
 have hl1:(st++[Cell.ins ak []]).length=st.length+1:=by simp
 have fr1:∀m,m<st.length→st1[m]?=st[m]?:=fun m hm=>by rw[f1 m (by omega) (by omega),List.getElem?_append_left hm]
 have O1:Bo st.length st st1 st.length (st.length+1) (st.length+1+1) (st.length+1+2):=⟨⟨h0l,by omega,by omega,by omega,by omega⟩,fun m hm _=>fr1 m hm,f,(fr1 0 h0l).trans h0⟩
 rw[hl1]at B1
 have hdk:∀ {st':af},(∀m,m<st.length→m≠0→st'[m]?=st[m]?)→iH st' d A:=fun h=>pP h0 h hd
 obtain⟨da,hda,hra⟩:=(hdk O1.fr).ex
 have hdl:=hra.len
 have hrow0:∃d0,da[0]?=some d0∧items? st1 d0=some (aE (A.getD 0 [])):=by
  have hi:0<da.length:=by omega
  obtain⟨r,e1,e2⟩:=cf.get hra (List.getElem?_eq_getElem hi)
  refine⟨da[0],List.getElem?_eq_getElem hi,?_⟩
  have:A.getD 0 []=r:=by rw[List.getD_eq_getElem?_getD,e1];rfl
  rw[this];exact e2
 obtain⟨d0,hd0,hi0⟩:=hrow0
 have er:(aE (A.getD 0 [])).length=w:=by unfold aE;rw[List.length_map];exact Mx.cg hA (by omega)
 try dsimp only[av]
 refine gN (A:=bP 2 _) (fun σ st'=>σ=[some d,some (.ref st.length),some (.int 0),none,none]∧st'=st1) (fun nx h=>h _ _ ⟨rfl,rfl⟩) ?_
 rintro _ _ ⟨rfl,rfl⟩
 refine gN (A:=nj _ _ _) (fun σ st'=>∃(top xb xu xc:Nat) (v3:Option D) (c:Mx.B3),σ=[some d,some (.ref st.length),some (.int top),v3,none]∧Bn st' st.length xb xu xc c.A c.U c.C∧Bo st.length st st' st.length xb xu xc∧Mx.cE A N w top c) (fun nx hnx=>?_) ?_
 · refine aM hda (show eK da 0=some d0 from iq (j:=0) hd0) (dD hi0 ?_)
   rw[er]
   refine gF ⟨by omega,by omega⟩ ?_
   rw[Int.toNat_natCast]
   refine jh w (fun p σ st'=>∃(top xb xu xc:Nat) (v3:Option D) (c:Mx.B3),σ=[some d,some (.ref st.length),some (.int top),v3,none]∧Bn st' st.length xb xu xc c.A c.U c.C∧Bo st.length st st' st.length xb xu xc∧Mx.cE A N p top c) ?_ ?_ ⟨0,_,_,_,none,⟨A,Mx.units N,Mx.units N⟩,rfl,B1,O1,.start⟩
   · rintro σ st' ⟨top,xb,xu,xc,v3,c,rfl,B,O,hC⟩
     exact hnx _ _ ⟨top,xb,xu,xc,v3,c,rfl,B,O,hC⟩
   · rintro p σ st' rest hp ⟨top,xb,xu,xc,v3,c,rfl,B,O,hC⟩ next
     refine⟨_,rfl,?_⟩
     obtain⟨ld,S⟩:=hC.oq hA hlo hN (Nat.le_of_lt hp)
     have hle:=S.le
     have hroom:=hsz p top c hp hC
     refine iu B.eb rfl ?_
     refine⟨st.length,st.length,xb,xu,xc,N,w,top,p,_,_,z,A,c.A,c.U,c.C,ld,rfl,B,⟨O.lo,fun _ _ _=>rfl,O.tb⟩,S,hN,hw,hp,hzz,hroom.ga,fun st2 B2 O2 hL=>?_,fun st2 xb2 xu2 xc2 c2 r B2 O2 hR hL=>?_⟩
     · exact o3 (next _ _ ⟨top,xb,xu,xc,_,c,rfl,B2,⟨O2.lo,fun m h1 h2=>(O2.fr m h1 h2).trans (O.fr m h1 h2),O2.tb⟩,.next hC (.none hL)⟩)
     · refine e7 ?_
       obtain⟨s1,ht,_⟩:=S.one hp hR hL
       have O2':Bo st.length st st2 st.length xb2 xu2 xc2:=⟨O2.lo,fun m h1 h2=>(O2.fr m h1 h2).trans (O.fr m h1 h2),O2.tb⟩
       refine iu B2.eb rfl ?_
       refine⟨st.length,xb2,xu2,xc2,N,w,top,p,(N-top+1)*(Mx.Ez N e0 top+1),Mx.Vz N e0 top,z,A,_,_,_,rfl,B2,s1.tn,hN,hw,hp,ht,s1.tp,fun q hq=>s1.zs top q (Nat.le_refl _) ht hq,fun q=>⟨s1.lo.1 top q (Nat.le_refl _) ht,s1.lo.2.1 top q (Nat.le_refl _) ht,s1.lo.2.2 top q (Nat.le_refl _) ht⟩,fun i q hi=>?_,hzz,fun k hk=>hroom.lo c2 r k hR hL hk,fun st3 B3 f3=>?_⟩
       · obtain⟨a1,a2,a3⟩:=s1.Ag hi q
         rw[a1,a2,a3]
         exact S.hi i q hi
       · exact next _ _ ⟨top+1,xb2,xu2,xc2,_,_,rfl,B3,O2'.low f3,.next hC (.one hR hL)⟩
 · rintro σ st2 ⟨top,xb,xu,xc,v3,c,rfl,B,O,hC⟩
   obtain⟨ld,S⟩:=hC.oq hA hlo hN (Nat.le_refl _)
   have hle:=S.le
   have T:=S.tn
   have lN:=T.isA.len
   refine cj B.eb rfl ?_
   obtain⟨da2,hda2,hra2⟩:=(hdk O.fr).ex
   refine dD hda2 ?_
   rw[hra2.len,lA]
   refine⟨_,c.C,N,rfl,⟨_,ay B.e3,cf.lst⟩,T.eL.j5,by rw[T.eL.len];omega,by omega,?_⟩
   refine cj B.eb rfl (yr B.e1 ?_)
   rw[rQ,←List.map_take]
   refine⟨_,c.A.take top,rfl,⟨_,rfl,cf.lst⟩,by rw[List.length_take];omega,?_⟩
   refine cj B.eb rfl ?_
   refine⟨_,c.U,rfl,⟨_,ay B.e2,cf.lst⟩,by rw[T.d6.len];omega,?_⟩
   refine⟨by show 3≤sizeLine;decide,?_⟩
   refine kk st2 top c hC ⟨?_,O.fr,O.tb⟩
   have:=(List.getElem?_eq_some_iff.mp B.eb).1
   omega
structure Hd(st:af)(n:Nat)(b:Int):Prop where
 ex:∃(cs:List Int) (p q c:Int),st[n]?=some (.lst [.lst (aE cs),.int p,.int q,.int c])∧(∀x∈cs,0≤x)∧cs.length≤63∧0≤p∧0≤q∧0≤c∧c≤b
structure Upd(st:af)(n:Nat)(st':af):Prop where
 len:st'.length=st.length
 same:∀m,m≠n→st'[m]?=st[m]?
theorem Upd.refl{st:af}{n:Nat}:Upd st n st:=⟨rfl,fun _ _=>rfl⟩
theorem Upd.trans{st st1 st2:af}{n:Nat}(a:Upd st n st1)(b:Upd st1 n st2):Upd st n st2:=⟨b.len.trans a.len,fun m h=>(b.same m h).trans (a.same m h)⟩
theorem Upd.set{st:af}{n:Nat}{c:Cell}:Upd st n (st.set n c):=⟨List.length_set,fun m h=>List.getElem?_set_ne (Ne.symm h)⟩
theorem Hd.mono{st:af}{n:Nat}{b b':Int}(h:Hd st n b)(l:b≤b'):Hd st n b':=let⟨cs,p,q,c,e,h1,h2,h3,h4,h5,h6⟩:=h.ex;⟨cs,p,q,c,e,h1,h2,h3,h4,h5,by omega⟩
theorem nE{st:af}{n:Nat}{xs ys:List D}{i:Int}{j:Nat}{d:D}{K:af→Prop}(h:st[n]?=some (.lst xs))(e:jr xs.length i=some j)(ey:xs.set j d=ys)(k:∀st',st'[n]?=some (.lst ys)→Upd st n st'→K st'):oA (.ref n) (.int i) d st K:=fI h e (by
 rw[ey]
 exact k _ (List.getElem?_set_self (List.getElem?_eq_some_iff.mp h).1) Upd.set)
theorem BL{k:Nat}{te:DE}{B:DS}{E:jE}{σ:bF}{st:af}(h:te σ st fun d st1=>B E (σ.set k (some d)) st1):aS (bP k te) B E σ st:=h
def iA:dc:=fun ds st K=>∃ns:List Int,ds=[.lst (ns.map .int)]∧ns.length≤63∧∀st',Hd st' st.length 0→Ext st st'→K (.ref st.length) st'
def jz:List Str:=["_law_script"]
def wG:DS:=(cR (vR (ag (dm (fh (jj (aa 0) ib (kq (dC (.int 63))))) [none] (bY 0) cy (cU qo (ag (aa 0) av))) (ag (dC (.int 0)) (ag (dC (.int 0)) (ag (dC (.int 0)) av))))))
theorem zB(r:List Int):(aE r).map (fun d=>match d with| .int x=> .int ((x.natAbs:Nat):Int)|_=> .aJ)=aE (r.map fun x=>((x.natAbs:Nat):Int)):=by unfold aE;rw[List.map_map,List.map_map];rfl
theorem uu:∀ds st K,iA ds st K→ds.length=1∧wG {nx:=fun _ st'=>K .aJ st',rt:=K} (bG jz ds) st:=by
 rintro ds st K ⟨ns,rfl,hl,k⟩
 refine⟨rfl,?_⟩
 refine yb (u9 ⟨?_,?_⟩)
 · refine bU ?_
   unfold L3.cutD
   simp only[List.length_take,List.length_drop,List.length_map]
   omega
 refine comp_map (g:=fun d=>match d with| .int x=> .int ((x.natAbs:Nat):Int)|_=> .aJ) trivial _ (fun d hd K' q=>?_) ?_
 · have:d∈ns.map D.int:=List.mem_of_mem_drop (List.mem_of_mem_take hd)
   obtain⟨i,_,rfl⟩:=List.mem_map.mp this
   exact⟨_,rfl,wR q⟩
 · have ec:∀lo hi,L3.cutD (ns.map D.int) lo hi=aE ((ns.drop (HT.bE (ns.map D.int).length 0 lo)).take (HT.bE (ns.map D.int).length (ns.map D.int).length hi-HT.bE (ns.map D.int).length 0 lo)):=fun lo hi=>by
    unfold L3.cutD aE
    rw[List.map_take,List.map_drop]
   rw[ec,zB]
   refine⟨Nat.le_of_ble_eq_true rfl,?_⟩
   refine k _ ⟨_,0,0,0,by rw[List.getElem?_append_right (Nat.le_refl _),Nat.sub_self];rfl,fun x hx=>?_,?_,Int.le_refl _,Int.le_refl _,Int.le_refl _,Int.le_refl _⟩ Ext.push
   · obtain⟨y,_,rfl⟩:=List.mem_map.mp hx
     omega
   · simp only[List.length_map,List.length_take,List.length_drop]
     omega
def aV:dc:=fun ds st K=>∃(n:Nat) (m b:Int),ds=[.ref n,.int m]∧Hd st n b∧b≤1000000000∧0<m∧m<2^62∧∀r st',0≤r→r<m→Hd st' n (b+1)→Upd st n st'→K (.int r) st'
def jv:List Str:=["_law_hand_here","_law_many","_law_cell","_law_once","_law_twice","_law_found"]
def wu:DS:=(aS (dO (aa 0) (dC (.int 3)) (au cO (au bz (aa 0) (dC (.int 3))) (dC (.int 1))))
 (aS (eS (bS (au gg (au bz (aa 0) (dC (.int 2))) (dC (.int 0)))) (aS (bP 2 (dC (.int 0)))
 (aS (eS (bS (au lb (cU eY (ag (au bz (aa 0) (dC (.int 0))) av)) (dC (.int 0)))) (bP 2 (au bz (au bz (aa 0) (dC (.int 0))) (au gB (au bz (aa 0) (dC (.int 1))) (cU eY (ag (au bz (aa 0) (dC (.int 0))) av))))) dE)
 (aS (dO (aa 0) (dC (.int 1)) (au cO (au bz (aa 0) (dC (.int 1))) (dC (.int 1))))
 (aS (eS (sh (bS (au mx (aa 2) (au mI (dC (.int 10)) (dC (.int 18))))) (bS (au lb (au bz (aa 0) (dC (.int 1))) (cU eY (ag (au bz (aa 0) (dC (.int 0))) av))))) (aS (bP 3 (au cO (au cO (au gB (aa 2) (dC (.int 2147483629))) (au cY (dC (.int 7919)) (au bz (aa 0) (dC (.int 3))))) (dC (.int 11))))
 (aS (bP 3 (au gB (au cY (aa 3) (au cO (dC (.int 48271)) (au cY (dC (.int 2)) (au bz (aa 0) (dC (.int 3)))))) (dC (.int 2147483647))))
 (aS (bP 4 (au gB (au cO (au cY (aa 3) (au cO (au gB (aa 3) (dC (.int 39373))) (au bz (aa 0) (dC (.int 3))))) (au cY (dC (.int 31)) (au bz (aa 0) (dC (.int 3))))) (dC (.int 1999999973))))
 (cR (au gB (au lW (aa 4) (dC (.int 7))) (aa 1)))))) dE)
 (dO (aa 0) (dC (.int 2)) (aa 2)))))) dE)
 (aS (bP 5 (au gB (au bz (aa 0) (dC (.int 2))) (aa 1)))
 (aS (dO (aa 0) (dC (.int 2)) (au lW (au bz (aa 0) (dC (.int 2))) (aa 1)))
 (cR (aa 5))))))
theorem w4{m:Int}(h0:0<m)(h:m<2^62):m.natAbs.log2<9000:=by
 have:m.natAbs.log2<62:=(Nat.log2_lt (by omega)).mpr (by omega)
 omega
theorem uC:∀ds st K,aV ds st K→ds.length=2∧wu {nx:=fun _ st'=>K .aJ st',rt:=K} (bG jv ds) st:=by
 rintro ds st K ⟨n,m,b,rfl,⟨cs,p,q,c,e,hcs,hcl,hp,hq,hc,hb⟩,hb2,hm0,hm1,k⟩
 refine⟨rfl,?_⟩
 refine aM (ay e) (by rfl) (dz (nE (ys:=[.lst (aE cs),.int p,.int q,.int (c+1)]) e (by rfl) (by rfl) fun st1 e1 U1=>?_))
 have c1: -(2^64)<c+1:=by omega
 have c2:c+1<2^64:=by omega
 dsimp only
 refine gN (fun σ' st'=>∃(v2 v3 v4:Option D) (p q:Int),σ'=[some (.ref n),some (.int m),v2,v3,v4,none]∧st'[n]?=some (.lst [.lst (aE cs),.int p,.int q,.int (c+1)])∧0≤p∧0≤q∧Upd st n st') (fun nx hnx=>?_) ?_
 · refine aM (ay e1) (by rfl) (eq2 (fun h=>e7 ?_) fun h=>hnx _ _ ⟨_,_,_,p,q,rfl,e1,hp,hq,U1⟩)
   refine BL ?_
   dsimp only[dC]
   refine gN (fun σ' st'=>∃x:Int,0≤x∧σ'=[some (.ref n),some (.int m),some (.int x),none,none,none]∧st'=st1) (fun nx2 hnx2=>?_) ?_
   · refine aM (ay e1) (by rfl) (dD rfl (nA ?_))
     rw[List.length_map]
     by_cases hl:(0:Int)<(cs.length:Int)
     · rw[decide_eq_true hl]
       refine e7 (aM (ay e1) (by rfl) (aM (ay e1) (by rfl) (aM (ay e1) (by rfl) (dD rfl (jS (by rw[List.length_map];omega) ?_)))))
       rw[List.length_map]
       have m1:=Int.fmod_nonneg_of_pos p hl
       have m2:=Int.fmod_lt_of_pos p hl
       obtain⟨j,ej⟩:=Int.eq_ofNat_of_zero_le m1
       rw[ej]at m2⊢
       have hj:j<cs.length:=by omega
       exact aM rfl (nt hj) (hnx2 _ _ ⟨_,hcs _ (getD_mem hj),rfl,rfl⟩)
     · rw[decide_eq_false hl]
       exact hnx2 _ _ ⟨0,Int.le_refl _,rfl,rfl⟩
   · rintro σ' st' ⟨x,hx,rfl,rfl⟩
     refine aM (ay e1) (by rfl) (dz (nE (ys:=[.lst (aE cs),.int (p+1),.int q,.int (c+1)]) e1 (by rfl) (by rfl) fun st2 e2 U2=>?_))
     have mixed:(aS (bP 3 (au cO (au cO (au gB (aa 2) (dC (.int 2147483629))) (au cY (dC (.int 7919)) (au bz (aa 0) (dC (.int 3))))) (dC (.int 11))))
      (aS (bP 3 (au gB (au cY (aa 3) (au cO (dC (.int 48271)) (au cY (dC (.int 2)) (au bz (aa 0) (dC (.int 3)))))) (dC (.int 2147483647))))
      (aS (bP 4 (au gB (au cO (au cY (aa 3) (au cO (au gB (aa 3) (dC (.int 39373))) (au bz (aa 0) (dC (.int 3))))) (au cY (dC (.int 31)) (au bz (aa 0) (dC (.int 3))))) (dC (.int 1999999973))))
      (cR (au gB (au lW (aa 4) (dC (.int 7))) (aa 1)))))) {nx:=nx,rt:=K} [some (.ref n),some (.int m),some (.int x),none,none,none] st2:=by
      refine jS (by decide) (aM (ay e2) (by rfl) (fE (fB (by decide) (by decide)) (dz (dz ?_))))
      have m1:=Int.fmod_nonneg_of_pos x (show(0:Int)<2147483629 by decide)
      have m2:=Int.fmod_lt_of_pos x (show(0:Int)<2147483629 by decide)
      refine aM (ay e2) (by rfl) (fE (fB (by decide) (by decide)) (dz (fE (fB (by omega) (by omega)) (jS (by decide) ?_))))
      have u1:=Int.fmod_nonneg_of_pos ((x.fmod 2147483629+7919*(c+1)+11)*(48271+2*(c+1))) (show(0:Int)<2147483647 by decide)
      have u2:=Int.fmod_lt_of_pos ((x.fmod 2147483629+7919*(c+1)+11)*(48271+2*(c+1))) (show(0:Int)<2147483647 by decide)
      generalize((x.fmod 2147483629+7919*(c+1)+11)*(48271+2*(c+1))).fmod 2147483647=u at u1 u2⊢
      refine jS (by decide) (aM (ay e2) (by rfl) (dz (fE (fB (by omega) (by omega)) (aM (ay e2) (by rfl) (fE (fB (by decide) (by decide)) (dz (jS (by decide) ?_)))))))
      refine vb (by decide) (by decide+kernel) (jS (by omega) ?_)
      exact k _ _ (Int.fmod_nonneg_of_pos _ hm0) (Int.fmod_lt_of_pos _ hm0) ⟨cs,_,_,_,e2,hcs,hcl,by omega,hq,by omega,by omega⟩ (U1.trans U2)
     refine BX ⟨by decide,by decide,by decide⟩ (vP ?_)
     by_cases hs:x<10^(18:Int).toNat
     · rw[decide_eq_true hs]
       exact mixed
     · rw[decide_eq_false hs]
       refine aM (ay e2) (by rfl) (aM (ay e2) (by rfl) (dD rfl (nA ?_)))
       rw[List.length_map]
       by_cases ho:(cs.length:Int)<p+1
       · rw[decide_eq_true ho]
         exact mixed
       · rw[decide_eq_false ho]
         refine nE (ys:=[.lst (aE cs),.int (p+1),.int x,.int (c+1)]) e2 (by rfl) (by rfl) fun st3 e3 U3=>?_
         exact hnx _ _ ⟨_,_,_,p+1,x,rfl,e3,by omega,hx,(U1.trans U2).trans U3⟩
 · rintro σ' st' ⟨v2,v3,v4,p,q,rfl,e3,hp,hq,U3⟩
   refine aM (ay e3) (by rfl) (jS (by omega) (aM (ay e3) (by rfl) (vb (by omega) (w4 hm0 hm1) (nE (ys:=[.lst (aE cs),.int p,.int (q.fdiv m),.int (c+1)]) e3 (by rfl) (by rfl) fun st4 e4 U4=>?_))))
   refine k _ _ (Int.fmod_nonneg_of_pos _ hm0) (Int.fmod_lt_of_pos _ hm0) ⟨cs,_,_,_,e4,hcs,hcl,hp,?_,by omega,by omega⟩ (U3.trans U4)
   rw[Int.fdiv_eq_ediv_of_nonneg _ (by omega)];exact Int.ediv_nonneg hq (by omega)
def fD:dc:=fun ds st K=>∃(n:Nat) (b kd:Int),ds=[.ref n,.int kd]∧kd≠7∧Hd st n b∧b≤900000000∧∀r st',r.natAbs≤9→Hd st' n (b+3)→Upd st n st'→K (.int r) st'
def iz:List Str:=["_law_hand_here","_law_kind","_law_far"]
def tu:DS:=(aS (eS (bS (au gg (aa 1) (dC (.int 7)))) (aS (bP 2 (au cO (au cY (aY aV (ag (aa 0) (ag (au mI (dC (.int 10)) (dC (.int 6))) av))) (au mI (dC (.int 10)) (dC (.int 6)))) (aY aV (ag (aa 0) (ag (au mI (dC (.int 10)) (dC (.int 6))) av)))))
 (cR (au cY (aa 2) (au bz (oC (ag (dC (.int 1)) (ag (lg g_ (dC (.int 1))) (ag (dC (.int 0)) av)))) (aY aV (ag (aa 0) (ag (dC (.int 3)) av))))))) dE)
 (cR (au bz (oC (ag (dC (.int 0)) (ag (dC (.int 1)) (ag (lg g_ (dC (.int 1))) (ag (au kG (aY aV (ag (aa 0) (ag (dC (.int 19)) av))) (dC (.int 9))) av))))) (aY aV (ag (aa 0) (ag (dC (.int 4)) av))))))
theorem rm:∀ds st K,fD ds st K→ds.length=2∧tu {nx:=fun _ st'=>K .aJ st',rt:=K} (bG iz ds) st:=by
 rintro ds st K ⟨n,b,kd,rfl,h7,B,hb,k⟩
 refine⟨rfl,?_⟩
 refine eq2 (fun h=>absurd h h7) fun h=>?_
 · refine iC ⟨n,19,b,rfl,B,by omega,by decide,by decide,fun r1 st1 a1 a2 B1 U1=>lj ⟨Nat.le_of_ble_eq_true rfl,?_⟩⟩
   refine⟨n,4,b+1,rfl,B1,by omega,by decide,by decide,fun r2 st2 c1 c2 B2 U2=>?_⟩
   have U:=U1.trans U2
   have B4:=B2.mono (b':=b+3) (by omega)
   have:r2=0∨r2=1∨r2=2∨r2=3:=by omega
   rcases this with rfl|rfl|rfl|rfl
   · exact aM rfl rfl (k _ _ (by decide) B4 U)
   · exact aM rfl rfl (k _ _ (by decide) B4 U)
   · exact aM rfl rfl (k _ _ (by decide) B4 U)
   · exact aM rfl rfl (k _ _ (by omega) B4 U)
structure XU(st:af)(n:Nat)(st':af):Prop where
 len:st.length≤st'.length
 same:∀m,m<st.length→m≠n→st'[m]?=st[m]?
theorem XU.trans{st st1 st2:af}{n:Nat}(a:XU st n st1)(b:XU st1 n st2):XU st n st2:=⟨Nat.le_trans a.len b.len,fun m h g=>(b.same m (Nat.lt_of_lt_of_le h a.len) g).trans (a.same m h g)⟩
theorem XU.upd{st st1:af}{n:Nat}(a:Upd st n st1):XU st n st1:=⟨by rw[a.len];exact Nat.le_refl _,fun m _ g=>a.same m g⟩
theorem XU.ext{st st1:af}{n:Nat}(a:Ext st st1):XU st n st1:=⟨a.len,fun m h _=>a.same m h⟩
theorem XU.set{st st1:af}{n k:Nat}{c:Cell}(a:XU st n st1)(h:st.length≤k):XU st n (st1.set k c):=⟨by rw[List.length_set];exact a.len,fun m hm g=>by rw[List.getElem?_set_ne (by omega)];exact a.same m hm g⟩
theorem Hd.lt{st:af}{n:Nat}{b:Int}(B:Hd st n b):n<st.length:=by
 obtain⟨_,_,_,_,e,_⟩:=B.ex
 exact(List.getElem?_eq_some_iff.mp e).1
theorem Hd.cell{st st':af}{n:Nat}{b:Int}(B:Hd st n b)(e:st'[n]?=st[n]?):Hd st' n b:=by
 obtain⟨cs,p,q,c,e1,r⟩:=B.ex
 exact⟨cs,p,q,c,e.trans e1,r⟩
def iF:dc:=fun ds st K=>∃(n:Nat) (b:Int) (many wide:Nat) (kd:Int),ds=[.ref n,.int many,.int wide,.int kd]∧kd≠7∧Hd st n b∧b≤600000000∧many≤8∧wide≤8∧∀A st',Mx.bK many wide A→(∀r∈A,∀x∈r,x.natAbs≤9*256)→Hd st' n (b+300)→XU st n st'→K (c_ A) st'
def ju:List Str:=["_law_hand_here","_law_many","_law_wide","_law_kind","_law_rows_here","_law_k","_law_row","_law_way"]
def vL:DS:=(aS (bP 4 (vR av))
 (aS (nj (fg (ag (aa 1) av)) (bY 5) (aS (bP 6 (dm (fg (ag (aa 2) av)) [none,some 0,some 3] (bY 0) cy (aY fD (ag (aa 1) (ag (aa 2) av)))))
 (aS (bP 7 (aY aV (ag (aa 0) (ag (dC (.int 8)) av))))
 (aS (eS (bS (au gg (aa 7) (dC (.int 0)))) (bP 6 (au cY (oC (ag (dC (.int 0)) av)) (aa 2))) dE)
 (aS (eS (kg (bS (au gg (aa 7) (dC (.int 1)))) (bS (au lb (aa 5) (dC (.int 0))))) (bP 6 (cU jt (ag (au bz (aa 4) (au kG (aa 5) (dC (.int 1)))) av))) dE)
 (aS (eS (kg (bS (au gg (aa 7) (dC (.int 2)))) (bS (au lb (aa 5) (dC (.int 1))))) (bP 6 (dm (m5 (ag (au bz (aa 4) (au kG (aa 5) (dC (.int 1)))) (ag (au bz (aa 4) (au kG (aa 5) (dC (.int 2)))) av))) [none,none] (gO 0 1) cy (au cO (aa 0) (aa 1)))) dE)
 (aS (eS (kg (bS (au gg (aa 3) (dC (.int 7)))) (bS (au mx (aa 7) (dC (.int 3))))) (bP 6 (dm (fh (aa 6)) [none] (bY 0) cy (au gB (aa 0) (dC (.int 1000))))) dE)
 (iX (kL (aa 4) (cU eC (ag (aa 6) av)))))))))))
 (cR (cU eC (ag (aa 4) av)))))
theorem tD{n w:Nat}{b kd:Int}{st:af}{K:List D→af→Prop}(h7:kd≠7)(B:Hd st n b)(hb:b≤700000000)(hw:w≤8)
 (k:∀r st',r.length=w→(∀x∈r,x.natAbs≤9)→Hd st' n (b+24)→Upd st n st'→K (aE r) st'):
 cZ (bY 0) cy (aY fD (ag (aa 1) (ag (aa 2) av))) (fun _=>True) [none,some (.ref n),some (.int kd)] (df 0 w) [] st K:=by
 refine gp (fun rest acc st'=>∃r:List Int,acc=aE r∧r.length+rest.length=w∧(∀x∈r,x.natAbs≤9)∧Hd st' n (b+3*r.length)∧Upd st n st') ?_ ?_ _ _ _ ⟨[],rfl,by rw[fM];simp,by simp,B.mono (by simp),Upd.refl⟩
 · rintro acc st' ⟨r,rfl,hl,hr,B',U⟩
   have hl:r.length=w:=by simpa using hl
   exact⟨trivial,k r st' hl hr (B'.mono (by omega)) U⟩
 · rintro x rest acc st' ⟨r,rfl,hl,hr,B',U⟩ next
   have hl2:r.length<w:=by simp at hl;omega
   refine⟨trivial,_,rfl,?_⟩
   refine⟨n,_,kd,rfl,h7,B',by omega,fun y st2 a1 B2 U2=>?_⟩
   show cZ _ _ _ _ _ _ _ _ _
   rw[ints_app]
   refine next _ _ ⟨r++[y],rfl,by simp at hl⊢;omega,fun z hz=>?_,B2.mono (by simp;omega),U.trans U2⟩
   rcases List.mem_append.mp hz with h|h
   · exact hr z h
   · have:z=y:=by simpa using h
     subst this;exact a1
theorem hV{A:List (List Int)}{k:Nat}(h:k<A.length):eK (A.map cv) (k:Int)=some (cv (A.getD k [])):=by
 refine iq ?_
 rw[List.getElem?_map,List.getElem?_eq_getElem h,Mx.bJ h];rfl
theorem tO:∀(r s:List Int),(fb (aE r) (aE s)).map (fun d=>match d with| .tup [.int a,.int b]=> .int (a+b)|_=> .aJ)=aE (List.zipWith (· + ·) r s)
 | [],_=>rfl
 |_::_,[]=>rfl
 |a::r,b::s=>by
  have:=tO r s
  unfold fb at this⊢
  simp only[aE,List.map_cons,List.zip_cons_cons,List.zipWith_cons_cons]at this⊢
  rw[this]
theorem EE{M:Nat}{r s:List Int}(hr:∀x∈r,x.natAbs≤M)(hs:∀x∈s,x.natAbs≤M):∀x∈List.zipWith (· + ·) r s,x.natAbs≤2*M:=fun x hx=>by
 obtain⟨k,hk,e⟩:=List.mem_iff_getElem.mp hx
 rw[List.getElem_zipWith]at e
 have h1:=hr _ (List.getElem_mem (by simp at hk;omega:k<r.length))
 have h2:=hs _ (List.getElem_mem (by simp at hk;omega:k<s.length))
 omega
theorem uv:∀ds st K,iF ds st K→ds.length=4∧vL {nx:=fun _ st'=>K .aJ st',rt:=K} (bG ju ds) st:=by
 rintro ds st K ⟨n,b,many,wide,kd,rfl,h7,B,hb,hm,hw,k⟩
 refine⟨rfl,?_⟩
 have hn:=B.lt
 refine⟨Nat.le_of_ble_eq_true rfl,?_⟩
 refine gF ⟨by omega,by omega⟩ ?_
 rw[Int.toNat_natCast]
 refine jh many (fun j σ st'=>∃(A:List (List Int)) (v5 v6 v7:Option D),σ=[some (.ref n),some (.int many),some (.int wide),some (.int kd),some (.ref st.length),v5,v6,v7]∧st'[st.length]?=some (.lst (A.map cv))∧A.length=j∧(∀r∈A,r.length=wide)∧(∀r∈A,∀x∈r,x.natAbs≤9*2^j)∧Hd st' n (b+25*j)∧XU st n st') ?_ ?_ ⟨[],none,none,none,rfl,by simp,rfl,by simp,by simp,(B.cell (List.getElem?_append_left hn)).mono (by simp),XU.ext Ext.push⟩
 · rintro σ st' ⟨A,v5,v6,v7,rfl,e,hl,hA,hb2,B2,X⟩
   refine ef (ay e) (k A st' ⟨hl,hA⟩ (fun r hr x hx=>?_) (B2.mono (by omega)) X)
   have p:2^many≤2^8:=Nat.pow_le_pow_right (by decide) hm
   have:=hb2 r hr x hx
   exact Nat.le_trans this (Nat.mul_le_mul_left _ p)
 · rintro j σ st' rest hj ⟨A,v5,v6,v7,rfl,e,hl,hA,hb2,B2,X⟩ next
   refine⟨_,rfl,?_⟩
   refine gF ⟨by omega,by omega⟩ ⟨bU (by rw[fM];omega),?_⟩
   rw[Int.toNat_natCast]
   refine tD (n:=n) (kd:=kd) h7 B2 (by omega) hw fun r0 st1 hr0 hr1 B3 U3=>?_
   refine⟨n,8,_,rfl,B3,by omega,by decide,by decide,fun way st2 w0 w1 B4 U4=>?_⟩
   have hlen:=(List.getElem?_eq_some_iff.mp e).1
   have e2:st2[st.length]?=some (.lst (A.map cv)):=(U4.same _ (by omega)).trans ((U3.same _ (by omega)).trans e)
   have X2:XU st n st2:=X.trans ((XU.upd U3).trans (XU.upd U4))
   have p1:9≤9*2^(j+1):=Nat.le_mul_of_pos_right _ (Nat.pow_pos (by decide))
   have p2:9*2^j*2=9*2^(j+1):=by rw[Nat.pow_succ,Nat.mul_assoc]
   let J:bF→af→Prop:=fun σ' st'=>st'=st2∧∃r:List Int,σ'=[some (.ref n),some (.int many),some (.int wide),some (.int kd),some (.ref st.length),some (.int (j:Int)),some (a_ r),some (.int way)]∧r.length=wide∧∀x∈r,x.natAbs≤9*2^(j+1)
   have J0:J [some (.ref n),some (.int many),some (.int wide),some (.int kd),some (.ref st.length),some (.int (j:Int)),some (a_ r0),some (.int way)] st2:=⟨rfl,r0,rfl,hr0,fun x hx=>Nat.le_trans (hr1 x hx) p1⟩
   dsimp only
   refine gN J (fun nx hnx=>?_) ?_
   · refine eq2 (fun h=>e7 ?_) fun h=>hnx _ _ J0
     refine GP (Nat.le_of_ble_eq_true rfl) (Bg ⟨by omega,by omega,bU (by simp;omega)⟩ ?_)
     rw[Int.toNat_natCast,oU]
     exact hnx _ _ ⟨rfl,_,rfl,by simp,fun x hx=>by rw[(List.mem_replicate.mp hx).2];exact Nat.zero_le _⟩
   rintro σ' st3 ⟨rfl,r,rfl,hr,hrb⟩
   refine gN J (fun nx hnx=>?_) ?_
   · refine eq2 (fun h=>e7 (nA ?_)) fun h=>hnx _ _ ⟨rfl,r,rfl,hr,hrb⟩
     by_cases h0:(0:Int)<(j:Int)
     · rw[decide_eq_true h0]
       have ej:(j:Int)-1=((j-1:Nat):Int):=by omega
       refine e7 (lj ?_)
       rw[ej]
       refine aM (ay e2) (hV (by omega)) (ll rfl ?_)
       have hmem:A.getD (j-1) []∈A:=by rw[Mx.bJ (by omega)];exact List.getElem_mem _
       exact hnx _ _ ⟨rfl,_,rfl,hA _ hmem,fun x hx=>Nat.le_trans (hb2 _ hmem x hx) (by omega)⟩
     · rw[decide_eq_false h0]
       exact hnx _ _ ⟨rfl,r,rfl,hr,hrb⟩
   clear hr hrb
   rintro σ' st3 ⟨rfl,r,rfl,hr,hrb⟩
   refine gN J (fun nx hnx=>?_) ?_
   · refine eq2 (fun h=>e7 (nA ?_)) fun h=>hnx _ _ ⟨rfl,r,rfl,hr,hrb⟩
     by_cases h0:(1:Int)<(j:Int)
     · rw[decide_eq_true h0]
       have ej:(j:Int)-1=((j-1:Nat):Int):=by omega
       have ej2:(j:Int)-2=((j-2:Nat):Int):=by omega
       refine e7 (lj ?_)
       rw[ej]
       refine aM (ay e2) (hV (by omega)) (lj ?_)
       rw[ej2]
       refine aM (ay e2) (hV (by omega)) ?_
       have hm1:A.getD (j-1) []∈A:=by rw[Mx.bJ (by omega)];exact List.getElem_mem _
       have hm2:A.getD (j-2) []∈A:=by rw[Mx.bJ (by omega)];exact List.getElem_mem _
       have l1:=hA _ hm1
       have l2:=hA _ hm2
       refine kQ rfl rfl fun ok aL=>⟨bU (by rw[hW,List.length_map,List.length_map];omega),?_⟩
       refine comp_map (g:=fun d=>match d with| .tup [.int a,.int b]=> .int (a+b)|_=> .aJ) (aL _ rfl rfl) _ (fun d hd K' q=>?_) ?_
       · obtain⟨a,c,_,_,rfl⟩:=jO hd
         exact⟨_,rfl,dz q⟩
       rw[tO]
       refine hnx _ _ ⟨rfl,_,rfl,by rw[List.length_zipWith];omega,fun x hx=>?_⟩
       have:=EE (hb2 _ hm1) (hb2 _ hm2) x hx
       omega
     · rw[decide_eq_false h0]
       exact hnx _ _ ⟨rfl,r,rfl,hr,hrb⟩
   clear hr hrb
   rintro σ' st3 ⟨rfl,r,rfl,hr,hrb⟩
   refine gN J (fun nx hnx=>?_) ?_
   · exact eq2 (fun h=>absurd h h7) fun h=>hnx _ _ ⟨rfl,r,rfl,hr,hrb⟩
   clear hr hrb
   rintro σ' st3 ⟨rfl,r,rfl,hr,hrb⟩
   refine Dk (by rfl) e2 (ef rfl (AA e2 (by rw[sizeLine_eq,List.length_map];omega) ?_))
   have hl2:=(List.getElem?_eq_some_iff.mp e2).1
   refine next _ _ ⟨A++[r],_,_,_,rfl,by rw[List.getElem?_set_self hl2,yJ],by simp[hl],fun q hq=>?_,fun q hq x hx=>?_,(B4.cell (List.getElem?_set_ne (by omega))).mono (by omega),X2.set (Nat.le_refl _)⟩
   · rcases List.mem_append.mp hq with h|h
     · exact hA q h
     · have:q=r:=by simpa using h
       subst this;exact hr
   · rcases List.mem_append.mp hq with h|h
     · exact Nat.le_trans (hb2 q h x hx) (by omega)
     · have:q=r:=by simpa using h
       subst this;exact hrb x hx
def g5:dc:=fun ds st K=>∃(n:Nat) (b:Int),ds=[.ref n]∧Hd st n b∧b≤900000000∧∀(x y:Nat) st',1≤x→x≤8→1≤y→y≤8→Hd st' n (b+3)→Upd st n st'→K (.tup [.int x,.int y]) st'
def iW:List Str:=["_law_hand_here"]
def uL:DS:=(aS (eS (bS (au gg (aY aV (ag (aa 0) (ag (dC (.int 8)) av))) (dC (.int 0)))) (cR (h_ (ag (au cO (dC (.int 5)) (aY aV (ag (aa 0) (ag (dC (.int 4)) av)))) (ag (au cO (dC (.int 5)) (aY aV (ag (aa 0) (ag (dC (.int 4)) av)))) av)))) dE)
 (cR (h_ (ag (au cO (dC (.int 1)) (aY aV (ag (aa 0) (ag (dC (.int 4)) av)))) (ag (au cO (dC (.int 1)) (aY aV (ag (aa 0) (ag (dC (.int 4)) av)))) av)))))
theorem sq:∀ds st K,g5 ds st K→ds.length=1∧uL {nx:=fun _ st'=>K .aJ st',rt:=K} (bG iW ds) st:=by
 rintro ds st K ⟨n,b,rfl,B,hb,k⟩
 refine⟨rfl,?_⟩
 have fin:∀(x y:Int) st',1≤x→x≤8→1≤y→y≤8→Hd st' n (b+3)→Upd st n st'→K (.tup [.int x,.int y]) st':=fun x y st' h1 h2 h3 h4 H U=>by
  obtain⟨x,rfl⟩:=Int.eq_ofNat_of_zero_le (show 0≤x by omega)
  obtain⟨y,rfl⟩:=Int.eq_ofNat_of_zero_le (show 0≤y by omega)
  exact k x y st' (by omega) (by omega) (by omega) (by omega) H U
 refine⟨n,8,b,rfl,B,by omega,by decide,by decide,fun r0 st0 z1 z2 B0 U0=>?_⟩
 refine eq2 (fun h=>e7 ?_) fun h=>?_
 · refine⟨n,4,b+1,rfl,B0,by omega,by decide,by decide,fun r1 st1 a1 a2 B1 U1=>dz ?_⟩
   refine⟨n,4,b+1+1,rfl,B1,by omega,by decide,by decide,fun r2 st2 c1 c2 B2 U2=>dz ⟨Nat.le_of_ble_eq_true rfl,?_⟩⟩
   exact fin _ _ _ (by omega) (by omega) (by omega) (by omega) (B2.mono (by omega)) ((U0.trans U1).trans U2)
 · refine⟨n,4,b+1,rfl,B0,by omega,by decide,by decide,fun r1 st1 a1 a2 B1 U1=>dz ?_⟩
   refine⟨n,4,b+1+1,rfl,B1,by omega,by decide,by decide,fun r2 st2 c1 c2 B2 U2=>dz ⟨Nat.le_of_ble_eq_true rfl,?_⟩⟩
   exact fin _ _ _ (by omega) (by omega) (by omega) (by omega) (B2.mono (by omega)) ((U0.trans U1).trans U2)
def fo:dc:=fun ds st K=>∃(n:Nat) (b kinds:Int),ds=[.ref n,.int kinds]∧Hd st n b∧b≤500000000∧0<kinds∧kinds≤7∧∀(m w:Nat) A st',1≤m→m≤8→1≤w→w≤8→Mx.bK m w A→(∀r∈A,∀x∈r,x.natAbs≤9*256)→Hd st' n (b+310)→XU st n st'→K (c_ A) st'
def gf:List Str:=["_law_hand_here","_law_kinds","_law_many","_law_wide"]
def pD:DS:=(aS (vQ (gO 2 3) (aY g5 (ag (aa 0) av)))
 (cR (aY iF (ag (aa 0) (ag (aa 2) (ag (aa 3) (ag (aY aV (ag (aa 0) (ag (aa 1) av))) av)))))))
theorem oS:∀ds st K,fo ds st K→ds.length=2∧pD {nx:=fun _ st'=>K .aJ st',rt:=K} (bG gf ds) st:=by
 rintro ds st K ⟨n,b,kinds,rfl,B,hb,k0,k1,k⟩
 refine⟨rfl,?_⟩
 refine⟨n,b,rfl,B,by omega,fun m w st1 m1 m8 w1 w8 B1 U1=>?_⟩
 refine⟨_,rfl,?_⟩
 refine⟨n,kinds,_,rfl,B1,by omega,k0,by omega,fun kd st2 a1 a2 B2 U2=>?_⟩
 refine⟨n,_,m,w,kd,rfl,by omega,B2,by omega,m8,w8,fun A st3 hA bA B3 X3=>?_⟩
 exact k m w A st3 m1 m8 w1 w8 hA bA (B3.mono (by omega)) ((XU.upd (U1.trans U2)).trans X3)
def fA:dc:=fun ds st K=>∃(n:Nat) (b:Int) (A:List (List Int)) (N w:Nat),ds=[.ref n,c_ A]∧Hd st n b∧b≤500000000∧Mx.bK N w A∧1≤N∧N≤8∧w≤8∧(∀r∈A,∀x∈r,x.natAbs≤9*256)∧∀B N' st',Mx.gy A N w (9*256*8^10) B N'→Hd st' n (b+100)→XU st n st'→K (c_ B) st'
def gQ:List Str:=["_law_hand_here","_law_rows_here","_law_turn","_law_k","_law_other","_law_way","_law_often"]
def qf:DS:=(aS (bP 1 (i8 (fh (aa 1)) [none] (bY 0) cy (cU jt (ag (aa 0) av))))
 (aS (nj (fg (ag (au cO (dC (.int 2)) (aY aV (ag (aa 0) (ag (dC (.int 9)) av)))) av)) (bY 2) (aS (bP 3 (aY aV (ag (aa 0) (ag (cU eY (ag (aa 1) av)) av))))
 (aS (bP 4 (aY aV (ag (aa 0) (ag (cU eY (ag (aa 1) av)) av))))
 (aS (bP 5 (aY aV (ag (aa 0) (ag (dC (.int 6)) av))))
 (aS (eS (kg (bS (au mx (aa 5) (dC (.int 3)))) (bS (au ow (aa 3) (aa 4)))) (aS (bP 6 (au bz (oC (ag (dC (.int 1)) (ag (lg g_ (dC (.int 1))) (ag (dC (.int 2)) (ag (lg g_ (dC (.int 3))) (ag (dC (.int 7)) av)))))) (aY aV (ag (aa 0) (ag (dC (.int 5)) av)))))
 (dO (aa 1) (aa 3) (dm (m5 (ag (au bz (aa 1) (aa 3)) (ag (au bz (aa 1) (aa 4)) av))) [none,none,some 6] (gO 0 1) cy (au cO (aa 0) (au cY (aa 2) (aa 1)))))) dE)
 (aS (eS (bS (au gg (aa 5) (dC (.int 3)))) (wC (o6 (nD (aa 1) (aa 3)) (nD (aa 1) (aa 4))) (h_ (ag (au bz (aa 1) (aa 4)) (ag (au bz (aa 1) (aa 3)) av)))) dE)
 (aS (eS (bS (au gg (aa 5) (dC (.int 4)))) (dO (aa 1) (aa 3) (dm (fh (au bz (aa 1) (aa 3))) [none] (bY 0) cy (lg g_ (aa 0)))) dE)
 (eS (kg (bS (au gg (aa 5) (dC (.int 5)))) (bS (au mx (cU eY (ag (aa 1) av)) (dC (.int 8))))) (iX (mh kv (aa 1) (ag (aa 3) (ag (dm (m5 (ag (au bz (aa 1) (aa 3)) (ag (au bz (aa 1) (aa 4)) av))) [none,none] (gO 0 1) cy (au kG (aa 0) (au cY (dC (.int 2)) (aa 1)))) av)))) dE))))))))
 (cR (cU eC (ag (dm (fh (aa 1)) [none] (bY 0) cy (cU eC (ag (aa 0) av))) av)))))
theorem hO{A:List (List Int)}{k:Nat}(h:k<A.length):eK (A.map a_) (k:Int)=some (a_ (A.getD k [])):=by
 refine iq ?_
 rw[List.getElem?_map,List.getElem?_eq_getElem h,Mx.bJ h];rfl
theorem ly{T:List (List Int)}{l:Nat}{r:List Int}:(T.map a_).set l (a_ r)=(T.set l r).map a_:=by rw[List.map_set]
theorem sP{t:Int}:∀(r s:List Int),(fb (aE r) (aE s)).map (fun d=>match d with| .tup [.int a,.int b]=> .int (a-t*b)|_=> .aJ)=aE (Mx.dh r (-t) s)
 | [],_=>rfl
 |_::_,[]=>rfl
 |a::r,b::s=>by
  have:=sP (t:=t) r s
  unfold fb Mx.dh at this⊢
  simp only[aE,List.map_cons,List.zip_cons_cons,List.zipWith_cons_cons]at this⊢
  rw[this,Int.neg_mul]
  congr 2
theorem By{σ:bF}{st:af}{K:DK}{n:Nat}{xs:List D}{to:DE}{ta:DA}(ho:∀K',K' (.ref n) st→to σ st K')(e:st[n]?=some (.lst xs))(ha:ta σ st fun ds st2=>(∃ys,st2[n]?=some (.lst ys))∧kv n ds st2 K):mh kv to ta σ st K:=by
 unfold mh
 refine ho _ ?_
 simp only[e]
 exact ha
theorem Gs{st2:af}{K:DK}{n:Nat}{ys:List D}{i:Int}{d:D}(e2:st2[n]?=some (.lst ys))(h:0≤i∧i≤ys.length∧i<2^62∧ys.length<sizeLine)(k:K .aJ (st2.set n (.lst (ys.take i.toNat++d::ys.drop i.toNat)))):(∃ys,st2[n]?=some (.lst ys))∧kv n [.int i,d] st2 K:=by
 refine⟨⟨ys,e2⟩,?_⟩
 unfold kv
 simp only[e2]
 exact⟨h,k⟩
theorem o7:∀ds st K,fA ds st K→ds.length=2∧qf {nx:=fun _ st'=>K .aJ st',rt:=K} (bG gQ ds) st:=by
 rintro ds st K ⟨n,b,A,N,w,rfl,B,hb,hA,hN1,hN8,hw,hbd,k⟩
 refine⟨rfl,?_⟩
 have hn:=B.lt
 have hnL:st.length≠n:=Nat.ne_of_gt hn
 refine jM ⟨bU (by rw[List.length_map,hA.len];omega),?_⟩
 refine fO a_ trivial cf.tup (fun d r hr he K' q=>⟨_,rfl,ll he q⟩) ?_
 refine⟨n,9,b,rfl,B.cell (List.getElem?_append_left hn),by omega,by decide,by decide,fun r0 st1 z0 z1 B1 U1=>dz ?_⟩
 obtain⟨T,rfl⟩:=Int.eq_ofNat_of_zero_le z0
 refine gF ⟨by omega,by omega⟩ ?_
 have eT:(2+(T:Int)).toNat=2+T:=by omega
 rw[eT]
 have e1:st1[st.length]?=some (.lst (A.map a_)):=(U1.same _ hnL).trans (by simp)
 have X1:XU st n st1:=(XU.ext Ext.push).trans (XU.upd U1)
 refine jh (2+T) (fun j σ st'=>∃(X:List (List Int)) (m:Nat) (v2 v3 v4 v5 v6:Option D),σ=[some (.ref n),some (.ref st.length),v2,v3,v4,v5,v6]∧st'[st.length]?=some (.lst (X.map a_))∧Mx.gy A N w (9*256*8^j) X m∧Hd st' n (b+1+4*j)∧XU st n st') ?_ ?_ ⟨A,N,none,none,none,none,none,rfl,e1,⟨hA,hN1,hN8,hbd,Mx.dP.refl _ _ _⟩,B1.mono (by simp),X1⟩
 · rintro σ st' ⟨X,m,v2,v3,v4,v5,v6,rfl,e,M,B',X'⟩
   have lX:=M.is.len
   have hm8:=M.hi
   refine m6 (ay e) fun ok aL=>⟨bU (by rw[List.length_map];omega),?_⟩
   refine fO cv aL cf.lst (fun d r hr he K' q=>⟨_,rfl,ef he q⟩) (ef rfl ?_)
   exact k X m st' (M.more (Nat.mul_le_mul_left _ (Nat.pow_le_pow_right (by decide) (by omega)))) (B'.mono (by omega)) X'
 · rintro j σ st2 rest hj ⟨X,m,v2,v3,v4,v5,v6,rfl,e,M,B2,X2⟩ next
   refine⟨_,rfl,?_⟩
   have lX:=M.is.len
   have hm1:=M.lo
   have hm8:=M.hi
   have lM:(X.map a_).length=m:=by rw[List.length_map,lX]
   refine dD (ay e) ?_
   refine⟨n,_,_,rfl,B2,by omega,by omega,by omega,fun rk st3 a0 a1 B3 U3=>?_⟩
   obtain⟨kk,rfl⟩:=Int.eq_ofNat_of_zero_le a0
   have hk:kk<m:=by omega
   have e3:=(U3.same _ hnL).trans e
   refine dD (ay e3) ?_
   refine⟨n,_,_,rfl,B3,by omega,by omega,by omega,fun ro st4 c0 c1 B4 U4=>?_⟩
   obtain⟨o,rfl⟩:=Int.eq_ofNat_of_zero_le c0
   have ho:o<m:=by omega
   have e4:=(U4.same _ hnL).trans e3
   refine⟨n,6,_,rfl,B4,by omega,by decide,by decide,fun way st5 w0 w1 B5 U5=>?_⟩
   have e5:=(U5.same _ hnL).trans e4
   have X5:XU st n st5:=X2.trans (XU.upd ((U3.trans U4).trans U5))
   have l5:=(List.getElem?_eq_some_iff.mp e5).1
   clear U3 U4 U5 e e3 e4 B2 B3 B4
   have pj:9*256*8^(j+1)=9*256*8^j*8:=by rw[Nat.pow_succ,Nat.mul_assoc (9*256)]
   have M1:Mx.gy A N w (9*256*8^(j+1)) X m:=M.more (by omega)
   have wk:=M.is.row hk
   have wo:=M.is.row ho
   have B6:Hd st5 n (b+1+4*((j+1:Nat):Int)):=B5.mono (by omega)
   by_cases h3:way<3
   · refine Fs h3 (e7 ?_)
     refine ne2 (fun hne=>e7 ?_) fun heq=>?_
     · refine iC (iC ⟨Nat.le_of_ble_eq_true rfl,n,5,_,rfl,B5,by omega,by decide,by decide,fun q st6 q0 q1 B6 U6=>?_⟩)
       have e6:=(U6.same _ hnL).trans e5
       have l6:=(List.getElem?_eq_some_iff.mp e6).1
       obtain⟨c,ec,hc⟩:∃c:Int,eK [D.int 1,.int (-1),.int 2,.int (-3),.int 7] q=some (.int c)∧c.natAbs≤7:=by
        have:q=0∨q=1∨q=2∨q=3∨q=4:=by omega
        rcases this with rfl|rfl|rfl|rfl|rfl
        · exact⟨1,rfl,by decide⟩
        · exact⟨-1,rfl,by decide⟩
        · exact⟨2,rfl,by decide⟩
        · exact⟨-3,rfl,by decide⟩
        · exact⟨7,rfl,by decide⟩
       refine aM rfl ec ?_
       refine aM (ay e6) (hO (by omega)) (aM (ay e6) (hO (by omega)) ?_)
       refine kQ rfl rfl fun ok aL=>⟨bU (by rw[hW,List.length_map,List.length_map];omega),?_⟩
       refine comp_map (g:=fun d=>match d with| .tup [.int x,.int y]=> .int (x+c*y)|_=> .aJ) (aL st6 rfl rfl) _ (fun d hd K' q=>?_) ?_
       · obtain⟨x,y,_,_,rfl⟩:=jO hd
         exact⟨_,rfl,fE (fB (by omega) (by omega)) (dz q)⟩
       have ea:(fb (aE (X.getD kk [])) (aE (X.getD o []))).map (fun d=>match d with| .tup [.int x,.int y]=> .int (x+c*y)|_=> .aJ)=aE (Mx.dh (X.getD kk []) c (X.getD o [])):=mT _ _
       rw[ea]
       refine fI e6 (mX (by omega) (by omega)) ?_
       rw[Int.toNat_natCast]
       refine mv (by omega) (mv (by omega) (mv (by omega) ?_))
       refine next _ _ ⟨_,m,_,_,_,_,_,rfl,(List.getElem?_set_self l6).trans (congrArg (fun x=>some (Cell.lst x)) ly),?_,(B6.cell (List.getElem?_set_ne hnL)).mono (by omega),(X5.trans (XU.upd U6)).set (Nat.le_refl _)⟩
       rw[pj]
       exact M.add hk ho (by omega) hc
     · refine mv (by omega) (mv (by omega) (mv (by omega) ?_))
       exact next _ _ ⟨X,m,_,_,_,_,_,rfl,e5,M1,B6,X5⟩
   · refine Fo (by omega) ?_
     by_cases h4:way=3
     · refine eqT h4 (e7 ?_)
       refine aM (ay e5) (hO (by omega)) (aM (ay e5) (hO (by omega)) ⟨Nat.le_of_ble_eq_true rfl,?_⟩)
       refine fI e5 (mX (by omega) (by omega)) ?_
       rw[Int.toNat_natCast,ly]
       refine fI (List.getElem?_set_self l5) (mX (by omega) (by rw[List.length_map,List.length_set];omega)) ?_
       rw[Int.toNat_natCast,ly,List.set_set]
       refine mv (by omega) (mv (by omega) ?_)
       exact next _ _ ⟨_,m,_,_,_,_,_,rfl,List.getElem?_set_self l5,M1.swap hk ho,B6.cell (List.getElem?_set_ne hnL),X5.set (Nat.le_refl _)⟩
     refine mv h4 ?_
     by_cases h5:way=4
     · refine eqT h5 (e7 ?_)
       refine aM (ay e5) (hO (by omega)) (u9 ⟨bU (by rw[List.length_map];omega),?_⟩)
       refine comp_map (g:=fun x=>match x with| .int a=> .int (-a)|_=> .aJ) trivial _ (fun x hx K' q=>?_) ?_
       · unfold aE at hx
         obtain⟨a,_,rfl⟩:=List.mem_map.mp hx
         exact⟨_,rfl,iC q⟩
       have en:(aE (X.getD kk [])).map (fun x=>match x with| .int a=> .int (-a)|_=> .aJ)=aE ((X.getD kk []).map fun x=> -x):=by unfold aE;rw[List.map_map,List.map_map];rfl
       rw[en]
       refine fI e5 (mX (by omega) (by omega)) ?_
       rw[Int.toNat_natCast]
       refine mv (by omega) ?_
       exact next _ _ ⟨_,m,_,_,_,_,_,rfl,(List.getElem?_set_self l5).trans (congrArg (fun x=>some (Cell.lst x)) ly),M1.neg hk,B6.cell (List.getElem?_set_ne hnL),X5.set (Nat.le_refl _)⟩
     refine mv h5 (eqT (by omega) (e7 ?_))
     refine dD (ay e5) (Fi (fun h8=>e7 ?_) fun h8=>?_)
     · refine By (fun K' q=>q) e5 ?_
       refine aM (ay e5) (hO (by omega)) (aM (ay e5) (hO (by omega)) ?_)
       refine kQ rfl rfl fun ok aL=>⟨bU (by rw[hW,List.length_map,List.length_map];omega),?_⟩
       refine comp_map (g:=fun d=>match d with| .tup [.int x,.int y]=> .int (x-2*y)|_=> .aJ) (aL st5 rfl rfl) _ (fun d hd K' q=>?_) ?_
       · obtain⟨x,y,_,_,rfl⟩:=jO hd
         exact⟨_,rfl,fE (fB (by decide) (by decide)) (lj q)⟩
       rw[sP]
       refine Gs e5 ⟨by omega,by omega,by omega,by rw[sizeLine_eq];omega⟩ ?_
       rw[Int.toNat_natCast]
       refine next _ _ ⟨_,m+1,_,_,_,_,_,rfl,(List.getElem?_set_self l5).trans ?_,by rw[pj];exact M.ins hk ho (by omega) (c:= -2) (by decide),B6.cell (List.getElem?_set_ne hnL),X5.set (Nat.le_refl _)⟩
       rw[List.map_append,List.map_cons,List.map_take,List.map_drop]
     · exact next _ _ ⟨X,m,_,_,_,_,_,rfl,e5,M1,B6,X5⟩
def dB:dc:=fun ds st K=>∃(d:D) (N w e0 z:Nat) (A:List (List Int)) (f:Bool),ds=[d]∧iH st d A∧Mx.bK N w A∧1≤N∧N≤8∧w≤9∧Mx.d5 A N 0 (2^e0)∧z≤60000000∧(∀p t c,p<w→Mx.cE A N p t c→Mx.ke N p t z c)∧st[0]?=some (gb f)∧
 ∀st' (top:Nat) (c:Mx.B3),Mx.cE A N w top c→Bk st st'→K (c_ (c.A.take top)) st'
def jA:List Str:=["_law_rows_here"]
def wc:DS:=(cR (au bz (aY iD (ag (aa 0) av)) (dC (.int 0))))
theorem uy:∀ds st K,dB ds st K→ds.length=1∧wc {nx:=fun _ st'=>K .aJ st',rt:=K} (bG jA ds) st:=by
 rintro ds st K ⟨d,N,w,e0,z,A,f,rfl,hd,hA,hN1,hN,hw,hlo,hz,hr,h0,k⟩
 exact⟨rfl,d,N,w,e0,z,A,f,rfl,hd,hA,hN1,hN,hw,hlo,hz,hr,h0,fun st' top c hC B=>aM rfl rT (k st' top c hC B)⟩
def oj(F:List (List Int))(ld:Nat→Nat):Nat→Int
 |0=>1
 |n+1=>oj F ld n*Mx.g F n (ld n)
def fX:dc:=fun ds st K=>∃(F:List (List Int)) (n w:Nat) (ld:Nat→Nat),ds=[c_ F]∧Mx.bK n w F∧Mx.cp F n w ld∧n≤8∧w≤9∧(∀k,k<n→IntMulOk (oj F ld k) (Mx.g F k (ld k)))∧K (.tup [.lst ((List.range n).map fun i=>D.int (ld i:Int)),.int (oj F ld n)]) st
def i5:List Str:=["_law_form_here","_law_places","_law_all_leads","_law_row","_law_place"]
def uw:DS:=(aS (bP 1 (dm (fh (aa 0)) [none] (bY 0) cy (au bz (dm (fg (ag (cU eY (ag (aa 0) av)) av)) [none,some 0] (bY 0) (bS (au ow (au bz (aa 1) (aa 0)) (dC (.int 0)))) (aa 0)) (dC (.int 0)))))
 (aS (bP 2 (dC (.int 1)))
 (aS (nj (m5 (ag (aa 0) (ag (aa 1) av))) (gO 3 4) (bP 2 (au cY (aa 2) (au bz (aa 3) (aa 4)))))
 (cR (h_ (ag (aa 1) (ag (aa 2) av)))))))
def i7:List Int→Nat→Option Nat
 | [],_=>none
 |x::xs,i=>if x=0 then i7 xs (i+1)else some i
def jR(r:List Int):Option Nat:=i7 r 0
theorem pw:∀(r:List Int) (i:Nat),i7 r (i+1)=(i7 r i).map (· +1)
 | [],_=>rfl
 |x::r,i=>by
  unfold i7
  split
  · exact pw r (i+1)
  · rfl
theorem om:∀r:List Int,((List.range r.length).filter fun j=>decide (r.getD j 0≠0)).head?=jR r
 | []=>rfl
 |x::r=>by
  have ih:=om r
  rw[List.length_cons,List.range_succ_eq_map,List.filter_cons]
  by_cases h:x=0
  · have h1:decide ((x::r).getD 0 0≠0)=false:=by simpa using h
    rw[h1,if_neg Bool.false_ne_true,List.filter_map,List.head?_map]
    have e:(fun j=>decide ((x::r).getD j 0≠0))∘Nat.succ=fun j=>decide (r.getD j 0≠0):=by
     funext j
     simp
    rw[e,ih]
    unfold jR
    conv=>rhs;unfold i7
    rw[if_pos h,pw]
  · have h1:decide ((x::r).getD 0 0≠0)=true:=by simpa using h
    rw[h1,if_pos rfl,List.head?_cons]
    unfold jR i7
    rw[if_neg h]
theorem uD{n:Nat}{p:Nat→Bool}{c:DT}{te:DE}{σc:bF}{st:af}{K:List D→af→Prop}(h:∀i:Nat,i<n→∃σ2,bY 0 (.int (i:Int)) σc=some σ2∧(∀K',K' (p i) st→c σ2 st K')∧∀K',K' (.int (i:Int)) st→te σ2 st K')(k:K (((List.range n).filter p).map fun(j:Nat)=>D.int (j:Int)) st):cZ (bY 0) c te (fun _=>True) σc (df 0 n) [] st K:=by
 refine gp (fun rest acc st'=>st'=st∧∃j:Nat,j≤n∧rest=(List.range (n-j)).map (fun i=>D.int (((j+i:Nat):Int)))∧acc=((List.range j).filter p).map fun(j:Nat)=>D.int (j:Int)) ?_ ?_ _ _ _ ⟨rfl,0,Nat.zero_le _,by unfold df;simp,rfl⟩
 · rintro acc st' ⟨rfl,j,hj,hr,rfl⟩
   have:n-j=0:=by
    cases q:n-j with
    |zero=>rfl
    |succ m=>rw[q,List.range_succ_eq_map]at hr;cases hr
   have hjn:j=n:=by omega
   subst hjn
   exact⟨trivial,k⟩
 · rintro d rest acc st' ⟨rfl,j,hj,hr,rfl⟩ next
   cases q:n-j with
   |zero=>rw[q]at hr;cases hr
   |succ m=>
    rw[q,List.range_succ_eq_map,List.map_cons,List.map_map]at hr
    simp only[List.cons.injEq]at hr
    obtain⟨rfl,hrest⟩:=hr
    obtain⟨σ2,e2,hc,ht⟩:=h j (by omega)
    have hrest':rest=(List.range (n-(j+1))).map (fun i=>D.int (((j+1+i:Nat):Int))):=by
     have:n-(j+1)=m:=by omega
     rw[this,hrest]
     refine List.map_congr_left fun i _=>?_
     show D.int (((j+(i+1):Nat):Int))=D.int (((j+1+i:Nat):Int))
     congr 2;omega
    refine⟨trivial,σ2,e2,hc _ ?_⟩
    cases ep:p j with
    |false=>
     refine next _ _ ⟨rfl,j+1,by omega,hrest',?_⟩
     rw[List.range_succ,List.filter_append,List.map_append]
     simp[ep]
    |true=>
     refine e7 (ht _ (next _ _ ⟨rfl,j+1,by omega,hrest',?_⟩))
     rw[List.range_succ,List.filter_append,List.map_append]
     simp[ep]
theorem sr:∀(r:List Int) (i l:Nat),(∀c,c<l→r.getD c 0=0)→r.getD l 0≠0→i7 r i=some (i+l)
 | [],_,_,_,h=>(h rfl).elim
 |x::r,i,0,_,h=>by
  unfold i7
  rw[if_neg (show¬x=0 from h)];rfl
 |x::r,i,l+1,hz,h=>by
  unfold i7
  rw[if_pos (show x=0 from hz 0 (Nat.zero_lt_succ _)),sr r (i+1) l (fun c hc=>hz (c+1) (Nat.succ_lt_succ hc)) h,Nat.add_right_comm]
  rfl
theorem tS:∀ds st K,fX ds st K→ds.length=1∧uw {nx:=fun _ st'=>K .aJ st',rt:=K} (bG i5 ds) st:=by
 rintro ds st K ⟨F,n,w,ld,rfl,hF,hS,hn,hw,hm,k⟩
 refine⟨rfl,?_⟩
 have lF:=hF.len
 have led:∀i,i<n→jR (F.getD i [])=some (ld i):=fun i hi=>by
  obtain⟨_,h2,h3⟩:=hS.lead i hi
  have:=sr (F.getD i []) 0 (ld i) h3 (Int.ne_of_gt h2)
  rw[Nat.zero_add]at this
  exact this
 refine jM ⟨bU (by rw[List.length_map];omega),?_⟩
 refine fO (fun r=>D.int (((jR r).getD 0:Nat):Int)) trivial cf.tup (fun d r hr he K' q=>⟨_,rfl,?_⟩) ?_
 · have hrw:=hF.j5 r hr
   obtain⟨l,hl⟩:∃l,jR r=some l:=by
    obtain⟨i,hi,rfl⟩:=List.mem_iff_getElem.mp hr
    have:=led i (by omega)
    rw[Mx.bJ hi]at this
    exact⟨_,this⟩
   rw[hl]at q
   refine dD he ?_
   rw[List.length_map]
   refine gF ⟨by omega,by omega⟩ ⟨bU (by rw[fM];omega),?_⟩
   rw[Int.toNat_natCast]
   refine uD (p:=fun j=>decide (r.getD j 0≠0)) (fun j hj=>⟨_,rfl,fun K' q=>?_,fun K' q=>q⟩) ?_
   · refine aM he (nt hj) (ne2 (fun h=>?_) fun h=>?_)
     · rw[decide_eq_true h]at q;exact q
     · rw[decide_eq_false (fun z=>z h)]at q;exact q
   have hf:=om r
   rw[hl]at hf
   generalize((List.range r.length).filter fun j=>decide (r.getD j 0≠0))=ps at hf⊢
   match ps,hf with
   |x::ps,hf=>
    cases hf
    exact aM rfl rT q
 have el:F.map (fun r=>D.int (((jR r).getD 0:Nat):Int))=(List.range n).map fun i=>D.int (ld i:Int):=by
  refine List.ext_getElem (by rw[List.length_map,List.length_map,List.length_range,lF]) fun i h1 h2=>?_
  rw[List.getElem_map,List.getElem_map,List.getElem_range]
  rw[List.length_map]at h1
  have:=led i (by omega)
  rw[Mx.bJ h1]at this
  rw[this];rfl
 rw[el]
 refine kQ rfl rfl fun ok aL=>?_
 have hz:(fb (F.map cv) ((List.range n).map fun i=>D.int (ld i:Int))).length=n:=by rw[hW,List.length_map,List.length_map,List.length_range,lF];omega
 refine qd (fun rest σ st'=>st=st'∧∃(j:Nat) (v3 v4:Option D),j≤n∧rest=(fb (F.map cv) ((List.range n).map fun i=>D.int (ld i:Int))).drop j∧σ=[some (c_ F),some (.lst ((List.range n).map fun i=>D.int (ld i:Int))),some (.int (oj F ld j)),v3,v4]) ?_ ?_ _ _ _ ⟨rfl,0,none,none,Nat.zero_le _,rfl,rfl⟩
 · rintro σ st' ⟨rfl,j,v3,v4,hj,hr,rfl⟩
   have:n=j:=by
    have:=congrArg List.length hr
    rw[List.length_drop,hz]at this
    simp at this
    omega
   subst this
   exact⟨aL _ rfl rfl,⟨Nat.le_of_ble_eq_true rfl,k⟩⟩
 · rintro x rest σ st' ⟨rfl,j,v3,v4,hj,hr,rfl⟩ next
   have hj2:j<n:=by
    have:=congrArg List.length hr
    rw[List.length_drop,hz]at this
    simp at this
    omega
   rw[List.drop_eq_getElem_cons (by omega)]at hr
   rw[List.cons.injEq]at hr
   obtain⟨rfl,rfl⟩:=hr
   have ex:(fb (F.map cv) ((List.range n).map fun i=>D.int (ld i:Int)))[j]'(by omega)= .tup [cv (F.getD j []),.int (ld j:Int)]:=by
    unfold fb
    rw[List.getElem_map,List.getElem_zip,List.getElem_map,List.getElem_map,List.getElem_range,Mx.bJ (by omega)]
   rw[ex]
   refine⟨aL _ rfl rfl,_,rfl,?_⟩
   have hlt:=(hS.lead j hj2).1
   refine aM rfl (nt (r:=F.getD j []) (by rw[Mx.cg hF hj2];exact hlt)) (fE (hm j hj2) ?_)
   exact next _ _ ⟨rfl,j+1,_,_,hj2,rfl,rfl⟩
structure Wk(st:af)(n:Nat)(b:Int):Prop where
 hd:Hd st n b
 tb:∃f,st[0]?=some (gb f)
theorem Wk.ne{st:af}{n:Nat}{b:Int}(W:Wk st n b):0≠n:=by
 obtain⟨_,_,_,_,e,_⟩:=W.hd.ex
 obtain⟨f,h⟩:=W.tb
 exact Ne.symm (kO e h)
theorem Wk.xu{st st':af}{n:Nat}{b b':Int}(W:Wk st n b)(H:Hd st' n b')(X:XU st n st'):Wk st' n b':=by
 obtain⟨f,h⟩:=W.tb
 exact⟨H,f,(X.same 0 (List.getElem?_eq_some_iff.mp h).1 W.ne).trans h⟩
theorem Wk.bk{st st':af}{n:Nat}{b:Int}(W:Wk st n b)(B:Bk st st'):Wk st' n b:=⟨W.hd.cell (B.fr n W.hd.lt (Ne.symm W.ne)),B.tb⟩
theorem Wk.mono{st:af}{n:Nat}{b b':Int}(W:Wk st n b)(h:b≤b'):Wk st n b':=⟨W.hd.mono h,W.tb⟩
def gY:dc:=fun ds st K=>∃(n:Nat) (b:Int) (F:List (List Int)) (m w a:Nat) (ld:Nat→Nat),ds=[.ref n,c_ F]∧Wk st n b∧b≤500000000∧Mx.Fm F m w a ld∧a≤15214481∧1≤m∧m≤8∧w≤8∧∀st',Wk st' n (b+2)→K (.bl true) st'
def i0:List Str:=["_law_hand_here","_law_form_here","_law_k","_law_often","_law_fewer_here","_law_places","_law_all_leads"]
def uq:DS:=(aS (bP 2 (aY aV (ag (aa 0) (ag (cU eY (ag (aa 1) av)) av))))
 (aS (bP 3 (au cO (dC (.int 2)) (aY aV (ag (aa 0) (ag (dC (.int 4)) av)))))
 (aS (bP 4 (aY dB (ag (au cO (au cO (jj (aa 1) ib (kq (aa 2))) (h_ (ag (cU eC (ag (dm (fh (au bz (aa 1) (aa 2))) [none,some 3] (bY 0) cy (au cY (aa 1) (aa 0))) av)) av))) (jj (aa 1) (kq (au cO (aa 2) (dC (.int 1)))) ib)) av)))
 (aS (vQ (gO 5 6) (aY fX (ag (aa 1) av)))
 (cR (vS (au j8 (aa 4) (aa 1)) (au gg (aY fX (ag (aa 4) av)) (h_ (ag (aa 5) (ag (au cY (aa 3) (aa 6)) av))))))))))
theorem vn{n:Nat}{r:List Int}:pl (n+1) (cv r)=true:=by
 unfold pl
 exact Bi
theorem fL{n:Nat}{A:List (List Int)}:pl (n+2) (c_ A)=true:=by
 unfold pl
 refine List.all_eq_true.mpr fun d hd=>?_
 obtain⟨r,_,rfl⟩:=List.mem_map.mp hd
 exact vn
theorem qt:∀(r s:List Int),eU (aE r) (aE s)=decide (r=s)
 | [],[]=>by unfold eU;rfl
 | [],_::_=>by unfold eU;rfl
 |_::_,[]=>by unfold eU;rfl
 |a::r,b::s=>by
  have ih:=qt r s
  unfold aE at ih⊢
  rw[List.map_cons,List.map_cons]
  unfold eU
  rw[ih]
  unfold cq
  by_cases h1:a=b
  · subst h1;simp
  · have:(a==b)=false:=by simpa using h1
    rw[this,Bool.false_and]
    exact(decide_eq_false fun h=>h1 (List.cons.inj h).1).symm
theorem qC:∀(A B:List (List Int)),eU (A.map cv) (B.map cv)=decide (A=B)
 | [],[]=>by unfold eU;rfl
 | [],_::_=>by unfold eU;rfl
 |_::_,[]=>by unfold eU;rfl
 |a::r,b::s=>by
  have ih:=qC r s
  rw[List.map_cons,List.map_cons]
  unfold eU
  rw[ih]
  unfold cv cq
  rw[qt]
  by_cases h1:a=b
  · subst h1;simp
  · rw[decide_eq_false h1,Bool.false_and]
    exact(decide_eq_false fun h=>h1 (List.cons.inj h).1).symm
theorem oV(A B:List (List Int)):cq (c_ A) (c_ B)=decide (A=B):=by
 unfold c_ cq
 exact qC A B
theorem tE{xs:List D}{j:Nat}:L3.cutD xs (some (j:Int)) none=xs.drop j:=by
 unfold L3.cutD
 rw[HT.u5,HT.tJ]
 by_cases h:j≤xs.length
 · rw[Nat.min_eq_left h,List.take_of_length_le (by rw[List.length_drop];exact Nat.le_refl _)]
 · rw[Nat.min_eq_right (by omega),List.drop_length,List.drop_eq_nil_of_le (by omega),List.take_nil]
theorem qJ{F G:List (List Int)}{ld:Nat→Nat}{k:Nat}{x:Int}:∀n,(∀i,i<n→Mx.g G i (ld i)=(if i=k then x else 1)*Mx.g F i (ld i))→oj G ld n=(if k<n then x else 1)*oj F ld n
 |0,_=>by rw[if_neg (Nat.not_lt_zero k)];rfl
 |n+1,h=>by
  have ih:=qJ n fun i hi=>h i (Nat.lt_succ_of_lt hi)
  unfold oj
  rw[ih,h n (Nat.lt_succ_self n)]
  rcases Nat.lt_trichotomy k n with q|q|q
  · rw[if_pos q,if_pos (Nat.lt_succ_of_lt q),if_neg (Nat.ne_of_gt q),Int.one_mul,Int.mul_assoc]
  · subst q
    rw[if_neg (Nat.lt_irrefl k),if_pos rfl,if_pos (Nat.lt_succ_self k),Int.one_mul,Int.mul_left_comm]
  · rw[if_neg (by omega),if_neg (by omega),if_neg (by omega),Int.one_mul,Int.one_mul,Int.one_mul]
theorem yw{F:List (List Int)}{ld:Nat→Nat}{a:Nat}:∀n,(∀i,i<n→(Mx.g F i (ld i)).natAbs≤2^a)→(oj F ld n).natAbs≤2^(n*a)
 |0,_=>by rw[Nat.zero_mul];exact Nat.le_refl _
 |n+1,h=>by
  unfold oj
  rw[Int.natAbs_mul,Nat.succ_mul,Nat.pow_add]
  exact Nat.mul_le_mul (yw n fun i hi=>h i (Nat.lt_succ_of_lt hi)) (h n (Nat.lt_succ_self n))
theorem yt{F:List (List Int)}{ld:Nat→Nat}{a m:Nat}(ha:a≤15214484)(hm:m≤8)(h:∀i,i<m→(Mx.g F i (ld i)).natAbs≤2^a)(k:Nat)(hk:k<m):IntMulOk (oj F ld k) (Mx.g F k (ld k)):=by
 refine jG (yw k fun i hi=>h i (Nat.lt_trans hi hk)) (h k hk) ?_
 have:(k+1)*a≤8*15214484:=Nat.mul_le_mul (by omega) ha
 rw[Nat.succ_mul]at this
 exact Nat.le_trans this (by decide)
theorem oB{ps:List Nat}{f:Nat→Nat}{x:Int}:pl 40 (.tup [.lst (ps.map fun(i:Nat)=>D.int (f i:Int)),.int x])=true:=by
 unfold pl
 refine List.all_eq_true.mpr fun d hd=>?_
 rcases List.mem_cons.mp hd with rfl|hd
 · unfold pl
   refine List.all_eq_true.mpr fun d hd=>?_
   obtain⟨i,_,rfl⟩:=List.mem_map.mp hd
   rfl
 · have:d= .int x:=by simpa using hd
   subst this;rfl
theorem tx{F R:List (List Int)}{k l:Nat}:((F.map cv).take k++R.map cv)++(F.map cv).drop l=(F.take k++R++F.drop l).map cv:=by rw[List.map_append,List.map_append,List.map_take,List.map_drop]
theorem sS:∀ds st K,gY ds st K→ds.length=2∧uq {nx:=fun _ st'=>K .aJ st',rt:=K} (bG i0 ds) st:=by
 rintro ds st K ⟨n,b,F,m,w,a,ld,rfl,W,hb,h,ha,m1,m8,w8,k⟩
 refine⟨rfl,?_⟩
 have lF:=h.is.len
 have lM:(F.map cv).length=m:=by rw[List.length_map,lF]
 refine dD rfl ⟨n,_,b,rfl,W.hd,by omega,by omega,by omega,fun r1 st1 a0 a1 B1 U1=>?_⟩
 obtain⟨j,rfl⟩:=Int.eq_ofNat_of_zero_le a0
 have hj:j<m:=by omega
 refine⟨n,4,_,rfl,B1,by omega,by decide,by decide,fun r2 st2 c0 c1 B2 U2=>dz ?_⟩
 have W2:Wk st2 n (b+2):=(W.xu B2 (XU.upd (U1.trans U2))).mono (by omega)
 generalize ex:2+r2=x
 have hx:2≤x∧x≤5:=by omega
 refine kn ?_
 rw[rQ]
 have hw:=h.is.row hj
 refine aM rfl (hV (by omega)) (jM ⟨bU (by rw[List.length_map];omega),?_⟩)
 refine comp_map (g:=fun d=>match d with| .int y=> .int (x*y)|_=> .aJ) trivial _ (fun d hd K' q=>?_) ?_
 · unfold aE at hd
   obtain⟨y,_,rfl⟩:=List.mem_map.mp hd
   exact⟨_,rfl,fE (fB (by omega) (by omega)) q⟩
 have en:(aE (F.getD j [])).map (fun d=>match d with| .int y=> .int (x*y)|_=> .aJ)=aE ((F.getD j []).map fun y=>x*y):=by unfold aE;rw[List.map_map,List.map_map];rfl
 rw[en]
 refine ef rfl ⟨Nat.le_of_ble_eq_true rfl,kY (bU (by rw[List.length_take,List.length_singleton];omega)) (dz (kn ?_))⟩
 rw[show(j:Int)+1=((j+1:Nat):Int)from rfl,tE]
 refine kY (bU (by rw[List.length_append,List.length_take,List.length_singleton,List.length_drop];omega)) ?_
 rw[show(F.map cv).take j++[D.tup (aE ((F.getD j []).map fun y=>x*y))]++(F.map cv).drop (j+1)=(F.take j++[(F.getD j []).map fun y=>x*y]++F.drop (j+1)).map cv from tx (R:=[(F.getD j []).map fun y=>x*y])]
 have P:=Mx.gS.times h.is hj hx
 have hA:Mx.bK m w (F.take j++[(F.getD j []).map fun y=>x*y]++F.drop (j+1)):=Mx.x_ h.is (fun r hr=>by
  have:r=(F.getD j []).map fun y=>x*y:=by simpa using hr
  rw[this,List.length_map];exact hw) (Nat.le_of_lt hj) (by rw[List.length_singleton];omega)
 generalize F.take j++[(F.getD j []).map fun y=>x*y]++F.drop (j+1)=A at P hA
 obtain⟨f2,t2⟩:=W2.tb
 refine⟨c_ A,m,w,a+3,60000000,A,f2,rfl,jF,hA,m1,m8,by omega,h.low P,Nat.le_refl _,h.iI P hA m8 w8 (by omega),t2,fun st3 top c hC K3=>?_⟩
 obtain⟨rfl,hG,sG,lG⟩:=h.E7 hj P hA m8 hC
 have W3:=W2.bk K3
 generalize c.A.take top=G at hG sG lG
 have fl:∀i,i<top→(Mx.g F i (ld i)).natAbs≤2^(a+3):=fun i hi=>Nat.le_trans (h.lo i _ (Nat.zero_le _) hi) (Nat.pow_le_pow_right (by decide) (by omega))
 have gl:∀i,i<top→(Mx.g G i (ld i)).natAbs≤2^(a+3):=fun i hi=>by
  rw[lG i hi,Int.natAbs_mul,Nat.pow_add,Nat.mul_comm]
  have:=P.x1 i
  exact Nat.mul_le_mul (h.lo i _ (Nat.zero_le _) hi) (by omega)
 refine⟨F,top,w,ld,rfl,h.is,h.st,m8,by omega,yt (by omega) m8 fl,⟨_,rfl,?_⟩⟩
 refine yn fL fL ?_
 have ne:G≠F:=fun e=>by
  have:=lG j hj
  rw[if_pos rfl,e]at this
  have hp:=(h.st.lead j hj).2.1
  have h2:2*Mx.g F j (ld j)≤x*Mx.g F j (ld j):=Int.mul_le_mul_of_nonneg_right hx.1 (Int.le_of_lt hp)
  omega
 rw[oV,decide_eq_false ne]
 refine e7 ⟨G,top,w,ld,rfl,hG,sG,m8,by omega,yt (by omega) m8 gl,?_⟩
 refine fE (fB (by omega) (by omega)) ⟨Nat.le_of_ble_eq_true rfl,?_⟩
 rw[qJ top lG,if_pos hj]
 refine pk oB oB ?_
 rw[lT 40 _ oB]
 exact k _ W3
abbrev wD:dc:=xo CV
def rL:List Str:=["_law_script","_law_hand_here","_law_rows_here","_law_wide","_law_form_here","_law_sum_of","_law_at"]
def Et:DS:=(aS (bP 1 (aY iA (ag (aa 0) av)))
 (aS (bP 2 (aY fo (ag (aa 1) (ag (dC (.int 7)) av))))
 (aS (bP 3 (cU eY (ag (au bz (aa 2) (dC (.int 0))) av)))
 (aS (bP 4 (aY dB (ag (aa 2) av)))
 (aS (eS (bS (au j8 (aY dB (ag (aY fA (ag (aa 1) (ag (aa 2) av))) av)) (aa 4))) (cR (dC (.bl false))) dE)
 (aS (eS (bS (au gg (aa 4) (h_ av))) (cR (au gg (dm (fh (aa 2)) [none,some 3] (bY 0) (bS (au j8 (aa 0) (au cY (h_ (ag (dC (.int 0)) av)) (aa 1)))) (aa 0)) (oC av))) dE)
 (aS (eS (sh (bS (au j8 (aY dB (ag (aa 4) av)) (aa 4))) (vB (bS (aY gY (ag (aa 1) (ag (aa 4) av)))))) (cR (dC (.bl false))) dE)
 (aS (eS (bS (au lb (cU eY (ag (aa 4) av)) (dC (.int 6)))) (cR (dC (.bl true))) dE)
 (aS (bP 5 (cU eC (ag (dm (m5 (ag (au bz (aa 4) (dC (.int 0))) (ag (au bz (aa 4) (aY aV (ag (aa 1) (ag (cU eY (ag (aa 4) av)) av)))) av))) [none,none] (gO 0 1) cy (au kG (aa 0) (aa 1))) av)))
 (aS (bP 6 (aY aV (ag (aa 1) (ag (au cO (cU eY (ag (aa 4) av)) (dC (.int 1))) av))))
 (aS (eS (bS (au j8 (aY dB (ag (au cO (h_ (ag (aa 5) av)) (aa 4)) av)) (aa 4))) (cR (dC (.bl false))) dE)
 (cR (au gg (aY dB (ag (au cO (au cO (jj (aa 4) ib (kq (aa 6))) (au cY (h_ (ag (au cY (h_ (ag (dC (.int 0)) av)) (aa 3)) av)) (dC (.int 2)))) (jj (aa 4) (kq (aa 6)) ib)) av)) (aa 4))))))))))))))
theorem vp:∀(r s:List Int),(fb (aE r) (aE s)).map (fun d=>match d with| .tup [.int a,.int b]=> .int (a-b)|_=> .aJ)=aE (Mx.dh r (-1) s)
 | [],_=>rfl
 |_::_,[]=>rfl
 |a::r,b::s=>by
  have:=vp r s
  unfold fb Mx.dh at this⊢
  simp only[aE,List.map_cons,List.zip_cons_cons,List.zipWith_cons_cons]at this⊢
  rw[this,Int.neg_mul,Int.one_mul]
  congr 2
theorem yj{w:Nat}{st:af}{K:List D→af→Prop}(hw:w≤8)(k:K [] st)(A:List (List Int))(h:∀r∈A,r=List.replicate w 0):cZ (bY 0) (bS (au j8 (aa 0) (au cY (h_ (ag (dC (.int 0)) av)) (aa 1)))) (aa 0) (fun _=>True) [none,some (.int (w:Int))] (A.map cv) [] st K:=by
 refine gp (fun rest acc st'=>acc=[]∧st'=st∧∃A':List (List Int),rest=A'.map cv∧∀r∈A',r=List.replicate w 0) ?_ ?_ _ _ _ ⟨rfl,rfl,A,rfl,h⟩
 · rintro acc st' ⟨rfl,rfl,_⟩
   exact⟨trivial,k⟩
 · rintro d rest acc st' ⟨rfl,rfl,A',e,hA⟩ next
   match A',e,hA with
   |r::A',e,hA=>
    obtain⟨rfl,rfl⟩:=List.cons.inj e
    refine⟨trivial,_,rfl,⟨Nat.le_of_ble_eq_true rfl,qk ⟨by omega,by omega,bU (by simp;omega)⟩ ?_⟩⟩
    rw[Int.toNat_natCast,oU,hA r List.mem_cons_self]
    exact ma vn (next _ _ ⟨rfl,rfl,A',rfl,fun r hr=>hA r (List.mem_cons_of_mem _ hr)⟩)
theorem DJ:∀ds st K,wD ds st K→ds.length=1∧Et {nx:=fun _ st'=>K .aJ st',rt:=K} (bG rL ds) st:=by
 rintro ds st K ⟨ns,rfl,hl,hst,k⟩
 refine⟨rfl,?_⟩
 have l0:st.length=1:=by rw[hst];rfl
 have t0:st[0]?=some (gb false):=by rw[hst];rfl
 clear hst
 refine⟨ns,rfl,hl,fun st1 B1 X1=>?_⟩
 have W1:Wk st1 st.length 0:=⟨B1,false,(X1.same 0 (by omega)).trans t0⟩
 generalize st.length=n at W1 B1
 clear l0 t0 X1 hl
 refine⟨n,0,7,rfl,B1,by decide,by decide,by decide,fun N w A st2 N1 N8 w1 w8 hA hb B2 X2=>?_⟩
 have W2:=W1.xu B2 X2
 clear W1 B1 B2 X2
 have lA:=hA.len
 have lo12:Mx.d5 A N 0 (2^12):=Mx.xr hA fun r hr x hx=>Nat.le_trans (hb r hr x hx) (by decide)
 refine aM rfl (hV (k:=0) (by omega)) (dD rfl ?_)
 rw[show(aE (A.getD 0 [])).length=w from by rw[List.length_map];exact hA.row N1]
 obtain⟨f2,t2⟩:=W2.tb
 refine⟨c_ A,N,w,12,60000000,A,f2,rfl,jF,hA,N1,N8,by omega,lo12,Nat.le_refl _,fun p t c hp H=>Mx.cE.iI hA lo12 N8 (fun t ht=>Nat.le_trans (Mx.Cd N (by omega) t (by omega)) (by decide)) hp H,t2,fun st3 top c hC K3=>?_⟩
 have W3:=W2.bk K3
 clear W2 K3 t2 f2
 obtain⟨ld,S,h⟩:=Mx.Fm.of hA lo12 N8 (fun t ht=>Mx.Cd N (by omega) t (by omega)) hC
 have hle:=S.le
 refine⟨n,_,A,N,w,rfl,W3.hd,by decide,hA,N1,N8,w8,hb,fun B N' st4 M B4 X4=>?_⟩
 have W4:=W3.xu B4 X4
 clear W3 B4 X4
 have lo42:Mx.d5 B N' 0 (2^42):=Mx.xr M.is fun r hr x hx=>Nat.le_trans (M.bd r hr x hx) (by decide)
 have hN':=M.hi
 obtain⟨f4,t4⟩:=W4.tb
 refine⟨c_ B,N',w,42,60000000,B,f4,rfl,jF,M.is,M.lo,hN',by omega,lo42,Nat.le_refl _,fun p t c hp H=>Mx.cE.iI M.is lo42 hN' (fun t ht=>Mx.Gx N' (by omega) t (by omega)) hp H,t4,fun st5 top' c' hC' K5=>?_⟩
 have W5:=W4.bk K5
 clear W4 K5 t4 f4
 obtain⟨ld',S'⟩:=hC'.oq M.is lo42 hN' (Nat.le_refl _)
 rw[←(S.same S' M.same.to M.same.of).2]
 refine ma fL ?_
 have gone:top=0→∀r∈A,r=List.replicate w 0:=fun e=>by
  subst e;exact S.gone hA
 clear S S' hC hC' M lo42 lo12 hb
 generalize c.A.take top=F at h
 have lF:=h.is.len
 have lM:(F.map cv).length=top:=by rw[List.length_map,lF]
 refine⟨Nat.le_of_ble_eq_true rfl,pk (e:=c_ []) fL fL ?_⟩
 rw[oV]
 by_cases hF:F=[]
 · rw[decide_eq_true hF]
   refine e7 (jM ⟨bU (by rw[List.length_map];omega),?_⟩)
   refine yj w8 ?_ A (gone (by rw[←lF,hF];rfl))
   exact⟨Nat.le_of_ble_eq_true rfl,pk (d:= .lst []) (e:= .lst []) rfl rfl (k _)⟩
 rw[decide_eq_false hF]
 have top1:1≤top:=by
  rw[←lF]
  exact List.length_pos_iff.mpr hF
 have top8:top≤8:=by omega
 clear gone hA lA
 obtain⟨f5,t5⟩:=W5.tb
 refine⟨c_ F,top,w,_,60000000,F,f5,rfl,jF,h.is,top1,top8,by omega,h.low Mx.gS.refl,Nat.le_refl _,h.iI Mx.gS.refl h.is top8 w8 (by decide),t5,fun st6 top6 c6 hC6 K6=>?_⟩
 rw[h.picked Mx.gS.refl h.is top8 (fun f hf=>⟨f,hf,rfl⟩) hC6]
 have W6:=W5.bk K6
 clear W5 K6 t5 f5 hC6
 refine ma fL ?_
 refine⟨n,_,F,top,w,_,ld,rfl,W6,by decide,h,Nat.le_refl _,top1,top8,w8,fun st7 W7=>?_⟩
 clear W6
 refine dD rfl (Fh (fun _=>e7 (k _)) fun h6=>?_)
 have top6:top≤6:=by omega
 refine aM rfl (hV (k:=0) (by omega)) (dD rfl ⟨n,_,_,rfl,W7.hd,by decide,by omega,by omega,fun r8 st8 a0 a1 B8 U8=>?_⟩)
 obtain⟨j,rfl⟩:=Int.eq_ofNat_of_zero_le a0
 have hj:j<top:=by omega
 have r0:=h.is.row (i:=0) top1
 have rj:=h.is.row hj
 refine aM rfl (hV (by omega)) (kQ rfl rfl fun ok aL=>⟨bU (by rw[hW,List.length_map,List.length_map];omega),?_⟩)
 refine comp_map (g:=fun d=>match d with| .tup [.int a,.int b]=> .int (a-b)|_=> .aJ) (aL _ rfl rfl) _ (fun d hd K' q=>?_) ?_
 · obtain⟨x,y,_,_,rfl⟩:=jO hd
   exact⟨_,rfl,lj q⟩
 rw[vp]
 refine ef rfl ?_
 refine dD rfl (dz ⟨n,_,_,rfl,B8,by decide,by omega,by omega,fun r9 st9 e0 e1 B9 U9=>?_⟩)
 obtain⟨at',rfl⟩:=Int.eq_ofNat_of_zero_le e0
 have hat:at'≤top:=by omega
 have W9:=W7.xu B9 (XU.upd (U8.trans U9))
 clear W7 B8 B9 U8 U9
 have lz:=(Mx.md (t:= -1) (r0.trans rj.symm)).trans r0
 have hS:Mx.bK (top+1) w (Mx.dh (F.getD 0 []) (-1) (F.getD j [])::F):=⟨by rw[List.length_cons,lF],fun r hr=>by
  rcases List.mem_cons.mp hr with rfl|hr
  · exact lz
  · exact h.is.j5 r hr⟩
 obtain⟨lowS,roomS,isS⟩:=h.sum (A:=Mx.dh (F.getD 0 []) (-1) (F.getD j [])::F) hj (by omega) w8 hS (fun q=>by
  show(Mx.dh (F.getD 0 []) (-1) (F.getD j [])).getD q 0=_
  rw[Mx.nB (r0.trans rj.symm),Int.neg_mul,Int.one_mul];rfl) (fun i q _=>rfl) (z:=60000000) (by decide)
 refine⟨Nat.le_of_ble_eq_true rfl,kY (bU (by rw[List.length_singleton];omega)) ?_⟩
 obtain⟨f9,t9⟩:=W9.tb
 refine⟨c_ (Mx.dh (F.getD 0 []) (-1) (F.getD j [])::F),top+1,w,_,60000000,_,f9,rfl,jF,hS,by omega,by omega,by omega,lowS,Nat.le_refl _,roomS,t9,fun st10 top10 c10 hC10 K10=>?_⟩
 rw[isS _ _ hC10]
 have W10:=W9.bk K10
 clear W9 K10 t9 f9 hC10 isS roomS lowS hS
 refine ma fL ?_
 refine kn ?_
 rw[rQ]
 refine⟨Nat.le_of_ble_eq_true rfl,qk ⟨by omega,by omega,bU (by simp;omega)⟩ ?_⟩
 rw[Int.toNat_natCast,oU]
 refine⟨Nat.le_of_ble_eq_true rfl,qk ⟨by decide,by decide,Nat.le_of_ble_eq_true rfl⟩ (kY (bU (by rw[List.length_take];simp;omega)) (kn ?_))⟩
 rw[tE]
 refine kY (bU (by rw[List.length_append,List.length_take,List.length_drop];simp;omega)) ?_
 have ec:(F.map cv).take at'++(List.replicate (2:Int).toNat [D.tup (aE (List.replicate w 0))]).flatten++(F.map cv).drop at'=(F.take at'++[List.replicate w 0,List.replicate w 0]++F.drop at').map cv:=tx (R:=[List.replicate w 0,List.replicate w 0])
 rw[ec]
 have P:=Mx.gS.Bx h.is hat
 have hZ:Mx.bK (top+2) w (F.take at'++[List.replicate w 0,List.replicate w 0]++F.drop at'):=Mx.x_ h.is (fun r hr=>by
  have:r=List.replicate w 0:=by simpa using hr
  rw[this,List.length_replicate]) hat (by show at'+2+(top-at')=top+2;omega)
 obtain⟨f10,t10⟩:=W10.tb
 refine⟨c_ _,top+2,w,_,60000000,_,f10,rfl,jF,hZ,by omega,by omega,by omega,h.low P,Nat.le_refl _,h.iI P hZ (by omega) w8 (by decide),t10,fun st11 top11 c11 hC11 K11=>?_⟩
 rw[h.picked P hZ (by omega) (fun f hf=>Mx.uM hat f hf) hC11]
 refine pk fL fL ?_
 rw[oV,decide_eq_true rfl]
 exact k _
end Prog
namespace Row
open PySem L2 L3 Prog
open PySem.Spec hiding items?
open PyProof.Rows hiding St
def top(i:Nat):Stmt:=PySem.Challenge.pw_latticeworks_k13_one_form.main.body.getD i (.Pass ⟨0,0,0,0⟩)
theorem eg:(("tuple":Str))≠"__name__":=by decide+kernel
theorem jN:(("list":Str))≠"__name__":=by decide+kernel
theorem dA:(("len":Str))≠"__name__":=by decide+kernel
theorem yi:(("abs":Str))≠"__name__":=by decide+kernel
structure Bl(mg:Str→Option Value):Prop where
 ff:mg "tuple"=none
 ny:mg "zip"=none
 fW:mg "range"=none
 lr:mg "list"=none
 eH:mg "len"=none
 An:mg "abs"=none
 zt:mg "sorted"=none
structure ClsAt(K:PySem.W.Frag)(mg:Str→Option Value)(x:Str)(C:Addr):Prop where
 cl:kr K C
 mg:mg x=some (.ref C)
 Gy:PySem.W.makesIn K C=true
 kp:PySem.W.keepIn K (.ref C)=true
structure MethAt(K:PySem.W.Frag)(C:Addr)(m qual:Str)(st:Stmt)(ps:List Str)(f:Addr)(fd:FuncData):Prop where
 fn:k_ K m qual st f fd
 me:Meth K C m f
 bd:Binds K fd ps []
structure Kl(K:PySem.W.Frag)(mg:Str→Option Value):Prop where
 aT:ClsAt K mg "Bench" ak
 bq:fF K ak "body"
 cG:fF K ak "turn"
 bo:fF K ak "back_columns"
section
variable {P:Program}{w:World}{K:PySem.W.Frag}{mg:Str→Option Value}{base:Heap}
abbrev eO:Stmt:=top 1
theorem m_:VS (ai eO) ky ["tuple"]:=⟨by decide+kernel⟩
theorem wF:bw ky ["rows"] (ai eO):=⟨rfl,rfl,rfl,by decide+kernel,rfl,by decide+kernel,by decide+kernel⟩
theorem vO{f:Addr}{fd:FuncData}(B:Bl mg)(Q:Kl K mg)(F:aI K mg "as_rows" "as_rows" eO ["rows"] f fd):
 aB P w K mg base aU 1 f fd ["rows"] (aX ie):=
 cW (N:=ky) F.fn wF (fun cdv A outer s H E hr=>(aP (bV (f_ fe (ae (eA (Nc:=["row"]) (bj.look (ai eO) ["rows"] (by decide+kernel)) (gh (m_.nm 0)) (fun _ _ _ _=>(eJ (show(["row"]:List Str).Nodup by decide+kernel) (by first|exact Or.inl rfl|exact Or.inr rfl) (by first|exact .inl rfl|exact .inr rfl))) (fun _ _ _ _=>cz) (fun _ _ _ _=>(f_ fe (ae cP ao) B.ff rfl eg (by decide+kernel) rfl)) cw) ao) B.ff rfl eg (m_.d 0) (m_.g 0))))) wg
abbrev fY:Stmt:=top 2
theorem p8:VS (ai fY) nH ["zip"]:=⟨by decide+kernel⟩
theorem yx:bw nH ["row","times","other"] (ai fY):=⟨rfl,rfl,rfl,by decide+kernel,rfl,by decide+kernel,by decide+kernel⟩
theorem zo{f:Addr}{fd:FuncData}(B:Bl mg)(Q:Kl K mg)(F:aI K mg "added" "added" fY ["row","times","other"] f fd):
 aB P w K mg base aU 1 f fd ["row","times","other"] (aX iN):=
 cW (N:=nH) F.fn yx (fun cdv A outer s H E hr=>(aP (bV (eA (Nc:=["one","two","times"]) (bj.look (ai fY) ["row","times","other"] (by decide+kernel)) (nz (p8.g 0) B.ny (ae (p8.nm 0) (ae (p8.nm 2) ao))) (fun _ _ _ _=>(kB rfl (show(["one","two","times"]:List Str).Nodup by decide+kernel) (by first|exact Or.inl rfl|exact Or.inr rfl) (by first|exact .inl rfl|exact .inr rfl) (by first|exact Or.inl rfl|exact Or.inr rfl) (by first|exact .inl rfl|exact .inr rfl))) (fun _ _ _ _=>cz) (fun _ _ _ _=>(bh dq cP (bh eD cP cP))) kM)))) zC
abbrev fy:Stmt:=top 3
theorem oG:VS (ai fy) mf ["tuple"]:=⟨by decide+kernel⟩
theorem xG:bw mf ["rows","place"] (ai fy):=⟨rfl,rfl,rfl,by decide+kernel,rfl,by decide+kernel,by decide+kernel⟩
theorem x9{f:Addr}{fd:FuncData}(B:Bl mg)(Q:Kl K mg)(F:aI K mg "column" "column" fy ["rows","place"] f fd):
 aB P w K mg base aU 1 f fd ["rows","place"] (aX j_):=
 cW (N:=mf) F.fn xG (fun cdv A outer s H E hr=>(aP (bV (f_ fe (ae (eA (Nc:=["row","place"]) (bj.look (ai fy) ["rows","place"] (by decide+kernel)) (gh (oG.nm 0)) (fun _ _ _ _=>(eJ (show(["row","place"]:List Str).Nodup by decide+kernel) (by first|exact Or.inl rfl|exact Or.inr rfl) (by first|exact .inl rfl|exact .inr rfl))) (fun _ _ _ _=>cz) (fun _ _ _ _=>(bg cP cP)) cw) ao) B.ff rfl eg (oG.d 0) (oG.g 0))))) xa
abbrev cS:Stmt:=top 4
theorem g6:VS (ai cS) g7 ["range","tuple"]:=⟨by decide+kernel⟩
theorem qg:bw g7 ["rows","wide"] (ai cS):=⟨rfl,rfl,rfl,by decide+kernel,rfl,by decide+kernel,by decide+kernel⟩
theorem qj{f:Addr}{fd:FuncData}(B:Bl mg)(Q:Kl K mg)(F:aI K mg "turned_over" "turned_over" cS ["rows","wide"] f fd){a_column:Addr}{d_column:FuncData}(D_column:aI K mg "column" "column" fy ["rows","place"] a_column d_column)(G_column:aB P w K mg base aU 1 a_column d_column ["rows","place"] (aX j_)):
 aB P w K mg base aU 2 f fd ["rows","wide"] (aX fS):=
 cW (N:=g7) F.fn qg (fun cdv A outer s H E hr=>(aP (bV (f_ fe (ae (eA (Nc:=["place","rows"]) (bj.look (ai cS) ["rows","wide"] (by decide+kernel)) (fP (g6.g 0) B.fW (ae (g6.nm 1) ao)) (fun _ _ _ _=>(eJ (show(["place","rows"]:List Str).Nodup by decide+kernel) (by first|exact Or.inl rfl|exact Or.inr rfl) (by first|exact .inl rfl|exact .inr rfl))) (fun _ _ _ _=>cz) (fun _ _ _ _=>(bI D_column G_column (hr.mono (by decide)) (ae cP (ae cP ao)) (by decide+kernel) rfl)) cw) ao) B.ff rfl eg (g6.d 1) (g6.g 1))))) ql
abbrev dR:Stmt:=top 5
theorem jx:VS (ai dR) jw ["range","tuple"]:=⟨by decide+kernel⟩
theorem um:bw jw ["n","place"] (ai dR):=⟨rfl,rfl,rfl,by decide+kernel,rfl,by decide+kernel,by decide+kernel⟩
theorem ur{f:Addr}{fd:FuncData}(B:Bl mg)(Q:Kl K mg)(F:aI K mg "unit_row" "unit_row" dR ["n","place"] f fd):
 aB P w K mg base aU 1 f fd ["n","place"] (aX iB):=
 cW (N:=jw) F.fn um (fun cdv A outer s H E hr=>(aP (bV (f_ fe (ae (eA (Nc:=["k","place"]) (bj.look (ai dR) ["n","place"] (by decide+kernel)) (fP (jx.g 0) B.fW (ae (jx.nm 0) ao)) (fun _ _ _ _=>(eJ (show(["k","place"]:List Str).Nodup by decide+kernel) (by first|exact Or.inl rfl|exact Or.inr rfl) (by first|exact .inl rfl|exact .inr rfl))) (fun _ _ _ _=>cz) (fun _ _ _ _=>(Fd (bX (gW hr) (bB _) cP cP) aq aq)) cw) ao) B.ff rfl eg (jx.d 1) (jx.g 1))))) ux
abbrev dw:Stmt:=top 6
theorem iY:VS (ai dw) iV ["range","tuple"]:=⟨by decide+kernel⟩
theorem sx:bw iV ["n"] (ai dw):=⟨rfl,rfl,rfl,by decide+kernel,rfl,by decide+kernel,by decide+kernel⟩
theorem t8{f:Addr}{fd:FuncData}(B:Bl mg)(Q:Kl K mg)(F:aI K mg "unit_rows" "unit_rows" dw ["n"] f fd){a_unit_row:Addr}{d_unit_row:FuncData}(D_unit_row:aI K mg "unit_row" "unit_row" dR ["n","place"] a_unit_row d_unit_row)(G_unit_row:aB P w K mg base aU 1 a_unit_row d_unit_row ["n","place"] (aX iB)):
 aB P w K mg base aU 2 f fd ["n"] (aX fZ):=
 cW (N:=iV) F.fn sx (fun cdv A outer s H E hr=>(aP (bV (f_ fe (ae (eA (Nc:=["place","n"]) (bj.look (ai dw) ["n"] (by decide+kernel)) (fP (iY.g 0) B.fW (ae (iY.nm 0) ao)) (fun _ _ _ _=>(eJ (show(["place","n"]:List Str).Nodup by decide+kernel) (by first|exact Or.inl rfl|exact Or.inr rfl) (by first|exact .inl rfl|exact .inr rfl))) (fun _ _ _ _=>cz) (fun _ _ _ _=>(bI D_unit_row G_unit_row (hr.mono (by decide)) (ae cP (ae cP ao)) (by decide+kernel) rfl)) cw) ao) B.ff rfl eg (iY.d 1) (iY.g 1))))) tH
abbrev ck:Stmt:=top 8
theorem gq:VS (ai ck) fi []:=⟨by decide+kernel⟩
theorem gc:bw fi ["top","bottom"] (ai ck):=⟨rfl,rfl,rfl,by decide+kernel,rfl,by decide+kernel,by decide+kernel⟩
theorem mB{f:Addr}{fd:FuncData}(B:Bl mg)(Q:Kl K mg)(F:aI K mg "nearest_quotient" "nearest_quotient" ck ["top","bottom"] f fd):
 aB P w K mg base aU 1 f fd ["top","bottom"] (aX d7):=
 cW (N:=fi) F.fn gc (fun cdv A outer s H E hr=>(aP (bV (bh (vo hr rfl gc.gen gc.co) (bh dq (bh eD aq (gq.nm 0)) (gq.nm 1)) (bh eD aq (gq.nm 1)))))) my
abbrev dS:Stmt:=top 9
theorem cJ:VS (ai dS) i6 ["list"]:=⟨by decide+kernel⟩
theorem ni:bw i6 ["rows","k","other"] (ai dS):=⟨rfl,rfl,rfl,by decide+kernel,rfl,by decide+kernel,by decide+kernel⟩
theorem tI{f:Addr}{fd:FuncData}(B:Bl mg)(Q:Kl K mg)(F:aI K mg "exchanged" "exchanged" dS ["rows","k","other"] f fd):
 aB P w K mg base aU 1 f fd ["rows","k","other"] (aX fv):=
 cW (N:=i6) F.fn ni (fun cdv A outer s H E hr=>(ax (bO ni.nd (cJ.l 3) (f_ Bh (ae (cJ.nm 0) ao) B.lr rfl jN (cJ.d 0) (cJ.g 0)))
  (ax (eh (bg (cJ.nm 0) (cJ.nm 2)) (cJ.nm 3) (cJ.nm 1))
  (ax (eh (bg (cJ.nm 0) (cJ.nm 1)) (cJ.nm 3) (cJ.nm 2))
  (aP (bV (cJ.nm 3))))))) tL
abbrev eN:Stmt:=top 10
theorem x6:VS (ai eN) kc []:=⟨by decide+kernel⟩
theorem wx:bw kc ["row"] (ai eN):=⟨rfl,rfl,rfl,by decide+kernel,rfl,by decide+kernel,by decide+kernel⟩
theorem wy{f:Addr}{fd:FuncData}(B:Bl mg)(Q:Kl K mg)(F:aI K mg "negated" "negated" eN ["row"] f fd):
 aB P w K mg base aU 1 f fd ["row"] (aX gu):=
 cW (N:=kc) F.fn wx (fun cdv A outer s H E hr=>(aP (bV (eA (Nc:=["number"]) (bj.look (ai eN) ["row"] (by decide+kernel)) (gh (x6.nm 0)) (fun _ _ _ _=>(eJ (show(["number"]:List Str).Nodup by decide+kernel) (by first|exact Or.inl rfl|exact Or.inr rfl) (by first|exact .inl rfl|exact .inr rfl))) (fun _ _ _ _=>cz) (fun _ _ _ _=>(iZ cP)) cw)))) vK
abbrev bQ:Stmt:=inClass (top 11) 0
theorem bx:VS (ai bQ) fR ["len","unit_rows"]:=⟨by decide+kernel⟩
theorem nX:bw fR ["self","rows"] (ai bQ):=⟨rfl,rfl,rfl,by decide+kernel,rfl,by decide+kernel,by decide+kernel⟩
theorem nU{f:Addr}{fd:FuncData}(B:Bl mg)(Q:Kl K mg)(F:MethAt K ak "__init__" "Bench.__init__" bQ ["self","rows"] f fd){a_unit_rows:Addr}{d_unit_rows:FuncData}(D_unit_rows:aI K mg "unit_rows" "unit_rows" dw ["n"] a_unit_rows d_unit_rows)(G_unit_rows:aB P w K mg base aU 2 a_unit_rows d_unit_rows ["n"] (aX fZ)):
 aB P w K mg base aU 3 f fd ["self","rows"] (aX eR):=
 cW (N:=fR) F.fn nX (fun cdv A outer s H E hr=>(ax (jK Q.aT.cl Q.bq (bx.nm 0) (qh (Nc:=["row"]) (bj.look (ai bQ) ["self","rows"] (by decide+kernel)) (gh (bx.nm 1)) (fun _ _ _ _=>(eJ (show(["row"]:List Str).Nodup by decide+kernel) (by first|exact Or.inl rfl|exact Or.inr rfl) (by first|exact .inl rfl|exact .inr rfl))) (fun _ _ _ _=>cz) (fun _ _ _ _=>(f_ mK (ae cP ao) B.lr rfl jN (by decide+kernel) rfl)) cw))
  (ax (jK Q.aT.cl Q.cG (bx.nm 0) (qh (Nc:=["row"]) (bj.look (ai bQ) ["self","rows"] (by decide+kernel)) (gh (bI D_unit_rows G_unit_rows (hr.mono (by decide)) (ae (fu eG (ae (bx.nm 1) ao) B.eH rfl dA (bx.d 0) (bx.g 0)) ao) (bx.d 1) (bx.g 1))) (fun _ _ _ _=>(eJ (show(["row"]:List Str).Nodup by decide+kernel) (by first|exact Or.inl rfl|exact Or.inr rfl) (by first|exact .inl rfl|exact .inr rfl))) (fun _ _ _ _=>cz) (fun _ _ _ _=>(f_ mK (ae cP ao) B.lr rfl jN (by decide+kernel) rfl)) cw))
  (aP (jK Q.aT.cl Q.bo (bx.nm 0) (qh (Nc:=["row"]) (bj.look (ai bQ) ["self","rows"] (by decide+kernel)) (gh (bI D_unit_rows G_unit_rows (hr.mono (by decide)) (ae (fu eG (ae (bx.nm 1) ao) B.eH rfl dA (bx.d 0) (bx.g 0)) ao) (bx.d 1) (bx.g 1))) (fun _ _ _ _=>(eJ (show(["row"]:List Str).Nodup by decide+kernel) (by first|exact Or.inl rfl|exact Or.inr rfl) (by first|exact .inl rfl|exact .inr rfl))) (fun _ _ _ _=>cz) (fun _ _ _ _=>(f_ mK (ae cP ao) B.lr rfl jN (by decide+kernel) rfl)) cw)))))) nY
abbrev dg:Stmt:=inClass (top 11) 1
theorem aQ:VS (ai dg) iJ ["added"]:=⟨by decide+kernel⟩
theorem rq:bw iJ ["self","k","times","other"] (ai dg):=⟨rfl,rfl,rfl,by decide+kernel,rfl,by decide+kernel,by decide+kernel⟩
theorem q_{f:Addr}{fd:FuncData}(B:Bl mg)(Q:Kl K mg)(F:MethAt K ak "take" "Bench.take" dg ["self","k","times","other"] f fd){a_added:Addr}{d_added:FuncData}(D_added:aI K mg "added" "added" fY ["row","times","other"] a_added d_added)(G_added:aB P w K mg base aU 1 a_added d_added ["row","times","other"] (aX iN)):
 aB P w K mg base aU 2 f fd ["self","k","times","other"] (aX eW):=
 cW (N:=iJ) F.fn rq (fun cdv A outer s H E hr=>(ax (eh (bI D_added G_added (hr.mono (by decide)) (ae (bg (cM Q.aT.cl Q.bq (aQ.nm 0)) (aQ.nm 1)) (ae (iZ (aQ.nm 2)) (ae (bg (cM Q.aT.cl Q.bq (aQ.nm 0)) (aQ.nm 3)) ao))) (aQ.d 0) (aQ.g 0)) (cM Q.aT.cl Q.bq (aQ.nm 0)) (aQ.nm 1))
  (ax (eh (bI D_added G_added (hr.mono (by decide)) (ae (bg (cM Q.aT.cl Q.cG (aQ.nm 0)) (aQ.nm 1)) (ae (iZ (aQ.nm 2)) (ae (bg (cM Q.aT.cl Q.cG (aQ.nm 0)) (aQ.nm 3)) ao))) (aQ.d 0) (aQ.g 0)) (cM Q.aT.cl Q.cG (aQ.nm 0)) (aQ.nm 1))
  (aP (eh (bI D_added G_added (hr.mono (by decide)) (ae (bg (cM Q.aT.cl Q.bo (aQ.nm 0)) (aQ.nm 3)) (ae (aQ.nm 2) (ae (bg (cM Q.aT.cl Q.bo (aQ.nm 0)) (aQ.nm 1)) ao))) (aQ.d 0) (aQ.g 0)) (cM Q.aT.cl Q.bo (aQ.nm 0)) (aQ.nm 3)))))) rl
abbrev cB:Stmt:=inClass (top 11) 2
theorem aZ:VS (ai cB) fN ["exchanged"]:=⟨by decide+kernel⟩
theorem n_:bw fN ["self","k","other"] (ai cB):=⟨rfl,rfl,rfl,by decide+kernel,rfl,by decide+kernel,by decide+kernel⟩
theorem nW{f:Addr}{fd:FuncData}(B:Bl mg)(Q:Kl K mg)(F:MethAt K ak "exchange" "Bench.exchange" cB ["self","k","other"] f fd){a_exchanged:Addr}{d_exchanged:FuncData}(D_exchanged:aI K mg "exchanged" "exchanged" dS ["rows","k","other"] a_exchanged d_exchanged)(G_exchanged:aB P w K mg base aU 1 a_exchanged d_exchanged ["rows","k","other"] (aX fv)):
 aB P w K mg base aU 2 f fd ["self","k","other"] (aX eX):=
 cW (N:=fN) F.fn n_ (fun cdv A outer s H E hr=>(ax (jK Q.aT.cl Q.bq (aZ.nm 0) (bI D_exchanged G_exchanged (hr.mono (by decide)) (ae (cM Q.aT.cl Q.bq (aZ.nm 0)) (ae (aZ.nm 1) (ae (aZ.nm 2) ao))) (aZ.d 0) (aZ.g 0)))
  (ax (jK Q.aT.cl Q.cG (aZ.nm 0) (bI D_exchanged G_exchanged (hr.mono (by decide)) (ae (cM Q.aT.cl Q.cG (aZ.nm 0)) (ae (aZ.nm 1) (ae (aZ.nm 2) ao))) (aZ.d 0) (aZ.g 0)))
  (aP (jK Q.aT.cl Q.bo (aZ.nm 0) (bI D_exchanged G_exchanged (hr.mono (by decide)) (ae (cM Q.aT.cl Q.bo (aZ.nm 0)) (ae (aZ.nm 1) (ae (aZ.nm 2) ao))) (aZ.d 0) (aZ.g 0))))))) nZ
abbrev b_:Stmt:=inClass (top 11) 3
theorem aK:VS (ai b_) e8 ["negated"]:=⟨by decide+kernel⟩
theorem lV:bw e8 ["self","k"] (ai b_):=⟨rfl,rfl,rfl,by decide+kernel,rfl,by decide+kernel,by decide+kernel⟩
theorem mn{f:Addr}{fd:FuncData}(B:Bl mg)(Q:Kl K mg)(F:MethAt K ak "change_sign" "Bench.change_sign" b_ ["self","k"] f fd){a_negated:Addr}{d_negated:FuncData}(D_negated:aI K mg "negated" "negated" eN ["row"] a_negated d_negated)(G_negated:aB P w K mg base aU 1 a_negated d_negated ["row"] (aX gu)):
 aB P w K mg base aU 2 f fd ["self","k"] (aX dM):=
 cW (N:=e8) F.fn lV (fun cdv A outer s H E hr=>(ax (eh (bI D_negated G_negated (hr.mono (by decide)) (ae (bg (cM Q.aT.cl Q.bq (aK.nm 0)) (aK.nm 1)) ao) (aK.d 0) (aK.g 0)) (cM Q.aT.cl Q.bq (aK.nm 0)) (aK.nm 1))
  (ax (eh (bI D_negated G_negated (hr.mono (by decide)) (ae (bg (cM Q.aT.cl Q.cG (aK.nm 0)) (aK.nm 1)) ao) (aK.d 0) (aK.g 0)) (cM Q.aT.cl Q.cG (aK.nm 0)) (aK.nm 1))
  (aP (eh (bI D_negated G_negated (hr.mono (by decide)) (ae (bg (cM Q.aT.cl Q.bo (aK.nm 0)) (aK.nm 1)) ao) (aK.d 0) (aK.g 0)) (cM Q.aT.cl Q.bo (aK.nm 0)) (aK.nm 1)))))) lP
abbrev bH:Stmt:=inClass (top 11) 4
theorem cK:VS (ai bH) fz ["len","range","sorted"]:=⟨by decide+kernel⟩
theorem ji:bw fz ["self","top","place"] (ai bH):=⟨rfl,rfl,rfl,by decide+kernel,rfl,by decide+kernel,by decide+kernel⟩
theorem mJ{f:Addr}{fd:FuncData}(B:Bl mg)(Q:Kl K mg)(F:MethAt K ak "live_rows" "Bench.live_rows" bH ["self","top","place"] f fd)(FC:CH K "live_rows" "Bench.live_rows" bH f fd 100)(hC:PySem.W.codeHdIn K 100 98=true):
 aB P w K mg base aU 3 f fd ["self","top","place"] (aX dH):=
 CD (N:=fz) FC ji (fun A outer s H E hr=>(ax (kX ji.nd (cK.l 3) (Nc:=["k","self","place"]) (bj.look (ai bH) ["self","top","place","live"] (by decide+kernel)) (yG (cK.g 1) B.fW (ae (cK.nm 1) (ae (fu eG (ae (cM Q.aT.cl Q.bq (cK.nm 0)) ao) B.eH rfl dA (cK.d 0) (cK.g 0)) ao))) (fun _ _ _ _=>(eJ (show(["k","self","place"]:List Str).Nodup by decide+kernel) (by first|exact Or.inl rfl|exact Or.inr rfl) (by first|exact .inl rfl|exact .inr rfl))) (fun _ _ _ _=>(tZ (bX ze (bB _) (bg (bg (cM Q.aT.cl Q.bq cP) cP) cP) aq))) (fun _ _ _ _=>cP) cw)
  (aP (bV (AM (c0:=100) (js.look (Nc:=["k","self","place"]) (fr:=[none,some 0,some 2]) (p:="k") (bj.look (ai bH) ["self","top","place","live"] (by decide+kernel))) rfl hr rfl hC (fun _ _ _ _=>(fu zL (ae (bg (bg (cM Q.aT.cl Q.bq cP) cP) cP) ao) B.An rfl yi (by decide+kernel) rfl)) (cK.nm 3) (cK.g 2) B.zt))))) mN
abbrev cX:Stmt:=inClass (top 11) 5
theorem aw:VS (ai cX) gK ["len","nearest_quotient"]:=⟨by decide+kernel⟩
theorem fm:bw gK ["self","top","place"] (ai cX):=⟨rfl,rfl,rfl,by decide+kernel,rfl,by decide+kernel,by decide+kernel⟩
theorem pH{f:Addr}{fd:FuncData}(B:Bl mg)(Q:Kl K mg)(F:MethAt K ak "gather" "Bench.gather" cX ["self","top","place"] f fd){a_Bench_live_rows:Addr}{d_Bench_live_rows:FuncData}(D_Bench_live_rows:MethAt K ak "live_rows" "Bench.live_rows" bH ["self","top","place"] a_Bench_live_rows d_Bench_live_rows)(G_Bench_live_rows:aB P w K mg base aU 3 a_Bench_live_rows d_Bench_live_rows ["self","top","place"] (aX dH)){a_nearest_quotient:Addr}{d_nearest_quotient:FuncData}(D_nearest_quotient:aI K mg "nearest_quotient" "nearest_quotient" ck ["top","bottom"] a_nearest_quotient d_nearest_quotient)(G_nearest_quotient:aB P w K mg base aU 1 a_nearest_quotient d_nearest_quotient ["top","bottom"] (aX d7)){a_Bench_take:Addr}{d_Bench_take:FuncData}(D_Bench_take:MethAt K ak "take" "Bench.take" dg ["self","k","times","other"] a_Bench_take d_Bench_take)(G_Bench_take:aB P w K mg base aU 2 a_Bench_take d_Bench_take ["self","k","times","other"] (aX eW)){a_Bench_exchange:Addr}{d_Bench_exchange:FuncData}(D_Bench_exchange:MethAt K ak "exchange" "Bench.exchange" cB ["self","k","other"] a_Bench_exchange d_Bench_exchange)(G_Bench_exchange:aB P w K mg base aU 2 a_Bench_exchange d_Bench_exchange ["self","k","other"] (aX eX)){a_Bench_change_sign:Addr}{d_Bench_change_sign:FuncData}(D_Bench_change_sign:MethAt K ak "change_sign" "Bench.change_sign" b_ ["self","k"] a_Bench_change_sign d_Bench_change_sign)(G_Bench_change_sign:aB P w K mg base aU 2 a_Bench_change_sign d_Bench_change_sign ["self","k"] (aX dM)):
 aB P w K mg base aU 4 f fd ["self","top","place"] (aX fH):=
 cW (N:=gK) F.fn fm (fun cdv A outer s H E hr=>(ax (bO fm.nd (aw.l 3) (jc (aw.nm 0) Q.aT.cl D_Bench_live_rows.me G_Bench_live_rows (hr.mono (by decide)) D_Bench_live_rows.bd (ae (aw.nm 1) (ae (aw.nm 2) ao))))
  (ax (y_ (bX qi (bB _) (fu eG (ae (aw.nm 3) ao) B.eH rfl dA (aw.d 0) (aw.g 0)) aq) (ax (bO fm.nd (aw.l 4) (bg (aw.nm 3) (iZ aq)))
  (ax (bO fm.nd (aw.l 5) (bg (aw.nm 3) (iZ aq)))
  (ax (iK (jc (aw.nm 0) Q.aT.cl D_Bench_take.me G_Bench_take (hr.mono (by decide)) D_Bench_take.bd (ae (aw.nm 4) (ae (bI D_nearest_quotient G_nearest_quotient (hr.mono (by decide)) (ae (bg (bg (cM Q.aT.cl Q.bq (aw.nm 0)) (aw.nm 4)) (aw.nm 2)) (ae (bg (bg (cM Q.aT.cl Q.bq (aw.nm 0)) (aw.nm 5)) (aw.nm 2)) ao)) (aw.d 1) (aw.g 1)) (ae (aw.nm 5) ao)))))
  (aP (bO fm.nd (aw.l 3) (jc (aw.nm 0) Q.aT.cl D_Bench_live_rows.me G_Bench_live_rows (hr.mono (by decide)) D_Bench_live_rows.bd (ae (aw.nm 1) (ae (aw.nm 2) ao)))))))))
  (ax (dQ (bX (gW hr) (bB _) (fu eG (ae (aw.nm 3) ao) B.eH rfl dA (aw.d 0) (aw.g 0)) aq) (aP (bV qb)) di)
  (ax (iK (jc (aw.nm 0) Q.aT.cl D_Bench_exchange.me G_Bench_exchange (hr.mono (by decide)) D_Bench_exchange.bd (ae (aw.nm 1) (ae (bg (aw.nm 3) aq) ao))))
  (ax (dQ (bX s_ (bB _) (bg (bg (cM Q.aT.cl Q.bq (aw.nm 0)) (aw.nm 1)) (aw.nm 2)) aq) (aP (iK (jc (aw.nm 0) Q.aT.cl D_Bench_change_sign.me G_Bench_change_sign (hr.mono (by decide)) D_Bench_change_sign.bd (ae (aw.nm 1) ao)))) di)
  (aP (bV qb)))))))) pE
abbrev bZ:Stmt:=inClass (top 11) 6
theorem bD:VS (ai bZ) e9 ["range"]:=⟨by decide+kernel⟩
theorem eF:bw e9 ["self","top","place"] (ai bZ):=⟨rfl,rfl,rfl,by decide+kernel,rfl,by decide+kernel,by decide+kernel⟩
theorem mj{f:Addr}{fd:FuncData}(B:Bl mg)(Q:Kl K mg)(F:MethAt K ak "lower_above" "Bench.lower_above" bZ ["self","top","place"] f fd){a_Bench_take:Addr}{d_Bench_take:FuncData}(D_Bench_take:MethAt K ak "take" "Bench.take" dg ["self","k","times","other"] a_Bench_take d_Bench_take)(G_Bench_take:aB P w K mg base aU 2 a_Bench_take d_Bench_take ["self","k","times","other"] (aX eW)):
 aB P w K mg base aU 3 f fd ["self","top","place"] (aX dN):=
 cW (N:=e9) F.fn eF (fun cdv A outer s H E hr=>(aP (mH (fP (bD.g 0) B.fW (ae (bD.nm 1) ao)) (eJ eF.nd (by first|exact Or.inl rfl|exact Or.inr rfl) (by first|exact .inl rfl|exact .inr rfl)) (aP (iK (jc (bD.nm 0) Q.aT.cl D_Bench_take.me G_Bench_take (hr.mono (by decide)) D_Bench_take.bd (ae (bD.nm 3) (ae (bh (vo hr rfl eF.gen eF.co) (bg (bg (cM Q.aT.cl Q.bq (bD.nm 0)) (bD.nm 3)) (bD.nm 2)) (bg (bg (cM Q.aT.cl Q.bq (bD.nm 0)) (bD.nm 1)) (bD.nm 2))) (ae (bD.nm 1) ao))))))))) l_
abbrev eE:Stmt:=top 12
theorem aW:VS (ai eE) jy ["Bench","len","range","turned_over","as_rows"]:=⟨by decide+kernel⟩
theorem fV:bw jy ["rows"] (ai eE):=⟨rfl,rfl,rfl,by decide+kernel,rfl,by decide+kernel,by decide+kernel⟩
theorem uo{f:Addr}{fd:FuncData}(B:Bl mg)(Q:Kl K mg)(F:aI K mg "standing" "standing" eE ["rows"] f fd){a_Bench___init__:Addr}{d_Bench___init__:FuncData}(D_Bench___init__:MethAt K ak "__init__" "Bench.__init__" bQ ["self","rows"] a_Bench___init__ d_Bench___init__)(G_Bench___init__:aB P w K mg base aU 3 a_Bench___init__ d_Bench___init__ ["self","rows"] (aX eR)){a_Bench_gather:Addr}{d_Bench_gather:FuncData}(D_Bench_gather:MethAt K ak "gather" "Bench.gather" cX ["self","top","place"] a_Bench_gather d_Bench_gather)(G_Bench_gather:aB P w K mg base aU 4 a_Bench_gather d_Bench_gather ["self","top","place"] (aX fH)){a_Bench_lower_above:Addr}{d_Bench_lower_above:FuncData}(D_Bench_lower_above:MethAt K ak "lower_above" "Bench.lower_above" bZ ["self","top","place"] a_Bench_lower_above d_Bench_lower_above)(G_Bench_lower_above:aB P w K mg base aU 3 a_Bench_lower_above d_Bench_lower_above ["self","top","place"] (aX dN)){a_turned_over:Addr}{d_turned_over:FuncData}(D_turned_over:aI K mg "turned_over" "turned_over" cS ["rows","wide"] a_turned_over d_turned_over)(G_turned_over:aB P w K mg base aU 2 a_turned_over d_turned_over ["rows","wide"] (aX fS)){a_as_rows:Addr}{d_as_rows:FuncData}(D_as_rows:aI K mg "as_rows" "as_rows" eO ["rows"] a_as_rows d_as_rows)(G_as_rows:aB P w K mg base aU 1 a_as_rows d_as_rows ["rows"] (aX ie)):
 aB P w K mg base aU 5 f fd ["rows"] (aX iD):=
 cW (N:=jy) F.fn fV (fun cdv A outer s H E hr=>(ax (bO fV.nd (aW.l 1) (Dl ⟨Q.aT.Gy,D_Bench___init__.me.at_,D_Bench___init__.me.fn,Q.aT.kp⟩ G_Bench___init__ (hr.mono (by decide)) (aW.g 0) Q.aT.mg D_Bench___init__.bd (ae (aW.nm 0) ao) (aW.d 0)))
  (ax (bO fV.nd (aW.l 2) aq)
  (ax (mH (fP (aW.g 2) B.fW (ae (fu eG (ae (bg (aW.nm 0) aq) ao) B.eH rfl dA (aW.d 1) (aW.g 1)) ao)) (eJ fV.nd (by first|exact Or.inl rfl|exact Or.inr rfl) (by first|exact .inl rfl|exact .inr rfl)) (aP (dQ (xQ (jc (aW.nm 1) Q.aT.cl D_Bench_gather.me G_Bench_gather (hr.mono (by decide)) D_Bench_gather.bd (ae (aW.nm 2) (ae (aW.nm 3) ao)))) (ax (iK (jc (aW.nm 1) Q.aT.cl D_Bench_lower_above.me G_Bench_lower_above (hr.mono (by decide)) D_Bench_lower_above.bd (ae (aW.nm 2) (ae (aW.nm 3) ao))))
  (aP (C5 fV.nd (aW.l 2) aq Du))) di)))
  (ax (bO fV.nd (aW.l 4) (bI D_turned_over G_turned_over (hr.mono (by decide)) (ae (cM Q.aT.cl Q.bo (aW.nm 1)) (ae (fu eG (ae (aW.nm 0) ao) B.eH rfl dA (aW.d 1) (aW.g 1)) ao)) (aW.d 3) (aW.g 3)))
  (aP (bV (g8 (ae (bI D_as_rows G_as_rows (hr.mono (by decide)) (ae (jH (cM Q.aT.cl Q.bq (aW.nm 1)) jJ (jI (aW.nm 2))) ao) (aW.d 4) (aW.g 4)) (ae (bI D_as_rows G_as_rows (hr.mono (by decide)) (ae (cM Q.aT.cl Q.cG (aW.nm 1)) ao) (aW.d 4) (aW.g 4)) (ae (aW.nm 4) ao))))))))))) uK
abbrev dZ:Stmt:=top 14
theorem wK:VS (ai dZ) jz []:=⟨by decide+kernel⟩
theorem uz:bw jz ["_law_script"] (ai dZ):=⟨rfl,rfl,rfl,by decide+kernel,rfl,by decide+kernel,by decide+kernel⟩
theorem uF{f:Addr}{fd:FuncData}(B:Bl mg)(Q:Kl K mg)(F:aI K mg "_law_hand" "_law_hand" dZ ["_law_script"] f fd):
 aB P w K mg base aU 1 f fd ["_law_script"] (aX iA):=
 cW (N:=jz) F.fn uz (fun cdv A outer s H E hr=>(aP (bV (Aa (ae (eA (Nc:=["_law_cell"]) (bj.look (ai dZ) ["_law_script"] (by decide+kernel)) (gh (jH (wK.nm 0) jJ (jI aq))) (fun _ _ _ _=>(eJ (show(["_law_cell"]:List Str).Nodup by decide+kernel) (by first|exact Or.inl rfl|exact Or.inr rfl) (by first|exact .inl rfl|exact .inr rfl))) (fun _ _ _ _=>cz) (fun _ _ _ _=>(fu zL (ae cP ao) B.An rfl yi (by decide+kernel) rfl)) cw) (ae aq (ae aq (ae aq ao)))))))) uu
abbrev cD:Stmt:=top 15
theorem aC:VS (ai cD) jv ["len"]:=⟨by decide+kernel⟩
theorem fx:bw jv ["_law_hand_here","_law_many"] (ai cD):=⟨rfl,rfl,rfl,by decide+kernel,rfl,by decide+kernel,by decide+kernel⟩
theorem uG{f:Addr}{fd:FuncData}(B:Bl mg)(Q:Kl K mg)(F:aI K mg "_law_draw" "_law_draw" cD ["_law_hand_here","_law_many"] f fd):
 aB P w K mg base aU 1 f fd ["_law_hand_here","_law_many"] (aX aV):=
 cW (N:=jv) F.fn fx (fun cdv A outer s H E hr=>(ax (eh (bh dq (bg (aC.nm 0) aq) aq) (aC.nm 0) aq)
  (ax (dQ (bX (gW hr) (bB _) (bg (aC.nm 0) aq) aq) (ax (bO fx.nd (aC.l 2) aq)
  (ax (dQ (bX qi (bB _) (fu eG (ae (bg (aC.nm 0) aq) ao) B.eH rfl dA (aC.d 0) (aC.g 0)) aq) (aP (bO fx.nd (aC.l 2) (bg (bg (aC.nm 0) aq) (bh ki (bg (aC.nm 0) aq) (fu eG (ae (bg (aC.nm 0) aq) ao) B.eH rfl dA (aC.d 0) (aC.g 0)))))) di)
  (ax (eh (bh dq (bg (aC.nm 0) aq) aq) (aC.nm 0) aq)
  (ax (dQ (mi (zJ (bX s_ (bB _) (aC.nm 2) (bh rO aq aq)) (xF (bX qi (bB _) (bg (aC.nm 0) aq) (fu eG (ae (bg (aC.nm 0) aq) ao) B.eH rfl dA (aC.d 0) (aC.g 0)))))) (ax (bO fx.nd (aC.l 3) (bh dq (bh dq (bh ki (aC.nm 2) aq) (bh eD aq (bg (aC.nm 0) aq))) aq))
  (ax (bO fx.nd (aC.l 3) (bh ki (bh eD (aC.nm 3) (bh dq aq (bh eD aq (bg (aC.nm 0) aq)))) aq))
  (ax (bO fx.nd (aC.l 4) (bh ki (bh dq (bh eD (aC.nm 3) (bh dq (bh ki (aC.nm 3) aq) (bg (aC.nm 0) aq))) (bh eD aq (bg (aC.nm 0) aq))) aq))
  (aP (bV (bh ki (bh xi (aC.nm 4) aq) (aC.nm 1))))))) di)
  (aP (eh (aC.nm 2) (aC.nm 0) aq)))))) di)
  (ax (bO fx.nd (aC.l 5) (bh ki (bg (aC.nm 0) aq) (aC.nm 1)))
  (ax (eh (bh xi (bg (aC.nm 0) aq) (aC.nm 1)) (aC.nm 0) aq)
  (aP (bV (aC.nm 5)))))))) uC
abbrev dG:Stmt:=top 16
theorem bC:VS (ai dG) iz ["_law_draw"]:=⟨by decide+kernel⟩
theorem mr:bw iz ["_law_hand_here","_law_kind"] (ai dG):=⟨rfl,rfl,rfl,by decide+kernel,rfl,by decide+kernel,by decide+kernel⟩
theorem qZ{f:Addr}{fd:FuncData}(B:Bl mg)(Q:Kl K mg)(F:aI K mg "_law_number" "_law_number" dG ["_law_hand_here","_law_kind"] f fd){a_law_draw:Addr}{d_law_draw:FuncData}(D_law_draw:aI K mg "_law_draw" "_law_draw" cD ["_law_hand_here","_law_many"] a_law_draw d_law_draw)(G_law_draw:aB P w K mg base aU 1 a_law_draw d_law_draw ["_law_hand_here","_law_many"] (aX aV)):
 aB P w K mg base aU 2 f fd ["_law_hand_here","_law_kind"] (aX fD):=
 cW (N:=iz) F.fn mr (fun cdv A outer s H E hr=>(ax (dQ (bX (gW hr) (bB _) (bC.nm 1) aq) (ax (bO mr.nd (bC.l 2) (bh dq (bh eD (bI D_law_draw G_law_draw (hr.mono (by decide)) (ae (bC.nm 0) (ae (bh rO aq aq) ao)) (bC.d 0) (bC.g 0)) (bh rO aq aq)) (bI D_law_draw G_law_draw (hr.mono (by decide)) (ae (bC.nm 0) (ae (bh rO aq aq) ao)) (bC.d 0) (bC.g 0))))
  (aP (bV (bh eD (bC.nm 2) (bg (pN (ae aq (ae (iZ aq) (ae aq ao)))) (bI D_law_draw G_law_draw (hr.mono (by decide)) (ae (bC.nm 0) (ae aq ao)) (bC.d 0) (bC.g 0))))))) di)
  (aP (bV (bg (pN (ae aq (ae aq (ae (iZ aq) (ae (bh nM (bI D_law_draw G_law_draw (hr.mono (by decide)) (ae (bC.nm 0) (ae aq ao)) (bC.d 0) (bC.g 0)) aq) ao))))) (bI D_law_draw G_law_draw (hr.mono (by decide)) (ae (bC.nm 0) (ae aq ao)) (bC.d 0) (bC.g 0))))))) rm
abbrev dr:Stmt:=top 17
theorem aF:VS (ai dr) ju ["range","_law_draw","list","zip","tuple"]:=⟨by decide+kernel⟩
theorem dW:bw ju ["_law_hand_here","_law_many","_law_wide","_law_kind"] (ai dr):=⟨rfl,rfl,rfl,by decide+kernel,rfl,by decide+kernel,by decide+kernel⟩
theorem uk{f:Addr}{fd:FuncData}(B:Bl mg)(Q:Kl K mg)(F:aI K mg "_law_rows" "_law_rows" dr ["_law_hand_here","_law_many","_law_wide","_law_kind"] f fd){a_law_number:Addr}{d_law_number:FuncData}(D_law_number:aI K mg "_law_number" "_law_number" dG ["_law_hand_here","_law_kind"] a_law_number d_law_number)(G_law_number:aB P w K mg base aU 2 a_law_number d_law_number ["_law_hand_here","_law_kind"] (aX fD)){a_law_draw:Addr}{d_law_draw:FuncData}(D_law_draw:aI K mg "_law_draw" "_law_draw" cD ["_law_hand_here","_law_many"] a_law_draw d_law_draw)(G_law_draw:aB P w K mg base aU 1 a_law_draw d_law_draw ["_law_hand_here","_law_many"] (aX aV)):
 aB P w K mg base aU 3 f fd ["_law_hand_here","_law_many","_law_wide","_law_kind"] (aX iF):=
 cW (N:=ju) F.fn dW (fun cdv A outer s H E hr=>(ax (bO dW.nd (aF.l 4) (Aa ao))
  (ax (mH (fP (aF.g 0) B.fW (ae (aF.nm 1) ao)) (eJ dW.nd (by first|exact Or.inl rfl|exact Or.inr rfl) (by first|exact .inl rfl|exact .inr rfl)) (ax (kX dW.nd (aF.l 6) (Nc:=["_law_j","_law_hand_here","_law_kind"]) (bj.look (ai dr) ["_law_hand_here","_law_many","_law_wide","_law_kind","_law_rows_here","_law_k","_law_row","_law_way"] (by decide+kernel)) (fP (aF.g 0) B.fW (ae (aF.nm 2) ao)) (fun _ _ _ _=>(eJ (show(["_law_j","_law_hand_here","_law_kind"]:List Str).Nodup by decide+kernel) (by first|exact Or.inl rfl|exact Or.inr rfl) (by first|exact .inl rfl|exact .inr rfl))) (fun _ _ _ _=>cz) (fun _ _ _ _=>(bI D_law_number G_law_number (hr.mono (by decide)) (ae cP (ae cP ao)) (by decide+kernel) rfl)) cw)
  (ax (bO dW.nd (aF.l 7) (bI D_law_draw G_law_draw (hr.mono (by decide)) (ae (aF.nm 0) (ae aq ao)) (aF.d 1) (aF.g 1)))
  (ax (dQ (bX (gW hr) (bB _) (aF.nm 7) aq) (aP (bO dW.nd (aF.l 6) (bh eD (pN (ae aq ao)) (aF.nm 2)))) di)
  (ax (dQ (mi (nc (bX (gW hr) (bB _) (aF.nm 7) aq) (la (bX qi (bB _) (aF.nm 5) aq)))) (aP (bO dW.nd (aF.l 6) (f_ mK (ae (bg (aF.nm 4) (bh nM (aF.nm 5) aq)) ao) B.lr rfl jN (aF.d 2) (aF.g 2)))) di)
  (ax (dQ (mi (nc (bX (gW hr) (bB _) (aF.nm 7) aq) (la (bX qi (bB _) (aF.nm 5) aq)))) (aP (kX dW.nd (aF.l 6) (Nc:=["_law_one","_law_other"]) (bj.look (ai dr) ["_law_hand_here","_law_many","_law_wide","_law_kind","_law_rows_here","_law_k","_law_row","_law_way"] (by decide+kernel)) (nz (aF.g 3) B.ny (ae (bg (aF.nm 4) (bh nM (aF.nm 5) aq)) (ae (bg (aF.nm 4) (bh nM (aF.nm 5) aq)) ao))) (fun _ _ _ _=>(kB rfl (show(["_law_one","_law_other"]:List Str).Nodup by decide+kernel) (by first|exact Or.inl rfl|exact Or.inr rfl) (by first|exact .inl rfl|exact .inr rfl) (by first|exact Or.inl rfl|exact Or.inr rfl) (by first|exact .inl rfl|exact .inr rfl))) (fun _ _ _ _=>cz) (fun _ _ _ _=>(bh dq cP cP)) kM)) di)
  (ax (dQ (mi (nc (bX (gW hr) (bB _) (aF.nm 3) aq) (la (bX s_ (bB _) (aF.nm 7) aq)))) (aP (kX dW.nd (aF.l 6) (Nc:=["_law_number_here"]) (bj.look (ai dr) ["_law_hand_here","_law_many","_law_wide","_law_kind","_law_rows_here","_law_k","_law_row","_law_way"] (by decide+kernel)) (gh (aF.nm 6)) (fun _ _ _ _=>(eJ (show(["_law_number_here"]:List Str).Nodup by decide+kernel) (by first|exact Or.inl rfl|exact Or.inr rfl) (by first|exact .inl rfl|exact .inr rfl))) (fun _ _ _ _=>cz) (fun _ _ _ _=>(bh ki cP aq)) cw)) di)
  (aP (iK (wU (aF.nm 4) (f_ fe (ae (aF.nm 6) ao) B.ff rfl eg (aF.d 4) (aF.g 4))))))))))))
  (aP (bV (f_ fe (ae (aF.nm 4) ao) B.ff rfl eg (aF.d 4) (aF.g 4))))))) uv
abbrev dU:Stmt:=top 18
theorem cn:VS (ai dU) iW ["_law_draw"]:=⟨by decide+kernel⟩
theorem ui:bw iW ["_law_hand_here"] (ai dU):=⟨rfl,rfl,rfl,by decide+kernel,rfl,by decide+kernel,by decide+kernel⟩
theorem tj{f:Addr}{fd:FuncData}(B:Bl mg)(Q:Kl K mg)(F:aI K mg "_law_sizes" "_law_sizes" dU ["_law_hand_here"] f fd){a_law_draw:Addr}{d_law_draw:FuncData}(D_law_draw:aI K mg "_law_draw" "_law_draw" cD ["_law_hand_here","_law_many"] a_law_draw d_law_draw)(G_law_draw:aB P w K mg base aU 1 a_law_draw d_law_draw ["_law_hand_here","_law_many"] (aX aV)):
 aB P w K mg base aU 2 f fd ["_law_hand_here"] (aX g5):=
 cW (N:=iW) F.fn ui (fun cdv A outer s H E hr=>(ax (dQ (bX (gW hr) (bB _) (bI D_law_draw G_law_draw (hr.mono (by decide)) (ae (cn.nm 0) (ae aq ao)) (cn.d 0) (cn.g 0)) aq) (aP (bV (g8 (ae (bh dq aq (bI D_law_draw G_law_draw (hr.mono (by decide)) (ae (cn.nm 0) (ae aq ao)) (cn.d 0) (cn.g 0))) (ae (bh dq aq (bI D_law_draw G_law_draw (hr.mono (by decide)) (ae (cn.nm 0) (ae aq ao)) (cn.d 0) (cn.g 0))) ao))))) di)
  (aP (bV (g8 (ae (bh dq aq (bI D_law_draw G_law_draw (hr.mono (by decide)) (ae (cn.nm 0) (ae aq ao)) (cn.d 0) (cn.g 0))) (ae (bh dq aq (bI D_law_draw G_law_draw (hr.mono (by decide)) (ae (cn.nm 0) (ae aq ao)) (cn.d 0) (cn.g 0))) ao))))))) sq
abbrev cN:Stmt:=top 19
theorem bW:VS (ai cN) gf ["_law_sizes","_law_draw","_law_rows"]:=⟨by decide+kernel⟩
theorem jZ:bw gf ["_law_hand_here","_law_kinds"] (ai cN):=⟨rfl,rfl,rfl,by decide+kernel,rfl,by decide+kernel,by decide+kernel⟩
theorem oE{f:Addr}{fd:FuncData}(B:Bl mg)(Q:Kl K mg)(F:aI K mg "_law_some_rows" "_law_some_rows" cN ["_law_hand_here","_law_kinds"] f fd){a_law_sizes:Addr}{d_law_sizes:FuncData}(D_law_sizes:aI K mg "_law_sizes" "_law_sizes" dU ["_law_hand_here"] a_law_sizes d_law_sizes)(G_law_sizes:aB P w K mg base aU 2 a_law_sizes d_law_sizes ["_law_hand_here"] (aX g5)){a_law_draw:Addr}{d_law_draw:FuncData}(D_law_draw:aI K mg "_law_draw" "_law_draw" cD ["_law_hand_here","_law_many"] a_law_draw d_law_draw)(G_law_draw:aB P w K mg base aU 1 a_law_draw d_law_draw ["_law_hand_here","_law_many"] (aX aV)){a_law_rows:Addr}{d_law_rows:FuncData}(D_law_rows:aI K mg "_law_rows" "_law_rows" dr ["_law_hand_here","_law_many","_law_wide","_law_kind"] a_law_rows d_law_rows)(G_law_rows:aB P w K mg base aU 3 a_law_rows d_law_rows ["_law_hand_here","_law_many","_law_wide","_law_kind"] (aX iF)):
 aB P w K mg base aU 4 f fd ["_law_hand_here","_law_kinds"] (aX fo):=
 cW (N:=gf) F.fn jZ (fun cdv A outer s H E hr=>(ax (xR (bI D_law_sizes G_law_sizes (hr.mono (by decide)) (ae (bW.nm 0) ao) (bW.d 0) (bW.g 0)) (kB rfl jZ.nd (by first|exact Or.inl rfl|exact Or.inr rfl) (by first|exact .inl rfl|exact .inr rfl) (by first|exact Or.inl rfl|exact Or.inr rfl) (by first|exact .inl rfl|exact .inr rfl)))
  (aP (bV (bI D_law_rows G_law_rows (hr.mono (by decide)) (ae (bW.nm 0) (ae (bW.nm 2) (ae (bW.nm 3) (ae (bI D_law_draw G_law_draw (hr.mono (by decide)) (ae (bW.nm 0) (ae (bW.nm 1) ao)) (bW.d 1) (bW.g 1)) ao)))) (bW.d 2) (bW.g 2)))))) oS
abbrev bN:Stmt:=top 20
theorem aj:VS (ai bN) gQ ["_law_draw","range","len","zip","tuple"]:=⟨by decide+kernel⟩
theorem dF:bw gQ ["_law_hand_here","_law_rows_here"] (ai bN):=⟨rfl,rfl,rfl,by decide+kernel,rfl,by decide+kernel,by decide+kernel⟩
theorem pR{f:Addr}{fd:FuncData}(B:Bl mg)(Q:Kl K mg)(F:aI K mg "_law_mixed_up" "_law_mixed_up" bN ["_law_hand_here","_law_rows_here"] f fd){a_law_draw:Addr}{d_law_draw:FuncData}(D_law_draw:aI K mg "_law_draw" "_law_draw" cD ["_law_hand_here","_law_many"] a_law_draw d_law_draw)(G_law_draw:aB P w K mg base aU 1 a_law_draw d_law_draw ["_law_hand_here","_law_many"] (aX aV)):
 aB P w K mg base aU 2 f fd ["_law_hand_here","_law_rows_here"] (aX fA):=
 cW (N:=gQ) F.fn dF (fun cdv A outer s H E hr=>(ax (yO dF.nd (aj.l 1) (Nc:=["_law_row"]) (bj.look (ai bN) ["_law_hand_here","_law_rows_here","_law_turn","_law_k","_law_other","_law_way","_law_often"] (by decide+kernel)) (gh (aj.nm 1)) (fun _ _ _ _=>(eJ (show(["_law_row"]:List Str).Nodup by decide+kernel) (by first|exact Or.inl rfl|exact Or.inr rfl) (by first|exact .inl rfl|exact .inr rfl))) (fun _ _ _ _=>cz) (fun _ _ _ _=>(f_ mK (ae cP ao) B.lr rfl jN (by decide+kernel) rfl)) cw)
  (ax (mH (fP (aj.g 1) B.fW (ae (bh dq aq (bI D_law_draw G_law_draw (hr.mono (by decide)) (ae (aj.nm 0) (ae aq ao)) (aj.d 0) (aj.g 0))) ao)) (eJ dF.nd (by first|exact Or.inl rfl|exact Or.inr rfl) (by first|exact .inl rfl|exact .inr rfl)) (ax (bO dF.nd (aj.l 3) (bI D_law_draw G_law_draw (hr.mono (by decide)) (ae (aj.nm 0) (ae (fu eG (ae (aj.nm 1) ao) B.eH rfl dA (aj.d 2) (aj.g 2)) ao)) (aj.d 0) (aj.g 0)))
  (ax (bO dF.nd (aj.l 4) (bI D_law_draw G_law_draw (hr.mono (by decide)) (ae (aj.nm 0) (ae (fu eG (ae (aj.nm 1) ao) B.eH rfl dA (aj.d 2) (aj.g 2)) ao)) (aj.d 0) (aj.g 0)))
  (ax (bO dF.nd (aj.l 5) (bI D_law_draw G_law_draw (hr.mono (by decide)) (ae (aj.nm 0) (ae aq ao)) (aj.d 0) (aj.g 0)))
  (ax (dQ (mi (nc (bX s_ (bB _) (aj.nm 5) aq) (la (bX ze (bB _) (aj.nm 3) (aj.nm 4))))) (ax (bO dF.nd (aj.l 6) (bg (pN (ae aq (ae (iZ aq) (ae aq (ae (iZ aq) (ae aq ao)))))) (bI D_law_draw G_law_draw (hr.mono (by decide)) (ae (aj.nm 0) (ae aq ao)) (aj.d 0) (aj.g 0))))
  (aP (qR (eA (Nc:=["_law_one","_law_two","_law_often"]) (bj.look (ai bN) ["_law_hand_here","_law_rows_here","_law_turn","_law_k","_law_other","_law_way","_law_often"] (by decide+kernel)) (nz (aj.g 3) B.ny (ae (bg (aj.nm 1) (aj.nm 3)) (ae (bg (aj.nm 1) (aj.nm 4)) ao))) (fun _ _ _ _=>(kB rfl (show(["_law_one","_law_two","_law_often"]:List Str).Nodup by decide+kernel) (by first|exact Or.inl rfl|exact Or.inr rfl) (by first|exact .inl rfl|exact .inr rfl) (by first|exact Or.inl rfl|exact Or.inr rfl) (by first|exact .inl rfl|exact .inr rfl))) (fun _ _ _ _=>cz) (fun _ _ _ _=>(bh dq cP (bh eD cP cP))) kM) (aj.nm 1) (aj.nm 3)))) di)
  (ax (dQ (bX (gW hr) (bB _) (aj.nm 5) aq) (aP (Bw (aj.nm 1) (aj.nm 3) (aj.nm 1) (aj.nm 4) (g8 (ae (bg (aj.nm 1) (aj.nm 4)) (ae (bg (aj.nm 1) (aj.nm 3)) ao))))) di)
  (ax (dQ (bX (gW hr) (bB _) (aj.nm 5) aq) (aP (qR (eA (Nc:=["_law_one"]) (bj.look (ai bN) ["_law_hand_here","_law_rows_here","_law_turn","_law_k","_law_other","_law_way","_law_often"] (by decide+kernel)) (gh (bg (aj.nm 1) (aj.nm 3))) (fun _ _ _ _=>(eJ (show(["_law_one"]:List Str).Nodup by decide+kernel) (by first|exact Or.inl rfl|exact Or.inr rfl) (by first|exact .inl rfl|exact .inr rfl))) (fun _ _ _ _=>cz) (fun _ _ _ _=>(iZ cP)) cw) (aj.nm 1) (aj.nm 3))) di)
  (aP (dQ (mi (nc (bX (gW hr) (bB _) (aj.nm 5) aq) (la (bX s_ (bB _) (fu eG (ae (aj.nm 1) ao) B.eH rfl dA (aj.d 2) (aj.g 2)) aq)))) (aP (iK (E1 (aj.nm 1) (aj.nm 3) (eA (Nc:=["_law_one","_law_two"]) (bj.look (ai bN) ["_law_hand_here","_law_rows_here","_law_turn","_law_k","_law_other","_law_way","_law_often"] (by decide+kernel)) (nz (aj.g 3) B.ny (ae (bg (aj.nm 1) (aj.nm 3)) (ae (bg (aj.nm 1) (aj.nm 4)) ao))) (fun _ _ _ _=>(kB rfl (show(["_law_one","_law_two"]:List Str).Nodup by decide+kernel) (by first|exact Or.inl rfl|exact Or.inr rfl) (by first|exact .inl rfl|exact .inr rfl) (by first|exact Or.inl rfl|exact Or.inr rfl) (by first|exact .inl rfl|exact .inr rfl))) (fun _ _ _ _=>cz) (fun _ _ _ _=>(bh nM cP (bh eD aq cP))) kM)))) di)))))))))
  (aP (bV (f_ fe (ae (eA (Nc:=["_law_row"]) (bj.look (ai bN) ["_law_hand_here","_law_rows_here","_law_turn","_law_k","_law_other","_law_way","_law_often"] (by decide+kernel)) (gh (aj.nm 1)) (fun _ _ _ _=>(eJ (show(["_law_row"]:List Str).Nodup by decide+kernel) (by first|exact Or.inl rfl|exact Or.inr rfl) (by first|exact .inl rfl|exact .inr rfl))) (fun _ _ _ _=>cz) (fun _ _ _ _=>(f_ fe (ae cP ao) B.ff rfl eg (by decide+kernel) rfl)) cw) ao) B.ff rfl eg (aj.d 4) (aj.g 4))))))) o7
abbrev dX:Stmt:=top 21
theorem lS:VS (ai dX) jA ["standing"]:=⟨by decide+kernel⟩
theorem uN:bw jA ["_law_rows_here"] (ai dX):=⟨rfl,rfl,rfl,by decide+kernel,rfl,by decide+kernel,by decide+kernel⟩
theorem uA{f:Addr}{fd:FuncData}(B:Bl mg)(Q:Kl K mg)(F:aI K mg "_law_form" "_law_form" dX ["_law_rows_here"] f fd){a_standing:Addr}{d_standing:FuncData}(D_standing:aI K mg "standing" "standing" eE ["rows"] a_standing d_standing)(G_standing:aB P w K mg base aU 5 a_standing d_standing ["rows"] (aX iD)):
 aB P w K mg base aU 6 f fd ["_law_rows_here"] (aX dB):=
 cW (N:=jA) F.fn uN (fun cdv A outer s H E hr=>(aP (bV (bg (bI D_standing G_standing (hr.mono (by decide)) (ae (lS.nm 0) ao) (lS.d 0) (lS.g 0)) aq)))) uy
abbrev dv:Stmt:=top 22
theorem cT:VS (ai dv) i5 ["zip"]:=⟨by decide+kernel⟩
theorem gm:bw i5 ["_law_form_here"] (ai dv):=⟨rfl,rfl,rfl,by decide+kernel,rfl,by decide+kernel,by decide+kernel⟩
theorem si{f:Addr}{fd:FuncData}(B:Bl mg)(Q:Kl K mg)(F:aI K mg "_law_leads" "_law_leads" dv ["_law_form_here"] f fd):
 aB P w K mg base aU 1 f fd ["_law_form_here"] (aX fX):=
 cW (N:=i5) F.fn gm (fun cdv A outer s H E hr=>(ax (kX gm.nd (cT.l 1) (Nc:=["_law_row"]) (bj.look (ai dv) ["_law_form_here","_law_places","_law_all_leads","_law_row","_law_place"] (by decide+kernel)) (gh (cT.nm 0)) (fun _ _ _ _=>(eJ (show(["_law_row"]:List Str).Nodup by decide+kernel) (by first|exact Or.inl rfl|exact Or.inr rfl) (by first|exact .inl rfl|exact .inr rfl))) (fun _ _ _ _=>cz) (fun _ _ _ _=>(bg (eA (Nc:=["_law_j","_law_row"]) (bj.Ee (by decide+kernel)) (fP rfl B.fW (ae (fu eG (ae cP ao) B.eH rfl dA (by decide+kernel) rfl) ao)) (fun _ _ _ _=>(eJ (show(["_law_j","_law_row"]:List Str).Nodup by decide+kernel) (by first|exact Or.inl rfl|exact Or.inr rfl) (by first|exact .inl rfl|exact .inr rfl))) (fun _ _ _ _=>(tZ (bX ze (bB _) (bg cP cP) aq))) (fun _ _ _ _=>cP) cw) aq)) cw)
  (ax (bO gm.nd (cT.l 2) aq)
  (ax (mH (nz (cT.g 0) B.ny (ae (cT.nm 0) (ae (cT.nm 1) ao))) (kB rfl gm.nd (by first|exact Or.inl rfl|exact Or.inr rfl) (by first|exact .inl rfl|exact .inr rfl) (by first|exact Or.inl rfl|exact Or.inr rfl) (by first|exact .inl rfl|exact .inr rfl)) (aP (bO gm.nd (cT.l 2) (bh eD (cT.nm 2) (bg (cT.nm 3) (cT.nm 4))))))
  (aP (bV (g8 (ae (cT.nm 1) (ae (cT.nm 2) ao))))))))) tS
abbrev dy:Stmt:=top 23
theorem aG:VS (ai dy) i0 ["len","_law_draw","tuple","_law_form","_law_leads"]:=⟨by decide+kernel⟩
theorem gw:bw i0 ["_law_hand_here","_law_form_here"] (ai dy):=⟨rfl,rfl,rfl,by decide+kernel,rfl,by decide+kernel,by decide+kernel⟩
theorem tP{f:Addr}{fd:FuncData}(B:Bl mg)(Q:Kl K mg)(F:aI K mg "_law_fewer" "_law_fewer" dy ["_law_hand_here","_law_form_here"] f fd){a_law_draw:Addr}{d_law_draw:FuncData}(D_law_draw:aI K mg "_law_draw" "_law_draw" cD ["_law_hand_here","_law_many"] a_law_draw d_law_draw)(G_law_draw:aB P w K mg base aU 1 a_law_draw d_law_draw ["_law_hand_here","_law_many"] (aX aV)){a_law_form:Addr}{d_law_form:FuncData}(D_law_form:aI K mg "_law_form" "_law_form" dX ["_law_rows_here"] a_law_form d_law_form)(G_law_form:aB P w K mg base aU 6 a_law_form d_law_form ["_law_rows_here"] (aX dB)){a_law_leads:Addr}{d_law_leads:FuncData}(D_law_leads:aI K mg "_law_leads" "_law_leads" dv ["_law_form_here"] a_law_leads d_law_leads)(G_law_leads:aB P w K mg base aU 1 a_law_leads d_law_leads ["_law_form_here"] (aX fX)):
 aB P w K mg base aU 7 f fd ["_law_hand_here","_law_form_here"] (aX gY):=
 cW (N:=i0) F.fn gw (fun cdv A outer s H E hr=>(ax (bO gw.nd (aG.l 2) (bI D_law_draw G_law_draw (hr.mono (by decide)) (ae (aG.nm 0) (ae (fu eG (ae (aG.nm 1) ao) B.eH rfl dA (aG.d 0) (aG.g 0)) ao)) (aG.d 1) (aG.g 1)))
  (ax (bO gw.nd (aG.l 3) (bh dq aq (bI D_law_draw G_law_draw (hr.mono (by decide)) (ae (aG.nm 0) (ae aq ao)) (aG.d 1) (aG.g 1))))
  (ax (bO gw.nd (aG.l 4) (bI D_law_form G_law_form (hr.mono (by decide)) (ae (bh dq (bh dq (jH (aG.nm 1) jJ (jI (aG.nm 2))) (g8 (ae (f_ fe (ae (eA (Nc:=["_law_one","_law_often"]) (bj.look (ai dy) ["_law_hand_here","_law_form_here","_law_k","_law_often","_law_fewer_here","_law_places","_law_all_leads"] (by decide+kernel)) (gh (bg (aG.nm 1) (aG.nm 2))) (fun _ _ _ _=>(eJ (show(["_law_one","_law_often"]:List Str).Nodup by decide+kernel) (by first|exact Or.inl rfl|exact Or.inr rfl) (by first|exact .inl rfl|exact .inr rfl))) (fun _ _ _ _=>cz) (fun _ _ _ _=>(bh eD cP cP)) cw) ao) B.ff rfl eg (aG.d 2) (aG.g 2)) ao))) (jH (aG.nm 1) (jI (bh dq (aG.nm 2) aq)) jJ)) ao) (aG.d 3) (aG.g 3)))
  (ax (xR (bI D_law_leads G_law_leads (hr.mono (by decide)) (ae (aG.nm 1) ao) (aG.d 4) (aG.g 4)) (kB rfl gw.nd (by first|exact Or.inl rfl|exact Or.inr rfl) (by first|exact .inl rfl|exact .inr rfl) (by first|exact Or.inl rfl|exact Or.inr rfl) (by first|exact .inl rfl|exact .inr rfl)))
  (aP (bV (Ei (rE (pL hr) (bB _) (aG.nm 4) (aG.nm 1)) (EC (rE (gW hr) (bB _) (bI D_law_leads G_law_leads (hr.mono (by decide)) (ae (aG.nm 4) ao) (aG.d 4) (aG.g 4)) (g8 (ae (aG.nm 5) (ae (bh eD (aG.nm 3) (aG.nm 6)) ao))))))))))))) sS
abbrev gL:Stmt:=top 24
theorem aN:VS (ai gL) rL ["_law_hand","_law_some_rows","len","_law_form","_law_mixed_up","_law_fewer","_law_draw","zip","tuple"]:=⟨by decide+kernel⟩
theorem jT:bw rL ["_law_script"] (ai gL):=⟨rfl,rfl,rfl,by decide+kernel,rfl,by decide+kernel,by decide+kernel⟩
theorem Ct{f:Addr}{fd:FuncData}(B:Bl mg)(Q:Kl K mg)(F:aI K mg "law" "law" gL ["_law_script"] f fd){a_law_hand:Addr}{d_law_hand:FuncData}(D_law_hand:aI K mg "_law_hand" "_law_hand" dZ ["_law_script"] a_law_hand d_law_hand)(G_law_hand:aB P w K mg base aU 1 a_law_hand d_law_hand ["_law_script"] (aX iA)){a_law_some_rows:Addr}{d_law_some_rows:FuncData}(D_law_some_rows:aI K mg "_law_some_rows" "_law_some_rows" cN ["_law_hand_here","_law_kinds"] a_law_some_rows d_law_some_rows)(G_law_some_rows:aB P w K mg base aU 4 a_law_some_rows d_law_some_rows ["_law_hand_here","_law_kinds"] (aX fo)){a_law_form:Addr}{d_law_form:FuncData}(D_law_form:aI K mg "_law_form" "_law_form" dX ["_law_rows_here"] a_law_form d_law_form)(G_law_form:aB P w K mg base aU 6 a_law_form d_law_form ["_law_rows_here"] (aX dB)){a_law_mixed_up:Addr}{d_law_mixed_up:FuncData}(D_law_mixed_up:aI K mg "_law_mixed_up" "_law_mixed_up" bN ["_law_hand_here","_law_rows_here"] a_law_mixed_up d_law_mixed_up)(G_law_mixed_up:aB P w K mg base aU 2 a_law_mixed_up d_law_mixed_up ["_law_hand_here","_law_rows_here"] (aX fA)){a_law_fewer:Addr}{d_law_fewer:FuncData}(D_law_fewer:aI K mg "_law_fewer" "_law_fewer" dy ["_law_hand_here","_law_form_here"] a_law_fewer d_law_fewer)(G_law_fewer:aB P w K mg base aU 7 a_law_fewer d_law_fewer ["_law_hand_here","_law_form_here"] (aX gY)){a_law_draw:Addr}{d_law_draw:FuncData}(D_law_draw:aI K mg "_law_draw" "_law_draw" cD ["_law_hand_here","_law_many"] a_law_draw d_law_draw)(G_law_draw:aB P w K mg base aU 1 a_law_draw d_law_draw ["_law_hand_here","_law_many"] (aX aV)):
 aB P w K mg base aU 8 f fd ["_law_script"] (aX wD):=
 cW (N:=rL) F.fn jT (fun cdv A outer s H E hr=>(ax (bO jT.nd (aN.l 1) (bI D_law_hand G_law_hand (hr.mono (by decide)) (ae (aN.nm 0) ao) (aN.d 0) (aN.g 0)))
  (ax (bO jT.nd (aN.l 2) (bI D_law_some_rows G_law_some_rows (hr.mono (by decide)) (ae (aN.nm 1) (ae aq ao)) (aN.d 1) (aN.g 1)))
  (ax (bO jT.nd (aN.l 3) (fu eG (ae (bg (aN.nm 2) aq) ao) B.eH rfl dA (aN.d 2) (aN.g 2)))
  (ax (bO jT.nd (aN.l 4) (bI D_law_form G_law_form (hr.mono (by decide)) (ae (aN.nm 2) ao) (aN.d 3) (aN.g 3)))
  (ax (dQ (bX (pL hr) (bB _) (bI D_law_form G_law_form (hr.mono (by decide)) (ae (bI D_law_mixed_up G_law_mixed_up (hr.mono (by decide)) (ae (aN.nm 1) (ae (aN.nm 2) ao)) (aN.d 4) (aN.g 4)) ao) (aN.d 3) (aN.g 3)) (aN.nm 4)) (aP (bV qb)) di)
  (ax (dQ (bX (gW hr) (bB _) (aN.nm 4) (g8 ao)) (aP (bV (rE (gW hr) (bB _) (eA (Nc:=["_law_row","_law_wide"]) (bj.look (ai gL) ["_law_script","_law_hand_here","_law_rows_here","_law_wide","_law_form_here","_law_sum_of","_law_at"] (by decide+kernel)) (gh (aN.nm 2)) (fun _ _ _ _=>(eJ (show(["_law_row","_law_wide"]:List Str).Nodup by decide+kernel) (by first|exact Or.inl rfl|exact Or.inr rfl) (by first|exact .inl rfl|exact .inr rfl))) (fun _ _ _ _=>(tZ (bX (pL hr) (bB _) cP (bh eD (g8 (ae aq ao)) cP)))) (fun _ _ _ _=>cP) cw) (pN ao)))) di)
  (ax (dQ (mi (zJ (bX (pL hr) (bB _) (bI D_law_form G_law_form (hr.mono (by decide)) (ae (aN.nm 4) ao) (aN.d 3) (aN.g 3)) (aN.nm 4)) (xF (B7 (xQ (bI D_law_fewer G_law_fewer (hr.mono (by decide)) (ae (aN.nm 1) (ae (aN.nm 4) ao)) (aN.d 5) (aN.g 5))))))) (aP (bV qb)) di)
  (ax (dQ (bX qi (bB _) (fu eG (ae (aN.nm 4) ao) B.eH rfl dA (aN.d 2) (aN.g 2)) aq) (aP (bV qb)) di)
  (ax (bO jT.nd (aN.l 5) (f_ fe (ae (eA (Nc:=["_law_one","_law_other"]) (bj.look (ai gL) ["_law_script","_law_hand_here","_law_rows_here","_law_wide","_law_form_here","_law_sum_of","_law_at"] (by decide+kernel)) (nz (aN.g 7) B.ny (ae (bg (aN.nm 4) aq) (ae (bg (aN.nm 4) (bI D_law_draw G_law_draw (hr.mono (by decide)) (ae (aN.nm 1) (ae (fu eG (ae (aN.nm 4) ao) B.eH rfl dA (aN.d 2) (aN.g 2)) ao)) (aN.d 6) (aN.g 6))) ao))) (fun _ _ _ _=>(kB rfl (show(["_law_one","_law_other"]:List Str).Nodup by decide+kernel) (by first|exact Or.inl rfl|exact Or.inr rfl) (by first|exact .inl rfl|exact .inr rfl) (by first|exact Or.inl rfl|exact Or.inr rfl) (by first|exact .inl rfl|exact .inr rfl))) (fun _ _ _ _=>cz) (fun _ _ _ _=>(bh nM cP cP)) kM) ao) B.ff rfl eg (aN.d 8) (aN.g 8)))
  (ax (bO jT.nd (aN.l 6) (bI D_law_draw G_law_draw (hr.mono (by decide)) (ae (aN.nm 1) (ae (bh dq (fu eG (ae (aN.nm 4) ao) B.eH rfl dA (aN.d 2) (aN.g 2)) aq) ao)) (aN.d 6) (aN.g 6)))
  (ax (dQ (bX (pL hr) (bB _) (bI D_law_form G_law_form (hr.mono (by decide)) (ae (bh dq (g8 (ae (aN.nm 5) ao)) (aN.nm 4)) ao) (aN.d 3) (aN.g 3)) (aN.nm 4)) (aP (bV qb)) di)
  (aP (bV (rE (gW hr) (bB _) (bI D_law_form G_law_form (hr.mono (by decide)) (ae (bh dq (bh dq (jH (aN.nm 4) jJ (jI (aN.nm 6))) (bh eD (g8 (ae (bh eD (g8 (ae aq ao)) (aN.nm 3)) ao)) aq)) (jH (aN.nm 4) (jI (aN.nm 6)) jJ)) ao) (aN.d 3) (aN.g 3)) (aN.nm 4)))))))))))))))) DJ
end
theorem all_mk{l:PySem.W.OpenLaw}{w:World}{K:PySem.W.Frag}{h:Heap}{mg:Str→Option Value}{fa:Addr}(X:K.In h)(G:h.Ns mainGlobals mg)(hfa:mg "law"=some (.ref fa))
 {od0 an0:Option Addr} {sl0:Array (Option Value)} {oc0 kV0 dc0 pm0 cd0 ct0:Value} {f0:Addr}
 {od1 an1:Option Addr} {sl1:Array (Option Value)} {oc1 kV1 dc1 pm1 cd1 ct1:Value} {f1:Addr}
 {od2 an2:Option Addr} {sl2:Array (Option Value)} {oc2 kV2 dc2 pm2 cd2 ct2:Value} {f2:Addr}
 {od3 an3:Option Addr} {sl3:Array (Option Value)} {oc3 kV3 dc3 pm3 cd3 ct3:Value} {f3:Addr}
 {od4 an4:Option Addr} {sl4:Array (Option Value)} {oc4 kV4 dc4 pm4 cd4 ct4:Value} {f4:Addr}
 {od5 an5:Option Addr} {sl5:Array (Option Value)} {oc5 kV5 dc5 pm5 cd5 ct5:Value} {f5:Addr}
 {od6 an6:Option Addr} {sl6:Array (Option Value)} {oc6 kV6 dc6 pm6 cd6 ct6:Value} {f6:Addr}
 {od7 an7:Option Addr} {sl7:Array (Option Value)} {oc7 kV7 dc7 pm7 cd7 ct7:Value} {f7:Addr}
 {od8 an8:Option Addr} {sl8:Array (Option Value)} {oc8 kV8 dc8 pm8 cd8 ct8:Value} {f8:Addr}
 {od9 an9:Option Addr} {sl9:Array (Option Value)} {oc9 kV9 dc9 pm9 cd9 ct9:Value} {f9:Addr}
 {od10 an10:Option Addr} {sl10:Array (Option Value)} {oc10 kV10 dc10 pm10 cd10 ct10:Value} {f10:Addr}
 {od11 an11:Option Addr} {sl11:Array (Option Value)} {oc11 kV11 dc11 pm11 cd11 ct11:Value} {f11:Addr}
 {od12 an12:Option Addr} {sl12:Array (Option Value)} {oc12 kV12 dc12 pm12 cd12 ct12:Value} {f12:Addr}
 {od13 an13:Option Addr} {sl13:Array (Option Value)} {oc13 kV13 dc13 pm13 ct13:Value} {f13:Addr}
 {od14 an14:Option Addr} {sl14:Array (Option Value)} {oc14 kV14 dc14 pm14 cd14 ct14:Value} {f14:Addr}
 {od15 an15:Option Addr} {sl15:Array (Option Value)} {oc15 kV15 dc15 pm15 cd15 ct15:Value} {f15:Addr}
 {od16 an16:Option Addr} {sl16:Array (Option Value)} {oc16 kV16 dc16 pm16 cd16 ct16:Value} {f16:Addr}
 {od17 an17:Option Addr} {sl17:Array (Option Value)} {oc17 kV17 dc17 pm17 cd17 ct17:Value} {f17:Addr}
 {od18 an18:Option Addr} {sl18:Array (Option Value)} {oc18 kV18 dc18 pm18 cd18 ct18:Value} {f18:Addr}
 {od19 an19:Option Addr} {sl19:Array (Option Value)} {oc19 kV19 dc19 pm19 cd19 ct19:Value} {f19:Addr}
 {od20 an20:Option Addr} {sl20:Array (Option Value)} {oc20 kV20 dc20 pm20 cd20 ct20:Value} {f20:Addr}
 {od21 an21:Option Addr} {sl21:Array (Option Value)} {oc21 kV21 dc21 pm21 cd21 ct21:Value} {f21:Addr}
 {od22 an22:Option Addr} {sl22:Array (Option Value)} {oc22 kV22 dc22 pm22 cd22 ct22:Value} {f22:Addr}
 {od23 an23:Option Addr} {sl23:Array (Option Value)} {oc23 kV23 dc23 pm23 cd23 ct23:Value} {f23:Addr}
 {od24 an24:Option Addr} {sl24:Array (Option Value)} {oc24 kV24 dc24 pm24 cd24 ct24:Value} {f24:Addr}
 {od25 an25:Option Addr} {sl25:Array (Option Value)} {oc25 kV25 dc25 pm25 cd25 ct25:Value} {f25:Addr}
 {od26 an26:Option Addr} {sl26:Array (Option Value)} {oc26 kV26 dc26 pm26 cd26 ct26:Value} {f26:Addr}
 {od27 an27:Option Addr} {sl27:Array (Option Value)} {oc27 kV27 dc27 pm27 cd27 ct27:Value} {f27:Addr}
 (a0:PySem.W.nsIn K mainGlobals "as_rows"=some (some (.ref f0))) (l0:K.lookup f0=some ⟨oc0,od0,.func (PySem.W.fnOf "as_rows" "as_rows" (br eO) (bf eO) (ai eO) .none kV0 dc0 pm0 an0 cd0 ct0),sl0⟩) (c0:PySem.W.codeIn K cd0 "as_rows"=true) (k0:PySem.W.keepIn K (.ref f0)=true)
 (a1:PySem.W.nsIn K mainGlobals "added"=some (some (.ref f1))) (l1:K.lookup f1=some ⟨oc1,od1,.func (PySem.W.fnOf "added" "added" (br fY) (bf fY) (ai fY) .none kV1 dc1 pm1 an1 cd1 ct1),sl1⟩) (c1:PySem.W.codeIn K cd1 "added"=true) (k1:PySem.W.keepIn K (.ref f1)=true)
 (a2:PySem.W.nsIn K mainGlobals "column"=some (some (.ref f2))) (l2:K.lookup f2=some ⟨oc2,od2,.func (PySem.W.fnOf "column" "column" (br fy) (bf fy) (ai fy) .none kV2 dc2 pm2 an2 cd2 ct2),sl2⟩) (c2:PySem.W.codeIn K cd2 "column"=true) (k2:PySem.W.keepIn K (.ref f2)=true)
 (a3:PySem.W.nsIn K mainGlobals "turned_over"=some (some (.ref f3))) (l3:K.lookup f3=some ⟨oc3,od3,.func (PySem.W.fnOf "turned_over" "turned_over" (br cS) (bf cS) (ai cS) .none kV3 dc3 pm3 an3 cd3 ct3),sl3⟩) (c3:PySem.W.codeIn K cd3 "turned_over"=true) (k3:PySem.W.keepIn K (.ref f3)=true)
 (a4:PySem.W.nsIn K mainGlobals "unit_row"=some (some (.ref f4))) (l4:K.lookup f4=some ⟨oc4,od4,.func (PySem.W.fnOf "unit_row" "unit_row" (br dR) (bf dR) (ai dR) .none kV4 dc4 pm4 an4 cd4 ct4),sl4⟩) (c4:PySem.W.codeIn K cd4 "unit_row"=true) (k4:PySem.W.keepIn K (.ref f4)=true)
 (a5:PySem.W.nsIn K mainGlobals "unit_rows"=some (some (.ref f5))) (l5:K.lookup f5=some ⟨oc5,od5,.func (PySem.W.fnOf "unit_rows" "unit_rows" (br dw) (bf dw) (ai dw) .none kV5 dc5 pm5 an5 cd5 ct5),sl5⟩) (c5:PySem.W.codeIn K cd5 "unit_rows"=true) (k5:PySem.W.keepIn K (.ref f5)=true)
 (a6:PySem.W.nsIn K mainGlobals "nearest_quotient"=some (some (.ref f6))) (l6:K.lookup f6=some ⟨oc6,od6,.func (PySem.W.fnOf "nearest_quotient" "nearest_quotient" (br ck) (bf ck) (ai ck) .none kV6 dc6 pm6 an6 cd6 ct6),sl6⟩) (c6:PySem.W.codeIn K cd6 "nearest_quotient"=true) (k6:PySem.W.keepIn K (.ref f6)=true)
 (a7:PySem.W.nsIn K mainGlobals "exchanged"=some (some (.ref f7))) (l7:K.lookup f7=some ⟨oc7,od7,.func (PySem.W.fnOf "exchanged" "exchanged" (br dS) (bf dS) (ai dS) .none kV7 dc7 pm7 an7 cd7 ct7),sl7⟩) (c7:PySem.W.codeIn K cd7 "exchanged"=true) (k7:PySem.W.keepIn K (.ref f7)=true)
 (a8:PySem.W.nsIn K mainGlobals "negated"=some (some (.ref f8))) (l8:K.lookup f8=some ⟨oc8,od8,.func (PySem.W.fnOf "negated" "negated" (br eN) (bf eN) (ai eN) .none kV8 dc8 pm8 an8 cd8 ct8),sl8⟩) (c8:PySem.W.codeIn K cd8 "negated"=true) (k8:PySem.W.keepIn K (.ref f8)=true)
 (a9:PySem.W.findIn K (.ref ak) "__init__"=some (some (.ref f9))) (i9:PySem.W.isFn K (.ref f9)=true) (l9:K.lookup f9=some ⟨oc9,od9,.func (PySem.W.fnOf "__init__" "Bench.__init__" (br bQ) (bf bQ) (ai bQ) .none kV9 dc9 pm9 an9 cd9 ct9),sl9⟩) (c9:PySem.W.codeIn K cd9 "Bench.__init__"=true) (k9:PySem.W.keepIn K (.ref f9)=true)
 (a10:PySem.W.findIn K (.ref ak) "take"=some (some (.ref f10))) (i10:PySem.W.isFn K (.ref f10)=true) (l10:K.lookup f10=some ⟨oc10,od10,.func (PySem.W.fnOf "take" "Bench.take" (br dg) (bf dg) (ai dg) .none kV10 dc10 pm10 an10 cd10 ct10),sl10⟩) (c10:PySem.W.codeIn K cd10 "Bench.take"=true) (k10:PySem.W.keepIn K (.ref f10)=true)
 (a11:PySem.W.findIn K (.ref ak) "exchange"=some (some (.ref f11))) (i11:PySem.W.isFn K (.ref f11)=true) (l11:K.lookup f11=some ⟨oc11,od11,.func (PySem.W.fnOf "exchange" "Bench.exchange" (br cB) (bf cB) (ai cB) .none kV11 dc11 pm11 an11 cd11 ct11),sl11⟩) (c11:PySem.W.codeIn K cd11 "Bench.exchange"=true) (k11:PySem.W.keepIn K (.ref f11)=true)
 (a12:PySem.W.findIn K (.ref ak) "change_sign"=some (some (.ref f12))) (i12:PySem.W.isFn K (.ref f12)=true) (l12:K.lookup f12=some ⟨oc12,od12,.func (PySem.W.fnOf "change_sign" "Bench.change_sign" (br b_) (bf b_) (ai b_) .none kV12 dc12 pm12 an12 cd12 ct12),sl12⟩) (c12:PySem.W.codeIn K cd12 "Bench.change_sign"=true) (k12:PySem.W.keepIn K (.ref f12)=true)
 (a13:PySem.W.findIn K (.ref ak) "live_rows"=some (some (.ref f13))) (i13:PySem.W.isFn K (.ref f13)=true) (l13:K.lookup f13=some ⟨oc13,od13,.func (PySem.W.fnOf "live_rows" "Bench.live_rows" (br bH) (bf bH) (ai bH) .none kV13 dc13 pm13 an13 (.ref 100) ct13),sl13⟩) (c13:PySem.W.codeIn K (.ref 100) "Bench.live_rows"=true) (k13:PySem.W.keepIn K (.ref f13)=true)
 (hC13:PySem.W.codeHdIn K 100 98=true)
 (a14:PySem.W.findIn K (.ref ak) "gather"=some (some (.ref f14))) (i14:PySem.W.isFn K (.ref f14)=true) (l14:K.lookup f14=some ⟨oc14,od14,.func (PySem.W.fnOf "gather" "Bench.gather" (br cX) (bf cX) (ai cX) .none kV14 dc14 pm14 an14 cd14 ct14),sl14⟩) (c14:PySem.W.codeIn K cd14 "Bench.gather"=true) (k14:PySem.W.keepIn K (.ref f14)=true)
 (a15:PySem.W.findIn K (.ref ak) "lower_above"=some (some (.ref f15))) (i15:PySem.W.isFn K (.ref f15)=true) (l15:K.lookup f15=some ⟨oc15,od15,.func (PySem.W.fnOf "lower_above" "Bench.lower_above" (br bZ) (bf bZ) (ai bZ) .none kV15 dc15 pm15 an15 cd15 ct15),sl15⟩) (c15:PySem.W.codeIn K cd15 "Bench.lower_above"=true) (k15:PySem.W.keepIn K (.ref f15)=true)
 (a16:PySem.W.nsIn K mainGlobals "standing"=some (some (.ref f16))) (l16:K.lookup f16=some ⟨oc16,od16,.func (PySem.W.fnOf "standing" "standing" (br eE) (bf eE) (ai eE) .none kV16 dc16 pm16 an16 cd16 ct16),sl16⟩) (c16:PySem.W.codeIn K cd16 "standing"=true) (k16:PySem.W.keepIn K (.ref f16)=true)
 (a17:PySem.W.nsIn K mainGlobals "_law_hand"=some (some (.ref f17))) (l17:K.lookup f17=some ⟨oc17,od17,.func (PySem.W.fnOf "_law_hand" "_law_hand" (br dZ) (bf dZ) (ai dZ) .none kV17 dc17 pm17 an17 cd17 ct17),sl17⟩) (c17:PySem.W.codeIn K cd17 "_law_hand"=true) (k17:PySem.W.keepIn K (.ref f17)=true)
 (a18:PySem.W.nsIn K mainGlobals "_law_draw"=some (some (.ref f18))) (l18:K.lookup f18=some ⟨oc18,od18,.func (PySem.W.fnOf "_law_draw" "_law_draw" (br cD) (bf cD) (ai cD) .none kV18 dc18 pm18 an18 cd18 ct18),sl18⟩) (c18:PySem.W.codeIn K cd18 "_law_draw"=true) (k18:PySem.W.keepIn K (.ref f18)=true)
 (a19:PySem.W.nsIn K mainGlobals "_law_number"=some (some (.ref f19))) (l19:K.lookup f19=some ⟨oc19,od19,.func (PySem.W.fnOf "_law_number" "_law_number" (br dG) (bf dG) (ai dG) .none kV19 dc19 pm19 an19 cd19 ct19),sl19⟩) (c19:PySem.W.codeIn K cd19 "_law_number"=true) (k19:PySem.W.keepIn K (.ref f19)=true)
 (a20:PySem.W.nsIn K mainGlobals "_law_rows"=some (some (.ref f20))) (l20:K.lookup f20=some ⟨oc20,od20,.func (PySem.W.fnOf "_law_rows" "_law_rows" (br dr) (bf dr) (ai dr) .none kV20 dc20 pm20 an20 cd20 ct20),sl20⟩) (c20:PySem.W.codeIn K cd20 "_law_rows"=true) (k20:PySem.W.keepIn K (.ref f20)=true)
 (a21:PySem.W.nsIn K mainGlobals "_law_sizes"=some (some (.ref f21))) (l21:K.lookup f21=some ⟨oc21,od21,.func (PySem.W.fnOf "_law_sizes" "_law_sizes" (br dU) (bf dU) (ai dU) .none kV21 dc21 pm21 an21 cd21 ct21),sl21⟩) (c21:PySem.W.codeIn K cd21 "_law_sizes"=true) (k21:PySem.W.keepIn K (.ref f21)=true)
 (a22:PySem.W.nsIn K mainGlobals "_law_some_rows"=some (some (.ref f22))) (l22:K.lookup f22=some ⟨oc22,od22,.func (PySem.W.fnOf "_law_some_rows" "_law_some_rows" (br cN) (bf cN) (ai cN) .none kV22 dc22 pm22 an22 cd22 ct22),sl22⟩) (c22:PySem.W.codeIn K cd22 "_law_some_rows"=true) (k22:PySem.W.keepIn K (.ref f22)=true)
 (a23:PySem.W.nsIn K mainGlobals "_law_mixed_up"=some (some (.ref f23))) (l23:K.lookup f23=some ⟨oc23,od23,.func (PySem.W.fnOf "_law_mixed_up" "_law_mixed_up" (br bN) (bf bN) (ai bN) .none kV23 dc23 pm23 an23 cd23 ct23),sl23⟩) (c23:PySem.W.codeIn K cd23 "_law_mixed_up"=true) (k23:PySem.W.keepIn K (.ref f23)=true)
 (a24:PySem.W.nsIn K mainGlobals "_law_form"=some (some (.ref f24))) (l24:K.lookup f24=some ⟨oc24,od24,.func (PySem.W.fnOf "_law_form" "_law_form" (br dX) (bf dX) (ai dX) .none kV24 dc24 pm24 an24 cd24 ct24),sl24⟩) (c24:PySem.W.codeIn K cd24 "_law_form"=true) (k24:PySem.W.keepIn K (.ref f24)=true)
 (a25:PySem.W.nsIn K mainGlobals "_law_leads"=some (some (.ref f25))) (l25:K.lookup f25=some ⟨oc25,od25,.func (PySem.W.fnOf "_law_leads" "_law_leads" (br dv) (bf dv) (ai dv) .none kV25 dc25 pm25 an25 cd25 ct25),sl25⟩) (c25:PySem.W.codeIn K cd25 "_law_leads"=true) (k25:PySem.W.keepIn K (.ref f25)=true)
 (a26:PySem.W.nsIn K mainGlobals "_law_fewer"=some (some (.ref f26))) (l26:K.lookup f26=some ⟨oc26,od26,.func (PySem.W.fnOf "_law_fewer" "_law_fewer" (br dy) (bf dy) (ai dy) .none kV26 dc26 pm26 an26 cd26 ct26),sl26⟩) (c26:PySem.W.codeIn K cd26 "_law_fewer"=true) (k26:PySem.W.keepIn K (.ref f26)=true)
 (a27:PySem.W.nsIn K mainGlobals "law"=some (some (.ref f27))) (l27:K.lookup f27=some ⟨oc27,od27,.func (PySem.W.fnOf "law" "law" (br gL) (bf gL) (ai gL) .none kV27 dc27 pm27 an27 cd27 ct27),sl27⟩) (c27:PySem.W.codeIn K cd27 "law"=true) (k27:PySem.W.keepIn K (.ref f27)=true)
 (z_tuple:PySem.W.nsIn K mainGlobals "tuple"=some none)
 (z_zip:PySem.W.nsIn K mainGlobals "zip"=some none)
 (z_range:PySem.W.nsIn K mainGlobals "range"=some none)
 (z_list:PySem.W.nsIn K mainGlobals "list"=some none)
 (z_len:PySem.W.nsIn K mainGlobals "len"=some none)
 (z_abs:PySem.W.nsIn K mainGlobals "abs"=some none)
 (z_sorted:PySem.W.nsIn K mainGlobals "sorted"=some none)
 (ca_Bench:PySem.W.nsIn K mainGlobals "Bench"=some (some (.ref ak))) (cb_Bench:PySem.W.plainGet K ak Str.empty=true) (cc_Bench:PySem.W.hasDictIn K ak=true) (cd_Bench:PySem.W.plainOver K ak=true) (ce_Bench:PySem.W.findIn K (.ref ak) "__setattr__"=some (some (.builtin "object.__setattr__"))) (cf_Bench:PySem.W.makesIn K ak=true) (cg_Bench:PySem.W.keepIn K (.ref ak)=true)
 (bq:PySem.W.findIn K (.ref ak) "body"=some none)
 (cG:PySem.W.findIn K (.ref ak) "turn"=some none)
 (bo:PySem.W.findIn K (.ref ak) "back_columns"=some none)
 (nl:sQ K=true):
 ∃fd:FuncData,(∀(s:Shared) (v:Value),BindsTo s fd ⟨[v],[]⟩ [("_law_script",v)])∧∀base:Heap,K.In base→base.Ns mainGlobals mg→aB l.prog w K mg base aU 8 fa fd ["_law_script"] (pU K [(100,98)]):=by
 have e:=hfa.symm.trans (PySem.W.mg_of X G a27)
 cases e
 have B:Bl mg:=⟨PySem.W.mg_none_of X G z_tuple,PySem.W.mg_none_of X G z_zip,PySem.W.mg_none_of X G z_range,PySem.W.mg_none_of X G z_list,PySem.W.mg_none_of X G z_len,PySem.W.mg_none_of X G z_abs,PySem.W.mg_none_of X G z_sorted⟩
 have Q:Kl K mg:=⟨⟨⟨cb_Bench,cc_Bench,cd_Bench,ce_Bench⟩,PySem.W.mg_of X G ca_Bench,cf_Bench,cg_Bench⟩,bq,cG,bo⟩
 have F0:=cu (st:=eO) l0 c0 k0
 have D0:aI K mg "as_rows" "as_rows" eO ["rows"] f0 _:=⟨F0,PySem.W.mg_of X G a0,o8 F0 fun _ _ _ _ _ _ _=>rfl⟩
 have F1:=cu (st:=fY) l1 c1 k1
 have D1:aI K mg "added" "added" fY ["row","times","other"] f1 _:=⟨F1,PySem.W.mg_of X G a1,uT F1 fun _ _ _ _ _ _ _ _ _=>rfl⟩
 have F2:=cu (st:=fy) l2 c2 k2
 have D2:aI K mg "column" "column" fy ["rows","place"] f2 _:=⟨F2,PySem.W.mg_of X G a2,mO F2 fun _ _ _ _ _ _ _ _=>rfl⟩
 have F3:=cu (st:=cS) l3 c3 k3
 have D3:aI K mg "turned_over" "turned_over" cS ["rows","wide"] f3 _:=⟨F3,PySem.W.mg_of X G a3,mO F3 fun _ _ _ _ _ _ _ _=>rfl⟩
 have F4:=cu (st:=dR) l4 c4 k4
 have D4:aI K mg "unit_row" "unit_row" dR ["n","place"] f4 _:=⟨F4,PySem.W.mg_of X G a4,mO F4 fun _ _ _ _ _ _ _ _=>rfl⟩
 have F5:=cu (st:=dw) l5 c5 k5
 have D5:aI K mg "unit_rows" "unit_rows" dw ["n"] f5 _:=⟨F5,PySem.W.mg_of X G a5,o8 F5 fun _ _ _ _ _ _ _=>rfl⟩
 have F6:=cu (st:=ck) l6 c6 k6
 have D6:aI K mg "nearest_quotient" "nearest_quotient" ck ["top","bottom"] f6 _:=⟨F6,PySem.W.mg_of X G a6,mO F6 fun _ _ _ _ _ _ _ _=>rfl⟩
 have F7:=cu (st:=dS) l7 c7 k7
 have D7:aI K mg "exchanged" "exchanged" dS ["rows","k","other"] f7 _:=⟨F7,PySem.W.mg_of X G a7,uT F7 fun _ _ _ _ _ _ _ _ _=>rfl⟩
 have F8:=cu (st:=eN) l8 c8 k8
 have D8:aI K mg "negated" "negated" eN ["row"] f8 _:=⟨F8,PySem.W.mg_of X G a8,o8 F8 fun _ _ _ _ _ _ _=>rfl⟩
 have F9:=cu (st:=bQ) l9 c9 k9
 have D9:MethAt K ak "__init__" "Bench.__init__" bQ ["self","rows"] f9 _:=⟨F9,⟨a9,i9,k9⟩,mO F9 fun _ _ _ _ _ _ _ _=>rfl⟩
 have F10:=cu (st:=dg) l10 c10 k10
 have D10:MethAt K ak "take" "Bench.take" dg ["self","k","times","other"] f10 _:=⟨F10,⟨a10,i10,k10⟩,FD F10 fun _ _ _ _ _ _ _ _ _ _=>rfl⟩
 have F11:=cu (st:=cB) l11 c11 k11
 have D11:MethAt K ak "exchange" "Bench.exchange" cB ["self","k","other"] f11 _:=⟨F11,⟨a11,i11,k11⟩,uT F11 fun _ _ _ _ _ _ _ _ _=>rfl⟩
 have F12:=cu (st:=b_) l12 c12 k12
 have D12:MethAt K ak "change_sign" "Bench.change_sign" b_ ["self","k"] f12 _:=⟨F12,⟨a12,i12,k12⟩,mO F12 fun _ _ _ _ _ _ _ _=>rfl⟩
 have F13:=cu (st:=bH) l13 c13 k13
 have D13:MethAt K ak "live_rows" "Bench.live_rows" bH ["self","top","place"] f13 _:=⟨F13,⟨a13,i13,k13⟩,uT F13 fun _ _ _ _ _ _ _ _ _=>rfl⟩
 have F14:=cu (st:=cX) l14 c14 k14
 have D14:MethAt K ak "gather" "Bench.gather" cX ["self","top","place"] f14 _:=⟨F14,⟨a14,i14,k14⟩,uT F14 fun _ _ _ _ _ _ _ _ _=>rfl⟩
 have F15:=cu (st:=bZ) l15 c15 k15
 have D15:MethAt K ak "lower_above" "Bench.lower_above" bZ ["self","top","place"] f15 _:=⟨F15,⟨a15,i15,k15⟩,uT F15 fun _ _ _ _ _ _ _ _ _=>rfl⟩
 have F16:=cu (st:=eE) l16 c16 k16
 have D16:aI K mg "standing" "standing" eE ["rows"] f16 _:=⟨F16,PySem.W.mg_of X G a16,o8 F16 fun _ _ _ _ _ _ _=>rfl⟩
 have F17:=cu (st:=dZ) l17 c17 k17
 have D17:aI K mg "_law_hand" "_law_hand" dZ ["_law_script"] f17 _:=⟨F17,PySem.W.mg_of X G a17,o8 F17 fun _ _ _ _ _ _ _=>rfl⟩
 have F18:=cu (st:=cD) l18 c18 k18
 have D18:aI K mg "_law_draw" "_law_draw" cD ["_law_hand_here","_law_many"] f18 _:=⟨F18,PySem.W.mg_of X G a18,mO F18 fun _ _ _ _ _ _ _ _=>rfl⟩
 have F19:=cu (st:=dG) l19 c19 k19
 have D19:aI K mg "_law_number" "_law_number" dG ["_law_hand_here","_law_kind"] f19 _:=⟨F19,PySem.W.mg_of X G a19,mO F19 fun _ _ _ _ _ _ _ _=>rfl⟩
 have F20:=cu (st:=dr) l20 c20 k20
 have D20:aI K mg "_law_rows" "_law_rows" dr ["_law_hand_here","_law_many","_law_wide","_law_kind"] f20 _:=⟨F20,PySem.W.mg_of X G a20,FD F20 fun _ _ _ _ _ _ _ _ _ _=>rfl⟩
 have F21:=cu (st:=dU) l21 c21 k21
 have D21:aI K mg "_law_sizes" "_law_sizes" dU ["_law_hand_here"] f21 _:=⟨F21,PySem.W.mg_of X G a21,o8 F21 fun _ _ _ _ _ _ _=>rfl⟩
 have F22:=cu (st:=cN) l22 c22 k22
 have D22:aI K mg "_law_some_rows" "_law_some_rows" cN ["_law_hand_here","_law_kinds"] f22 _:=⟨F22,PySem.W.mg_of X G a22,mO F22 fun _ _ _ _ _ _ _ _=>rfl⟩
 have F23:=cu (st:=bN) l23 c23 k23
 have D23:aI K mg "_law_mixed_up" "_law_mixed_up" bN ["_law_hand_here","_law_rows_here"] f23 _:=⟨F23,PySem.W.mg_of X G a23,mO F23 fun _ _ _ _ _ _ _ _=>rfl⟩
 have F24:=cu (st:=dX) l24 c24 k24
 have D24:aI K mg "_law_form" "_law_form" dX ["_law_rows_here"] f24 _:=⟨F24,PySem.W.mg_of X G a24,o8 F24 fun _ _ _ _ _ _ _=>rfl⟩
 have F25:=cu (st:=dv) l25 c25 k25
 have D25:aI K mg "_law_leads" "_law_leads" dv ["_law_form_here"] f25 _:=⟨F25,PySem.W.mg_of X G a25,o8 F25 fun _ _ _ _ _ _ _=>rfl⟩
 have F26:=cu (st:=dy) l26 c26 k26
 have D26:aI K mg "_law_fewer" "_law_fewer" dy ["_law_hand_here","_law_form_here"] f26 _:=⟨F26,PySem.W.mg_of X G a26,mO F26 fun _ _ _ _ _ _ _ _=>rfl⟩
 have F27:=cu (st:=gL) l27 c27 k27
 have D27:aI K mg "law" "law" gL ["_law_script"] fa _:=⟨F27,PySem.W.mg_of X G a27,o8 F27 fun _ _ _ _ _ _ _=>rfl⟩
 refine⟨PySem.W.fnOf "law" "law" (br gL) (bf gL) (ai gL) .none kV27 dc27 pm27 an27 cd27 ct27,fun s v=> .of_eq rfl,fun base _ _=>?_⟩
 have G0:aB l.prog w K mg base aU 1 f0 _ ["rows"] (aX ie):=vO B Q D0
 have G1:aB l.prog w K mg base aU 1 f1 _ ["row","times","other"] (aX iN):=zo B Q D1
 have G2:aB l.prog w K mg base aU 1 f2 _ ["rows","place"] (aX j_):=x9 B Q D2
 have G3:aB l.prog w K mg base aU 2 f3 _ ["rows","wide"] (aX fS):=qj B Q D3 D2 G2
 have G4:aB l.prog w K mg base aU 1 f4 _ ["n","place"] (aX iB):=ur B Q D4
 have G5:aB l.prog w K mg base aU 2 f5 _ ["n"] (aX fZ):=t8 B Q D5 D4 G4
 have G6:aB l.prog w K mg base aU 1 f6 _ ["top","bottom"] (aX d7):=mB B Q D6
 have G7:aB l.prog w K mg base aU 1 f7 _ ["rows","k","other"] (aX fv):=tI B Q D7
 have G8:aB l.prog w K mg base aU 1 f8 _ ["row"] (aX gu):=wy B Q D8
 have G9:aB l.prog w K mg base aU 3 f9 _ ["self","rows"] (aX eR):=nU B Q D9 D5 G5
 have G10:aB l.prog w K mg base aU 2 f10 _ ["self","k","times","other"] (aX eW):=q_ B Q D10 D1 G1
 have G11:aB l.prog w K mg base aU 2 f11 _ ["self","k","other"] (aX eX):=nW B Q D11 D7 G7
 have G12:aB l.prog w K mg base aU 2 f12 _ ["self","k"] (aX dM):=mn B Q D12 D8 G8
 have G13:aB l.prog w K mg base aU 3 f13 _ ["self","top","place"] (aX dH):=mJ B Q D13 ⟨⟨_,_,_,_,_,_,_,_,rfl,l13,c13⟩⟩ hC13
 have G14:aB l.prog w K mg base aU 4 f14 _ ["self","top","place"] (aX fH):=pH B Q D14 D13 G13 D6 G6 D10 G10 D11 G11 D12 G12
 have G15:aB l.prog w K mg base aU 3 f15 _ ["self","top","place"] (aX dN):=mj B Q D15 D10 G10
 have G16:aB l.prog w K mg base aU 5 f16 _ ["rows"] (aX iD):=uo B Q D16 D9 G9 D14 G14 D15 G15 D3 G3 D0 G0
 have G17:aB l.prog w K mg base aU 1 f17 _ ["_law_script"] (aX iA):=uF B Q D17
 have G18:aB l.prog w K mg base aU 1 f18 _ ["_law_hand_here","_law_many"] (aX aV):=uG B Q D18
 have G19:aB l.prog w K mg base aU 2 f19 _ ["_law_hand_here","_law_kind"] (aX fD):=qZ B Q D19 D18 G18
 have G20:aB l.prog w K mg base aU 3 f20 _ ["_law_hand_here","_law_many","_law_wide","_law_kind"] (aX iF):=uk B Q D20 D19 G19 D18 G18
 have G21:aB l.prog w K mg base aU 2 f21 _ ["_law_hand_here"] (aX g5):=tj B Q D21 D18 G18
 have G22:aB l.prog w K mg base aU 4 f22 _ ["_law_hand_here","_law_kinds"] (aX fo):=oE B Q D22 D21 G21 D18 G18 D20 G20
 have G23:aB l.prog w K mg base aU 2 f23 _ ["_law_hand_here","_law_rows_here"] (aX fA):=pR B Q D23 D18 G18
 have G24:aB l.prog w K mg base aU 6 f24 _ ["_law_rows_here"] (aX dB):=uA B Q D24 D16 G16
 have G25:aB l.prog w K mg base aU 1 f25 _ ["_law_form_here"] (aX fX):=si B Q D25
 have G26:aB l.prog w K mg base aU 7 f26 _ ["_law_hand_here","_law_form_here"] (aX gY):=tP B Q D26 D18 G18 D24 G24 D25 G25
 have G27:aB l.prog w K mg base aU 8 fa _ ["_law_script"] (aX wD):=Ct B Q D27 D17 G17 D22 G22 D24 G24 D23 G23 D26 G26 D18 G18
 exact G27.imp fun vs H Q E h=>yk (tl:=[(98,⟨48,32,48,66⟩,"Bench.live_rows.<locals>.<lambda>")]) nl rfl (by decide) h
theorem walk{l:PySem.W.OpenLaw}{q:Program}{loose:List Str}{XP:(Str→Option Value)→Heap→Prop}{YP:World→Heap→Prop}{d:DefRec}{K:Params→PySem.W.Frag}(hn:l.most=some 63)(hdf:d.params.defaults=[])(hq:importsNone q=true)(hgt:l.prog.given.tree=none)
 (hY:∀(w:World) (h:Heap),YP w h→(K w.params).In h∧zi (K w.params) [(100,98)] h)
 (F:∀(w:World) (mg:Str→Option Value) (fa:Addr) (h:Heap),(K w.params).In h→h.Ns mainGlobals mg→mg d.name=some (.ref fa)→
   ∃fd:FuncData,(∀(s:Shared) (u:Value),BindsTo s fd ⟨[u],[]⟩ [("_law_script",u)])∧∀base:Heap,(K w.params).In base→base.Ns mainGlobals mg→aB l.prog w (K w.params) mg base aU 8 fa fd ["_law_script"] (pU (K w.params) [(100,98)])):
 PySem.W.WalkO q loose XP YP l.row.toRowW d [] (fun f vs=>PySem.call f vs):=
 L2.Eg (n:=63) (k:=8) (x:="_law_script") (ts:=[(100,98)]) (sp:=fun w=>pU (K w.params) [(100,98)]) hn (by decide) hdf ⟨rfl,by decide,by decide⟩ hq hgt hY F fun _ _ a ns hl hE=>⟨a,ns,rfl,hE,hl,fun _=>rfl⟩
end Row
open PySem PySem.W PyProof.Rows
set_option maxRecDepth 100000 in
set_option maxHeartbeats 0 in
theorem PySem.Challenge.cw_latticeworks_k13_one_form_holds : PySem.Challenge.rw_latticeworks_k13_one_form.Holds := by
 w_on;o_law;k_head;(case hw=>w_witness2)
 k_fill
 refine Row.walk (l:=PySem.Challenge.rw_latticeworks_k13_one_form) rfl rfl (by first|rfl|kernel_rfl|decide+kernel) rfl (fun w h Y=>⟨PySem.W.km_in_of Y,⟨(fun q hq=>by rcases List.mem_cons.mp hq with rfl|hq;(first|kernel_rfl|k_is);cases hq),(fun q hq=>by rcases List.mem_cons.mp hq with rfl|hq;(first|kernel_rfl|(with_unfolding_all rfl));cases hq),fun q hq=>PySem.W.km_tabs_of Y _ (List.mem_map_of_mem (f:=Prod.snd) hq)⟩⟩) ?F
 case F=>
  intro w mg fa h KX G hmg
  refine' Row.all_mk KX G hmg ?a0 ?l0 ?c0 ?k0 ?a1 ?l1 ?c1 ?k1 ?a2 ?l2 ?c2 ?k2 ?a3 ?l3 ?c3 ?k3 ?a4 ?l4 ?c4 ?k4 ?a5 ?l5 ?c5 ?k5 ?a6 ?l6 ?c6 ?k6 ?a7 ?l7 ?c7 ?k7 ?a8 ?l8 ?c8 ?k8 ?a9 ?i9 ?l9 ?c9 ?k9 ?a10 ?i10 ?l10 ?c10 ?k10 ?a11 ?i11 ?l11 ?c11 ?k11 ?a12 ?i12 ?l12 ?c12 ?k12 ?a13 ?i13 ?l13 ?c13 ?k13 ?hC13 ?a14 ?i14 ?l14 ?c14 ?k14 ?a15 ?i15 ?l15 ?c15 ?k15 ?a16 ?l16 ?c16 ?k16 ?a17 ?l17 ?c17 ?k17 ?a18 ?l18 ?c18 ?k18 ?a19 ?l19 ?c19 ?k19 ?a20 ?l20 ?c20 ?k20 ?a21 ?l21 ?c21 ?k21 ?a22 ?l22 ?c22 ?k22 ?a23 ?l23 ?c23 ?k23 ?a24 ?l24 ?c24 ?k24 ?a25 ?l25 ?c25 ?k25 ?a26 ?l26 ?c26 ?k26 ?a27 ?l27 ?c27 ?k27 ?z_tuple ?z_zip ?z_range ?z_list ?z_len ?z_abs ?z_sorted ?ca_Bench ?cb_Bench ?cc_Bench ?cd_Bench ?ce_Bench ?cf_Bench ?cg_Bench ?bq ?cG ?bo ?nl
  (case a0=>k_is)
  (case l0=>k_is)
  (case c0=>k_is)
  (case k0=>k_is)
  (case a1=>k_is)
  (case l1=>k_is)
  (case c1=>k_is)
  (case k1=>k_is)
  (case a2=>k_is)
  (case l2=>k_is)
  (case c2=>k_is)
  (case k2=>k_is)
  (case a3=>k_is)
  (case l3=>k_is)
  (case c3=>k_is)
  (case k3=>k_is)
  (case a4=>k_is)
  (case l4=>k_is)
  (case c4=>k_is)
  (case k4=>k_is)
  (case a5=>k_is)
  (case l5=>k_is)
  (case c5=>k_is)
  (case k5=>k_is)
  (case a6=>k_is)
  (case l6=>k_is)
  (case c6=>k_is)
  (case k6=>k_is)
  (case a7=>k_is)
  (case l7=>k_is)
  (case c7=>k_is)
  (case k7=>k_is)
  (case a8=>k_is)
  (case l8=>k_is)
  (case c8=>k_is)
  (case k8=>k_is)
  (case a9=>k_is)
  (case i9=>k_is)
  (case l9=>k_is)
  (case c9=>k_is)
  (case k9=>k_is)
  (case a10=>k_is)
  (case i10=>k_is)
  (case l10=>k_is)
  (case c10=>k_is)
  (case k10=>k_is)
  (case a11=>k_is)
  (case i11=>k_is)
  (case l11=>k_is)
  (case c11=>k_is)
  (case k11=>k_is)
  (case a12=>k_is)
  (case i12=>k_is)
  (case l12=>k_is)
  (case c12=>k_is)
  (case k12=>k_is)
  (case a13=>k_is)
  (case i13=>k_is)
  (case l13=>k_is)
  (case c13=>k_is)
  (case k13=>k_is)
  (case hC13=>first|kernel_rfl|k_is)
  (case a14=>k_is)
  (case i14=>k_is)
  (case l14=>k_is)
  (case c14=>k_is)
  (case k14=>k_is)
  (case a15=>k_is)
  (case i15=>k_is)
  (case l15=>k_is)
  (case c15=>k_is)
  (case k15=>k_is)
  (case a16=>k_is)
  (case l16=>k_is)
  (case c16=>k_is)
  (case k16=>k_is)
  (case a17=>k_is)
  (case l17=>k_is)
  (case c17=>k_is)
  (case k17=>k_is)
  (case a18=>k_is)
  (case l18=>k_is)
  (case c18=>k_is)
  (case k18=>k_is)
  (case a19=>k_is)
  (case l19=>k_is)
  (case c19=>k_is)
  (case k19=>k_is)
  (case a20=>k_is)
  (case l20=>k_is)
  (case c20=>k_is)
  (case k20=>k_is)
  (case a21=>k_is)
  (case l21=>k_is)
  (case c21=>k_is)
  (case k21=>k_is)
  (case a22=>k_is)
  (case l22=>k_is)
  (case c22=>k_is)
  (case k22=>k_is)
  (case a23=>k_is)
  (case l23=>k_is)
  (case c23=>k_is)
  (case k23=>k_is)
  (case a24=>k_is)
  (case l24=>k_is)
  (case c24=>k_is)
  (case k24=>k_is)
  (case a25=>k_is)
  (case l25=>k_is)
  (case c25=>k_is)
  (case k25=>k_is)
  (case a26=>k_is)
  (case l26=>k_is)
  (case c26=>k_is)
  (case k26=>k_is)
  (case a27=>k_is)
  (case l27=>k_is)
  (case c27=>k_is)
  (case k27=>k_is)
  (case z_tuple=>k_is)
  (case z_zip=>k_is)
  (case z_range=>k_is)
  (case z_list=>k_is)
  (case z_len=>k_is)
  (case z_abs=>k_is)
  (case z_sorted=>k_is)
  (case ca_Bench=>k_is)
  (case cb_Bench=>k_is)
  (case cc_Bench=>k_is)
  (case cd_Bench=>k_is)
  (case ce_Bench=>k_is)
  (case cf_Bench=>k_is)
  (case cg_Bench=>k_is)
  (case bq=>k_is)
  (case cG=>k_is)
  (case bo=>k_is)
  (case nl=>first|(with_unfolding_all rfl)|kernel_rfl)
