import PyProof.Rows.All
import Wide.All
import OpenK.AllK
import Wide.FinOn
import Lean
import PyProof.EqAt
import PyProof.EqKinds
import PyProof.TupleCall
import PyProof.NeKinds
import PySem.Challenge.RW_latticeworks_k12_forms_made
set_option Elab.async false
set_option linter.all false
set_option maxRecDepth 100000
namespace L2
open PySem PySem.Spec PyProof.Rows
abbrev Key:=Sum Int Str
def Ak:Key→Value→Bool
 | .inl k,v=>Value.isInt k v
 | .inr x,v=>Value.isStrOf x v
def Gj(w:World):Key→Int
 | .inl k=>hashInt k
 | .inr x=>hashStr w x
theorem dR:∀ {k:Key} {v:Value},Ak k v=true→(∃i t,k=Sum.inl i∧v=Value.int i t)∨(∃x t,k=Sum.inr x∧v=Value.str x t)
 | .inl i,v,h=>by
   obtain⟨t,e⟩:=Value.isInt_shape (k:=i) (v:=v) h
   exact .inl ⟨i,t,rfl,e⟩
 | .inr x,v,h=>by
   obtain⟨t,e⟩:=Value.isStrOf_shape (x:=x) (v:=v) h
   exact .inr ⟨x,t,rfl,e⟩
theorem CI(a b:Int):decide ((Sum.inl a:Key)=Sum.inl b)=(a==b):=by
 by_cases e:a=b
 · subst e;simp
 · have h:¬(Sum.inl a:Key)=Sum.inl b:=fun q=>e (Sum.inl.inj q)
   rw[decide_eq_false h]
   exact(beq_eq_false_iff_ne.mpr e).symm
theorem B6(a b:Str):decide ((Sum.inr a:Key)=Sum.inr b)=decide (a=b):=by
 by_cases e:a=b
 · subst e;simp
 · have h:¬(Sum.inr a:Key)=Sum.inr b:=fun q=>e (Sum.inr.inj q)
   rw[decide_eq_false h,decide_eq_false e]
theorem CS(a:Int)(b:Str):decide ((Sum.inl a:Key)=Sum.inr b)=false:=decide_eq_false (fun q=>nomatch q)
theorem BR(a:Str)(b:Int):decide ((Sum.inr a:Key)=Sum.inl b)=false:=decide_eq_false (fun q=>nomatch q)
def uO(prog:Program)(w:World):PySem.KeyKind prog w Key where
 is:=Ak
 hash:=Gj w
 inj:=fun v a b ha hb=>by
  rcases dR ha with⟨i,t,rfl,rfl⟩|⟨x,t,rfl,rfl⟩
  · rcases dR hb with⟨j,u,rfl,e⟩|⟨y,u,rfl,e⟩
    · injection e with e1 _;rw[e1]
    · exact nomatch e
  · rcases dR hb with⟨j,u,rfl,e⟩|⟨y,u,rfl,e⟩
    · exact nomatch e
    · injection e with e1 _;rw[e1]
 byValue:=fun k v h=>by
  rcases dR h with⟨i,t,rfl,rfl⟩|⟨x,t,rfl,rfl⟩<;>rfl
 pyHash:=fun hv h=>by
  rcases dR hv with⟨i,t,rfl,rfl⟩|⟨x,t,rfl,rfl⟩
  · exact wpAny_pyHash_int h
  · exact wpAny_pyHash_str h
 eqBool:=fun hu hv h=>by
  rcases dR hu with⟨i,t,rfl,rfl⟩|⟨x,t,rfl,rfl⟩
  · rcases dR hv with⟨j,u,rfl,rfl⟩|⟨y,u,rfl,rfl⟩
    · rw[CI]at h;exact wpAny_eqBool_int h
    · rw[CS]at h;exact SeqAt.EqAt.int_str i t y u _ _ _ _ h
  · rcases dR hv with⟨j,u,rfl,rfl⟩|⟨y,u,rfl,rfl⟩
    · rw[BR]at h;exact SeqAt.EqAt.str_int x t j u _ _ _ _ h
    · rw[B6]at h;exact wpAny_eqBool_str h
 «strs» :=fun k x t v h=>by
  rcases dR h with⟨i,u,rfl,e⟩|⟨y,u,rfl,e⟩
  · exact nomatch e
  · injection e with e1 _
    subst e1
    cases v<;>rfl
end L2
namespace L2
open PySem PySem.Spec PyProof.Rows
inductive V where
 |aA|bl (b:Bool)|int (i:Int)|str (x:Str)|nJ (b:Array UInt8)|nC (b:UInt64)|ref (a:Addr)|ty (n:String)
 deriving DecidableEq
def RelV:V→Value→Prop
 | .aA,u=>u=Value.none
 | .bl b,u=>u=Value.bool b
 | .int i,u=>∃t,u=Value.int i t
 | .str x,u=>∃t,u=Value.str x t
 | .nJ b,u=>∃t,u=Value.bytes b t
 | .nC b,u=>∃t,u=Value.float b t
 | .ref a,u=>u=Value.ref a
 | .ty n,u=>u=Value.type n
abbrev Vals:List V→List Value→Prop:=Paired RelV
theorem Vals.length{xs:List V}{us:List Value}(r:Vals xs us):xs.length=us.length:=Paired.length r
theorem Vals.get:∀ {xs:List V} {us:List Value} {i:Nat} {x:V},Vals xs us→xs[i]?=some x→∃u,us[i]?=some u∧RelV x u
 |_,_,_,_,.nil,e=>by simp at e
 |_,_,0,_,.cons r _,e=>by simp at e;subst e;exact⟨_,rfl,r⟩
 |_,_,i+1,x,.cons _ t,e=>by
  obtain⟨u,h1,h2⟩:=Vals.get (i:=i) (x:=x) t (by simpa using e)
  exact⟨u,by simpa using h1,h2⟩
theorem Vals.set{x:V}{u:Value}(r:RelV x u):∀ {xs:List V} {us:List Value} (i:Nat),Vals xs us→Vals (xs.set i x) (us.set i u)
 |_,_,_,.nil=> .nil
 |_,_,0,.cons _ t=> .cons r t
 |_,_,i+1,.cons q t=> .cons q (Vals.set r i t)
theorem Vals.append:∀ {xs ys:List V} {us ws:List Value},Vals xs us→Vals ys ws→Vals (xs++ys) (us++ws)
 |_,_,_,_,.nil,s=>s
 |_,_,_,_,.cons r t,s=> .cons r (Vals.append t s)
theorem Vals.take:∀ {xs:List V} {us:List Value} (n:Nat),Vals xs us→Vals (xs.take n) (us.take n)
 |_,_,0,_=> .nil
 |_,_,_+1,.nil=> .nil
 |_,_,n+1,.cons r t=> .cons r (Vals.take n t)
theorem Vals.drop:∀ {xs:List V} {us:List Value} (n:Nat),Vals xs us→Vals (xs.drop n) (us.drop n)
 |_,_,0,r=>r
 |_,_,_+1,.nil=> .nil
 |_,_,n+1,.cons _ t=>Vals.drop n t
def kE:Option V→Option Value→Prop
 |some v,some u=>RelV v u
 |none,none=>True
 |_,_=>False
def KV{κ:Type}:List (κ×V)→List (κ×Value)→Prop:=Paired fun(p:κ×V) (q:κ×Value)=>p.1=q.1∧RelV p.2 q.2
def kV:Key→V
 | .inl i=> .int i
 | .inr x=> .str x
inductive HO where
 |lst (xs:List V)
 |tup (xs:List V)
 |dK (kvs:List (Key×V))|dT (kvs:List (List Key×V))
 |set (S:Int→Bool) (n:Nat)
 |ins (C dx:Addr) (fs:List (Str×V))
 |own (x:Addr)
 |xd (fs:List (Str×V))
 |met (f x:Addr)
 |CG (lo hi:Int)
 |fo (o:Obj) (u:HO)
 |h_ (ps:Array Value)
 |ext (φ:Heap→Prop)
abbrev Hp:=Addr→Option HO
def upd(H:Hp)(a:Addr)(o:HO):Hp:=fun b=>if b=a then some o else H b
theorem aT{H:Hp}{a:Addr}{o:HO}:upd H a o a=some o:=by unfold upd;rw[if_pos rfl]
theorem aB{H:Hp}{a b:Addr}{o:HO}(h:b≠a):upd H a o b=H b:=by unfold upd;rw[if_neg h]
theorem AU{H:Hp}{a:Addr}{o u:HO}:upd (upd H a o) a u=upd H a u:=by
 funext b;unfold upd;split<;>rfl
theorem cQ{H:Hp}{a b:Addr}{o:HO}(h:H a=some o)(h':H b=none):a≠b:=by
 intro e;subst e;rw[h]at h';cases h'
section
variable (P:Program)(w:World)
def cR(H:Hp)(h:Heap)(a:Addr):HO→Prop
 | .lst xs=>xs.length≤sizeLine∧∃(its:List Value) (n:Nat),Vals xs its∧h.get? a=some {cls:= .type "list",data:= .seq its.toArray n}
 | .tup xs=>xs.length≤sizeLine∧∃its:List Value,Vals xs its∧IsTup h a its.toArray
 | .dK kvs=>kvs.length≤sizeLine∧(a==sysModules)=false∧∃vs,KV kvs vs∧h.DictOf (uO P w) a vs
 | .dT kvs=>kvs.length≤sizeLine∧(a==sysModules)=false∧∃xs:List (List Key×Addr×Value),
    Paired (fun(p:List Key×V) (q:List Key×Addr×Value)=>p.1=q.1∧H q.2.1=some (.tup (p.1.map kV))∧RelV p.2 q.2.2) kvs xs∧
    ∃o es ep,h.get? a=some o∧o.ExactDict∧o.data= .dict es ep∧es.toList=xs.map (entryOfKey (tupleKind (uO P w)))∧(xs.map (·.1)).Nodup
 | .set S n=>h.SetOf (intKind P w) a S n
 | .ins C dx fs=>H dx=some (.own a)∧fs.length≤1000∧dx≠a∧h.get? a=some (PySem.W.instObj C dx)∧
    ∃mA,h.Ns1 dx mA∧(∀f,kE (fs.lookup f) (mA f))∧PySem.Within mA (fs.map (·.1))
 | .own _=>∃o,h.get? a=some o
 | .xd fs=>∃mA,h.Ns1 a mA∧∀f,kE (fs.lookup f) (mA f)
 | .CG lo hi=>∃t u v,h.get? a=some {cls:= .type "range",data:= .fields #[.int lo t,.int hi u,.int 1 v]}
 | .fo o u=>h.get? a=some o∧cR H h a u
 | .h_ ps=>h.get? a=some {cls:= .none,data:= .fields ps}
 | .met f x=>h.get? a=some (PySem.W.methodObj (.ref f) (.ref x))
 | .ext φ=>φ h∧(∃o,h.get? a=some o)∧∀h1 h2:Heap,φ h1→(∀o,h1.get? a=some o→h2.get? a=some o)→φ h2
def fS(H:Hp)(h:Heap):Prop:=∀a o,H a=some o→cR P w H h a o
end
section
variable {P:Program}{w:World}{H H':Hp}{h h':Heap}{a:Addr}{o:HO}
theorem cR.lt(x:cR P w H h a o):a<h.objs.size:=by
 cases o with
 |lst xs=>obtain⟨_,_,_,_,e⟩:=x;exact Heap.lt_size e
 |tup xs=>obtain⟨_,_,_,p⟩:=x;exact p.lt
 |dK kvs=>obtain⟨_,_,_,_,o,_,_,e,_⟩:=x;exact Heap.lt_size e
 |dT kvs=>obtain⟨_,_,_,_,o,_,_,e,_⟩:=x;exact Heap.lt_size e
 |set S n=>obtain⟨o,_,_,_,e,_⟩:=x;exact Heap.lt_size e
 |ins C dx fs=>obtain⟨_,_,_,e,_⟩:=x;exact Heap.lt_size e
 |own y=>obtain⟨_,e⟩:=x;exact Heap.lt_size e
 |xd fs=>obtain⟨_,⟨_,_,_,e,_⟩,_⟩:=x;exact Heap.lt_size e
 |CG lo hi=>obtain⟨_,_,_,e⟩:=x;exact Heap.lt_size e
 |fo ob u=>obtain⟨e,_⟩:=x;exact Heap.lt_size e
 |h_ ps=>exact Heap.lt_size (show h.get? a=some _ from x)
 |met f y=>exact Heap.lt_size (show h.get? a=some _ from x)
 |ext φ=>obtain⟨_,⟨_,e⟩,_⟩:=x;exact Heap.lt_size e
theorem Paired.yt{α β:Type}{F G:α→β→Prop}:∀ {l₁:List α} {l₂:List β},Paired F l₁ l₂→(∀a b,F a b→G a b)→Paired G l₁ l₂
 |_,_,.nil,_=> .nil
 |_,_,.cons r t,f=> .cons (f _ _ r) (Paired.yt t f)
theorem cR.ky(x:cR P w H h a o)(k:∀b u,(b=a∨H b=some (.own a))→h.get? b=some u→h'.get? b=some u)
 (ho:∀b,H b=some (.own a)→H' b=some (.own a)) (ht:∀b xs,H b=some (.tup xs)→H' b=some (.tup xs)):cR P w H' h' a o:=by
 induction o with
 |lst xs=>obtain⟨z,its,n,r,e⟩:=x;exact⟨z,its,n,r,k _ _ (.inl rfl) e⟩
 |tup xs=>obtain⟨z,its,r,ob,e,c⟩:=x;exact⟨z,its,r,ob,k _ _ (.inl rfl) e,c⟩
 |dK kvs=>obtain⟨z,y,vs,r,ob,es,ep,e,c⟩:=x;exact⟨z,y,vs,r,ob,es,ep,k _ _ (.inl rfl) e,c⟩
 |dT kvs=>
  obtain⟨z,y,xs,r,ob,es,ep,e,c⟩:=x
  exact⟨z,y,xs,Paired.yt r fun p q z=>⟨z.1,ht _ _ z.2.1,z.2.2⟩,ob,es,ep,k _ _ (.inl rfl) e,c⟩
 |set S n=>obtain⟨ob,es,ep,t,e,c⟩:=x;exact⟨ob,es,ep,t,k _ _ (.inl rfl) e,c⟩
 |ins C dx fs=>
  obtain⟨d,z,ne,e,mA,⟨od,es,ep,e2,c⟩,r⟩:=x
  exact⟨ho _ d,z,ne,k _ _ (.inl rfl) e,mA,⟨od,es,ep,k _ _ (.inr d) e2,c⟩,r⟩
 |own y=>obtain⟨ob,e⟩:=x;exact⟨ob,k _ _ (.inl rfl) e⟩
 |xd fs=>obtain⟨mA,⟨od,es,ep,e,c⟩,r⟩:=x;exact⟨mA,⟨od,es,ep,k _ _ (.inl rfl) e,c⟩,r⟩
 |CG lo hi=>obtain⟨t,u,v,e⟩:=x;exact⟨t,u,v,k _ _ (.inl rfl) e⟩
 |fo ob u ih=>obtain⟨e,q⟩:=x;exact⟨k _ _ (.inl rfl) e,ih q⟩
 |h_ ps=>
  have e:h.get? a=some {cls:= .none,data:= .fields ps}:=x
  show h'.get? a=some {cls:= .none,data:= .fields ps}
  exact k a _ (.inl rfl) e
 |met f y=>
  have e:h.get? a=some (PySem.W.methodObj (.ref f) (.ref y)):=x
  show h'.get? a=some (PySem.W.methodObj (.ref f) (.ref y))
  exact k a _ (.inl rfl) e
 |ext φ=>obtain⟨p,⟨o,e⟩,st⟩:=x;exact⟨st _ _ p fun o q=>k _ _ (.inl rfl) q,⟨o,k _ _ (.inl rfl) e⟩,st⟩
theorem fS.lt(x:fS P w H h)(e:H a=some o):a<h.objs.size:=(x a o e).lt
theorem fS.fresh(x:fS P w H h)(e:h.objs.size≤a):H a=none:=by
 cases q:H a with
 |none=>rfl
 |some u=>exact absurd (Nat.lt_of_lt_of_le (x.lt q) e) (Nat.lt_irrefl _)
theorem fS.kept(x:fS P w H h)(k:∀b u,h.get? b=some u→h'.get? b=some u):fS P w H h':=fun a o e=>
 (x a o e).ky (fun b u _ q=>k b u q) (fun _ q=>q) fun _ _ q=>q
theorem fS.laid(x:fS P w H h)(k:∀b u,h.get? b=some u→h'.get? b=some u)(hp:h.objs.size≤a)(new:cR P w (upd H a o) h' a o):fS P w (upd H a o) h':=fun b u e=>by
 have hn:=x.fresh hp
 by_cases hb:b=a
 · subst hb;rw[aT]at e;cases e;exact new
 · rw[aB hb]at e
   exact(x b u e).ky (fun c v _ q=>k c v q) (fun c q=>by rw[aB (cQ q hn)];exact q) fun c xs q=>by rw[aB (cQ q hn)];exact q
end
def Rd(H:Hp)(a:Addr)(u:HO):Prop:=H a=some u∨∃o,H a=some (.fo o u)
theorem Rd.of{H:Hp}{a:Addr}{u:HO}(h:H a=some u):Rd H a u:= .inl h
theorem Rd.ok{P:Program}{w:World}{H:Hp}{h:Heap}{a:Addr}{u:HO}(r:Rd H a u)(x:fS P w H h):cR P w H h a u:=by
 rcases r with r|⟨o,r⟩
 · exact x a u r
 · obtain⟨_,q⟩:=x a _ r
   exact q
def Ar:Option HO→Prop
 |some (.lst _)=>True
 |some (.dK _)=>True
 |some (.dT _)=>True
 |some (.set _ _)=>True
 |some (.ins _ _ _)=>True
 |some (.ext _)=>True
 |_=>False
section
variable {P:Program}{w:World}{H:Hp}{h h':Heap}{x e:Addr}{o':HO}
theorem fS.write(ok:fS P w H h)(mu:Ar (H x))(he:e=x∨H e=some (.own x))(k:∀b u,b≠e→h.get? b=some u→h'.get? b=some u)(heo:∃u,h'.get? e=some u)
 (new:cR P w (upd H x o') h' x o'):fS P w (upd H x o') h':=fun b u q=>by
 have nown:∀c y,H c=some (.own y)→c≠x:=fun c y r z=>by subst z;rw[r]at mu;exact mu
 have ntup:∀c xs,H c=some (.tup xs)→c≠x:=fun c xs r z=>by subst z;rw[r]at mu;exact mu
 by_cases hb:b=x
 · subst hb;rw[aT]at q;cases q;exact new
 · rw[aB hb]at q
   by_cases hbe:b=e
   · have q':H b=some (.own x):=by
      rcases he with z|z
      · exact absurd (hbe.trans z) hb
      · rw[hbe];exact z
     rw[q]at q';cases q'
     obtain⟨v,hv⟩:=heo
     exact⟨v,by rw[hbe];exact hv⟩
   · refine(ok b u q).ky (fun c v hc r=>k c v ?_ r) (fun c r=>by rw[aB (nown c b r)];exact r) fun c xs r=>by rw[aB (ntup c xs r)];exact r
     rcases hc with rfl|hc
     · exact hbe
     · rintro rfl
       rcases he with z|z
       · exact nown c b hc z
       · rw[hc]at z;cases z;exact hb rfl
end
structure Un(fs ex:List Addr)(H H':Hp)(h h':Heap):Prop where
 keep:∀b o,h.get? b=some o→H b=none→b∉fs→b∉ex→h'.get? b=some o
 slot:∀b o,h.get? b=some o→H b=none→b∈fs→b∉ex→∃sl,h'.get? b=some {o with slots:=sl}
 free:∀b o,h.get? b=some o→H b=none→b∉ex→H' b=none
 there:∀b o,h.get? b=some o→b∉ex→∃o',h'.get? b=some o'
 kB:∀b xs,H b=some (.tup xs)→H' b=some (.tup xs)
 jX:∀b o u,H b=some (.fo o u)→H' b=some (.fo o u)
 j6:∀b ps,H b=some (.h_ ps)→∃more,H' b=some (.h_ (ps++more))
section
variable {fs fs' ex ex':List Addr}{H H1 H2:Hp}{h h1 h2 h':Heap}{a x e:Addr}{o:HO}
theorem Un.any(u:Un fs ex H H1 h h1){b:Addr}{ob:Obj}(q:h.get? b=some ob)(n:H b=none)(hx:b∉ex):∃sl,h1.get? b=some {ob with slots:=sl}:=by
 by_cases hb:b∈fs
 · exact u.slot b ob q n hb hx
 · exact⟨ob.slots,u.keep b ob q n hb hx⟩
theorem Un.kept(k:∀b u,h.get? b=some u→h'.get? b=some u):Un fs ex H H h h':=
 ⟨fun b ob q _ _ _=>k b ob q,fun b ob q _ _ _=>⟨ob.slots,k b ob q⟩,fun _ _ _ n _=>n,fun b ob q _=>⟨ob,k b ob q⟩,fun _ _ q=>q,fun _ _ _ q=>q,fun _ ps q=>⟨#[],by rw[q];simp⟩⟩
theorem Un.refl:Un fs ex H H h h:=Un.kept fun _ _ q=>q
theorem Un.laid(k:∀b u,h.get? b=some u→h'.get? b=some u)(hp:h.objs.size≤a)(hn:H a=none):Un fs ex H (upd H a o) h h' where
 keep:=fun b u q _ _ _=>k b u q
 slot:=fun b u q _ _ _=>⟨u.slots,k b u q⟩
 free:=fun b u q n _=>by rw[aB (Nat.ne_of_lt (Nat.lt_of_lt_of_le (Heap.lt_size q) hp))];exact n
 there:=fun b u q _=>⟨u,k b u q⟩
 kB:=fun b xs q=>by rw[aB (cQ q hn)];exact q
 jX:=fun b u xs q=>by rw[aB (cQ q hn)];exact q
 j6:=fun b ps q=>⟨#[],by rw[aB (cQ q hn),q];simp⟩
theorem Un.write(mu:Ar (H x))(he:e=x∨H e=some (.own x))(k:∀b u,b≠e→h.get? b=some u→h'.get? b=some u)(heo:∃u,h'.get? e=some u):Un fs ex H (upd H x o) h h':=by
 have hx:∀b,H b=none→b≠x:=fun b n z=>by subst z;rw[n]at mu;exact mu
 have hb:∀b,H b=none→b≠e:=fun b n z=>by
  subst z
  rcases he with r|r
  · exact hx b n r
  · rw[n]at r;cases r
 have hm:∀b u,H b=some u→¬Ar (some u)→b≠x:=fun b u q nm z=>by subst z;rw[q]at mu;exact nm mu
 refine⟨fun b u q n _ _=>k b u (hb b n) q,fun b u q n _ _=>⟨u.slots,k b u (hb b n) q⟩,fun b u q n _=>by rw[aB (hx b n)];exact n,fun b u q _=>?_,
  fun b xs q=>by rw[aB (hm b _ q fun z=>z)];exact q,fun b u xs q=>by rw[aB (hm b _ q fun z=>z)];exact q,fun b ps q=>⟨#[],by rw[aB (hm b _ q fun z=>z),q];simp⟩⟩
 by_cases hbe:b=e
 · subst hbe;exact heo
 · exact⟨u,k b u hbe q⟩
end
def Ag(h:Heap)(H:Hp):List Addr:=(List.range h.objs.size).filter fun a=>(H a).isSome
def kF(h:Heap)(H:Hp):Heap:=PySem.W.hideAll h (Ag h H)
theorem yj(h:Heap)(H:Hp):(kF h H).objs.size=h.objs.size:=PySem.W.hideAll_size _ _
theorem lJ{h:Heap}{H:Hp}{b:Addr}{o:Obj}(e:h.get? b=some o)(n:H b=none):(kF h H).get? b=some o:=
 PySem.W.hideAll_get _ e fun hm=>by
  have q:(H b).isSome=true:=(List.mem_filter.mp hm).2
  rw[n]at q;simp at q
theorem Az{h:Heap}{H:Hp}{b:Addr}{o:Obj}(e:(kF h H).get? b=some o):h.get? b=some o∧H b=none:=by
 have e':h.get? b=some o:=PySem.W.of_hideAll (Ag h H) e
 refine⟨e',?_⟩
 cases q:H b with
 |none=>rfl
 |some x=>
  have hm:b∈Ag h H:=List.mem_filter.mpr ⟨List.mem_range.mpr (Heap.lt_size e'),by simp[q]⟩
  have z:(kF h H).get? b=none:=PySem.W.hideAll_none (Ag h H) hm
  rw[z]at e;cases e
def AE(g h:Heap)(L:Addr):List (Addr×Obj):=(List.range h.objs.size).filterMap fun a=>if a=L∨(g.get? a).isSome=true then none else(h.get? a).map fun o=>(a,o)
def rest(g h:Heap)(L d:Addr):List (Addr×Obj):=(AE g h L).filter fun p=>decide (p.1≠d)
end L2
namespace L2
open PySem PySem.Spec PyProof.Rows
structure Mod(K:PySem.W.Frag)(mg:Str→Option Value)(base:Heap):Prop where
 wI:K.In base
 glob:base.Ns mainGlobals mg
 blt:∃mb,base.Ns builtinsNs mb∧∀x:Str,x≠"__name__"→mb x=bootBuiltins x
 nolimit:base.NoLimit
 seer:base.NoSeer
 bmain:∃bm ob,mg "__builtins__"=some (.ref bm)∧bm≠builtinsNs∧base.get? bm=some ob∧ob.cls= .type "module"∧ob.dict=some builtinsNs∧ob.data= .plain
structure Cx where
 prog:Program
 w:World
 K:PySem.W.Frag
 mg:Str→Option Value
 base:Heap
 A:Around
 N:List Str
 s₀:Shared
 H₀:Hp
 env:Env
 outer:List Env
 stack:List Env
 ex:List Addr
 fn:Str→Bool
 calm:Bool
 pn:List (Addr×Obj)
 xe:Value→Shared→Prop
def kI(l:List Env):List Addr:=l.filterMap (·.frame)
abbrev Cx.fs(X:Cx):List Addr:=kI X.outer
def tj(sc:Scope)(x:Str):Prop:=sc.names.lookup x=some .local∨sc.names.lookup x=some .cell∨sc.names.lookup x=some .free
def Loc(sc:Scope)(x:Str):Prop:=sc.names.lookup x=some .local∨sc.names.lookup x=some .cell
def Look(env:Env)(h:Heap)(m:Str→Option Value)(x:Str)(u:Value):Prop:=
 (env.kindOf x=some .local∧m x=some u)∨((env.kindOf x=some .cell∨env.kindOf x=some .free)∧∃c,env.cells.lookup x=some c∧h.IsCell c (some u))
structure Cx.Ok(X:Cx):Prop where
 mod:Mod X.K X.mg X.base
 kind:X.env.scope.kind= .function
 glob:X.env.globals=mainGlobals
 blt:X.env.builtins=builtinsNs
 above:X.s₀.heap.objs.size≤X.env.locals
 inj:∀x y c,X.env.cells.lookup x=some c→X.env.cells.lookup y=some c→x=y
 has:∀x,(X.env.kindOf x=some .cell∨X.env.kindOf x=some .free)→∃c,X.env.cells.lookup x=some c
 sj:∀x c,X.fn x=true→X.env.cells.lookup x=some c→X.s₀.heap.objs.size≤c
 hd:X.calm=true→X.A.handled=none
 frames:X.A.frames=some X.stack
 uH:X.stack=X.outer∨(X.stack=X.env::X.outer∧X.env.frame=some X.env.locals)
 xM:∀b∈X.ex,b≠X.env.locals∧∀x c,X.env.cells.lookup x=some c→c≠b
 bs:∀b o,X.base.get? b=some o→X.s₀.heap.get? b=some o∧X.H₀ b=none
 my:X.base.objs.size≤X.s₀.heap.objs.size
 oi:∀b o,X.base.get? b=some o→b∉X.ex
 n_:∀b∈X.ex,b∉X.fs
 ik:X.s₀.heap.FunFrames X.base X.outer
 oW:∀b∈X.fs,X.H₀ b=none
 gt:X.prog.given.tree=none
structure Inv(X:Cx)(pins:List (Addr×Obj))(σ:List (Option V))(H:Hp)(s:Shared):Prop where
 ok:X.Ok
 os:s.os=X.s₀.os
 bare:AllBare s.gens
 base:Un X.fs X.ex X.H₀ H X.s₀.heap s.heap
 loc:∃m,s.heap.Ns X.env.locals m∧∀(i:Nat) (x:Str) (v:V),X.N[i]?=some x→σ[i]?=some (some v)→tj X.env.scope x→∃u,RelV v u∧Look X.env s.heap m x u
 cell:∀x c,X.env.cells.lookup x=some c→∃v,s.heap.IsCell c v
 free:H X.env.locals=none
 gd:∀x c,X.env.cells.lookup x=some c→H c=none
 pin:∀p∈X.pn++pins,s.heap.get? p.1=some p.2∧H p.1=none∧p.1≠X.env.locals∧p.1∉X.fs∧∀v,p.2.data≠ .cell v
 aH:fS X.prog X.w H s.heap
 len:σ.length=X.N.length
section
variable {X:Cx}{pins:List (Addr×Obj)}{σ:List (Option V)}{H H':Hp}{s:Shared}{h':Heap}
theorem Cx.Ok.Gm(ok:X.Ok){b:Addr}{o:Obj}(e:X.base.get? b=some o):b∉X.fs:=fun hb=>by
 have:=(ok.ik.mem hb).1
 rw[e]at this;cases this
theorem Inv.bs(I:Inv X pins σ H s):∀b o,X.base.get? b=some o→s.heap.get? b=some o∧H b=none:=fun b o e=>
 ⟨I.base.keep b o (I.ok.bs b o e).1 (I.ok.bs b o e).2 (I.ok.Gm e) (I.ok.oi b o e),I.base.free b o (I.ok.bs b o e).1 (I.ok.bs b o e).2 (I.ok.oi b o e)⟩
theorem Inv.bk(I:Inv X pins σ H s):∀b o,X.base.get? b=some o→s.heap.get? b=some o:=fun b o e=>(I.bs b o e).1
theorem Inv.mod(I:Inv X pins σ H s):Mod X.K X.mg X.base:=I.ok.mod
theorem Inv.fI(I:Inv X pins σ H s):X.K.In s.heap:=I.ok.mod.wI.keeps I.bk
theorem Inv.nolimit(I:Inv X pins σ H s):s.heap.NoLimit:=I.ok.mod.nolimit.keeps I.bk
theorem Inv.lt(I:Inv X pins σ H s):X.env.locals<s.heap.objs.size:=let⟨_,hn,_⟩:=I.loc;hn.lt
theorem Inv.sz(I:Inv X pins σ H s):X.s₀.heap.objs.size≤s.heap.objs.size:=Nat.le_trans I.ok.above (Nat.le_of_lt I.lt)
theorem Inv.C6(I:Inv X pins σ H s){a:Addr}(h:s.heap.objs.size≤a):a∉X.fs:=fun hb=>by
 obtain⟨_,o,ho,_⟩:=I.ok.ik.mem hb
 exact absurd (Nat.lt_of_lt_of_le (Heap.lt_size ho) (Nat.le_trans I.sz h)) (Nat.lt_irrefl _)
theorem Inv.sD(I:Inv X pins σ H s):∀x c,X.env.cells.lookup x=some c→c≠X.env.locals:=fun x c e z=>by
 obtain⟨v,o,ho,hd⟩:=I.cell x c e
 obtain⟨m,⟨o',es,ep,ho',hd',_⟩,_⟩:=I.loc
 rw[z,ho']at ho;cases ho;rw[hd']at hd;cases hd
theorem Inv.ik(I:Inv X pins σ H s):s.heap.FunFrames X.base X.outer:=by
 have all:∀(l:List Env),(∀b∈kI l,b∈X.fs)→X.s₀.heap.FunFrames X.base l→s.heap.FunFrames X.base l:=by
  intro l
  induction l with
  |nil=>intro _ _;trivial
  |cons env r ih=>
   intro hs hl
   obtain⟨hk,⟨L,o,hf,hn,ho,hd⟩,hr⟩:=hl
   have hL:L∈X.fs:=hs L (by unfold kI;rw[List.filterMap_cons,hf];exact List.mem_cons_self)
   obtain⟨sl,e⟩:=I.base.slot L o ho (I.ok.oW L hL) hL fun z=>I.ok.n_ L z hL
   exact⟨hk,⟨L,_,hf,hn,e,hd⟩,ih (fun b hb=>hs b (by unfold kI;rw[List.filterMap_cons,hf];exact List.mem_cons_of_mem _ hb)) hr⟩
 exact all X.outer (fun _ hb=>hb) I.ok.ik
theorem Inv.stack(I:Inv X pins σ H s):s.heap.FunFrames X.base X.stack:=by
 rcases I.ok.uH with e|⟨e,hf⟩
 · rw[e];exact I.ik
 · rw[e]
   obtain⟨m,hn,_⟩:=I.loc
   refine .cons (by rw[I.ok.kind];decide) hf hn ?_ I.ik
   exact Heap.get?_none_of_le (Nat.le_trans I.ok.my I.ok.above)
theorem Inv.uh(I:Inv X pins σ H s):∀b∈kI X.stack,b∈X.env.locals::X.fs:=fun b hb=>by
 rcases I.ok.uH with e|⟨e,hf⟩
 · rw[e]at hb;exact List.mem_cons_of_mem _ hb
 · rw[e]at hb
   unfold kI at hb
   rw[List.filterMap_cons,hf]at hb
   exact hb
theorem Inv.pN(I:Inv X pins σ H s):∀b∈kI X.stack,H b=none:=fun b hb=>by
 rcases List.mem_cons.mp (I.uh b hb)with e|hb
 · rw[e];exact I.free
 · obtain⟨_,o,ho,_⟩:=I.ok.ik.mem hb
   exact I.base.free b o ho (I.ok.oW b hb) fun z=>I.ok.n_ b z hb
theorem Inv.step{g':Array GenState}{t':Nat}{d':Drawn}{ch:List Addr}(I:Inv X pins σ H s)
 (hch:∀b∈ch,(b∈X.ex∨X.s₀.heap.objs.size≤b)∧b≠X.env.locals∧(∀x c,X.env.cells.lookup x=some c→c≠b)∧∀p∈X.pn++pins,p.1≠b)
 (keep:∀b o,b≠X.env.locals→b∉X.fs→b∉ch→s.heap.get? b=some o→H b=none→h'.get? b=some o)
 (slot:∀b o,b≠X.env.locals→b∈X.fs→b∉ch→s.heap.get? b=some o→H b=none→∃sl,h'.get? b=some {o with slots:=sl}) (free:∀b o,b∉ch→s.heap.get? b=some o→H b=none→H' b=none)
 (there:∀b o,b∉ch→s.heap.get? b=some o→∃o',h'.get? b=some o')
 (kB:∀b xs,H b=some (.tup xs)→H' b=some (.tup xs)) (jX:∀b o u,H b=some (.fo o u)→H' b=some (.fo o u)) (j6:∀b ps,H b=some (.h_ ps)→∃more,H' b=some (.h_ (ps++more)))
 (ns:∀m,s.heap.Ns X.env.locals m→h'.Ns X.env.locals m) (aH:fS X.prog X.w H' h') (hg:AllBare g'):
 Inv X pins σ H' {s with heap:=h',gens:=g',drawn:=d',toks:=t'}:=by
 have neL:∀b o,X.s₀.heap.get? b=some o→b≠X.env.locals:=fun b o e=>Nat.ne_of_lt (Nat.lt_of_lt_of_le (Heap.lt_size e) I.ok.above)
 have neC:∀b o,X.s₀.heap.get? b=some o→b∉X.ex→b∉ch:=fun b o e hx hb=>by
  rcases(hch b hb).1 with z|z
  · exact hx z
  · exact absurd (Nat.lt_of_lt_of_le (Heap.lt_size e) z) (Nat.lt_irrefl _)
 have cellK:∀x c,X.env.cells.lookup x=some c→∀v,s.heap.IsCell c v→h'.IsCell c v:=fun x c e v ⟨o,ho,hd⟩=>by
  have nch:c∉ch:=fun z=>(hch c z).2.2.1 x c e rfl
  by_cases hc:c∈X.fs
  · obtain⟨sl,q⟩:=slot c o (I.sD x c e) hc nch ho (I.gd x c e)
    exact⟨_,q,hd⟩
  · exact⟨o,keep c o (I.sD x c e) hc nch ho (I.gd x c e),hd⟩
 refine⟨I.ok,I.os,hg,⟨fun b o e n hb hx=>?_,fun b o e n hb hx=>?_,fun b o e n hx=>?_,fun b o e hx=>?_,fun b xs e=>kB b xs (I.base.kB b xs e),fun b o xs e=>jX b o xs (I.base.jX b o xs e),fun b ps e=>?_⟩,?_,fun x c e=>?_,?_,fun x c e=>?_,fun p hp=>?_,aH,I.len⟩
 · exact keep b o (neL b o e) hb (neC b o e hx) (I.base.keep b o e n hb hx) (I.base.free b o e n hx)
 · obtain⟨sl,e1⟩:=I.base.slot b o e n hb hx
   obtain⟨sl',e2⟩:=slot b _ (neL b o e) hb (neC b o e hx) e1 (I.base.free b o e n hx)
   exact⟨sl',e2⟩
 · obtain⟨o',e1⟩:=I.base.there b o e hx
   exact free b o' (neC b o e hx) e1 (I.base.free b o e n hx)
 · obtain⟨o',e1⟩:=I.base.there b o e hx
   exact there b o' (neC b o e hx) e1
 · obtain⟨m1,e1⟩:=I.base.j6 b ps e
   obtain⟨m2,e2⟩:=j6 b _ e1
   exact⟨m1++m2,by rw[e2,Array.append_assoc]⟩
 · obtain⟨m,hn,hl⟩:=I.loc
   refine⟨m,ns m hn,fun i x v e1 e2 e3=>?_⟩
   obtain⟨u,r,l⟩:=hl i x v e1 e2 e3
   refine⟨u,r,?_⟩
   rcases l with l|⟨k,c,e,z⟩
   · exact .inl l
   · exact .inr ⟨k,c,e,cellK x c e _ z⟩
 · obtain⟨v,z⟩:=I.cell x c e
   exact⟨v,cellK x c e v z⟩
 · obtain⟨m,⟨o,_,_,ho,_⟩,_⟩:=I.loc
   exact free _ o (fun z=>(hch _ z).2.1 rfl) ho I.free
 · obtain⟨v,o,ho,hd⟩:=I.cell x c e
   exact free c o (fun z=>(hch c z).2.2.1 x c e rfl) ho (I.gd x c e)
 · obtain⟨e,n,ne,nf,d⟩:=I.pin p hp
   have nch:p.1∉ch:=fun z=>(hch p.1 z).2.2.2 p hp rfl
   exact⟨keep p.1 p.2 ne nf nch e n,free p.1 p.2 nch e n,ne,nf,d⟩
theorem Inv.un{t':Nat}(I:Inv X pins σ H s)(u:Un X.fs [] H H' s.heap h')(aH:fS X.prog X.w H' h'):Inv X pins σ H' {s with heap:=h',toks:=t'}:=by
 obtain⟨m,⟨o,es,ep,ho,r⟩,_⟩:=id I.loc
 obtain⟨sl,hL⟩:=u.any ho I.free (by simp)
 exact I.step (g':=s.gens) (d':=s.drawn) (ch:=[]) (fun _ z=>nomatch z) (fun b o _ hb _ e n=>u.keep b o e n hb (by simp)) (fun b o _ hb _ e n=>u.slot b o e n hb (by simp)) (fun b o _ e n=>u.free b o e n (by simp)) (fun b o _ e=>u.there b o e (by simp)) u.kB u.jX u.j6 (fun m' hm=>by
  obtain⟨o',es',ep',ho',r'⟩:=hm
  rw[ho]at ho';cases ho'
  exact⟨_,es',ep',hL,r'⟩) aH I.bare
theorem Inv.call{g':Array GenState}{t':Nat}{d':Drawn}{ch:List Addr}(I:Inv X pins σ H s)(u:Un (kI X.stack) ch H H' s.heap h')(aH:fS X.prog X.w H' h')(hg:AllBare g')
 (hch:∀b∈ch,(b∈X.ex∨X.s₀.heap.objs.size≤b)∧b≠X.env.locals∧(∀x c,X.env.cells.lookup x=some c→c≠b)∧∀p∈X.pn++pins,p.1≠b):
 Inv X pins σ H' {s with heap:=h',gens:=g',drawn:=d',toks:=t'}:=by
 obtain⟨m,⟨o,es,ep,ho,r⟩,_⟩:=id I.loc
 obtain⟨sl,hL⟩:=u.any ho I.free fun z=>(hch _ z).2.1 rfl
 exact I.step (ch:=ch) hch (fun b o hL hb hc e n=>u.keep b o e n (fun z=>(List.mem_cons.mp (I.uh b z)).elim hL hb) hc) (fun b o _ _ hc e n=>u.any e n hc) (fun b o hc e n=>u.free b o e n hc) (fun b o hc e=>u.there b o e hc) u.kB u.jX u.j6 (fun m' hm=>by
  obtain⟨o',es',ep',ho',r'⟩:=hm
  rw[ho]at ho';cases ho'
  exact⟨_,es',ep',hL,r'⟩) aH hg
theorem Inv.turned{t':Nat}{it:Addr}(I:Inv X pins σ H s)(k:∀b o,b≠it→s.heap.get? b=some o→h'.get? b=some o)(hn:H it=none)(hL:it≠X.env.locals)
 (h1:it∈X.ex∨X.s₀.heap.objs.size≤it) (h2:∀x c,X.env.cells.lookup x=some c→c≠it) (h3:∀p∈X.pn++pins,p.1≠it):Inv X pins σ H {s with heap:=h',toks:=t'}:=by
 have nit:∀b u,H b=some u→b≠it:=fun b u e z=>by rw[z,hn]at e;cases e
 refine I.step (g':=s.gens) (d':=s.drawn) (ch:=[it]) (fun b hb=>?_) (fun b o _ _ hc e _=>k b o (fun z=>hc (by simp[z])) e) (fun b o _ _ hc e _=>⟨o.slots,k b o (fun z=>hc (by simp[z])) e⟩) (fun _ _ _ _ n=>n)
  (fun b o hc e=>⟨o,k b o (fun z=>hc (by simp[z])) e⟩) (fun _ _ e=>e) (fun _ _ _ e=>e) (fun b ps e=>⟨#[],by rw[e];simp⟩) (fun m hm=>?_) (fun b u e=>?_) I.bare
 · have e:b=it:=by simpa using hb
   subst e
   exact⟨h1,hL,h2,h3⟩
 · obtain⟨o,es,ep,ho,r⟩:=hm
   exact⟨o,es,ep,k _ o (Ne.symm hL) ho,r⟩
 · refine(I.aH b u e).ky (fun c v hc q=>k c v ?_ q) (fun _ q=>q) fun _ _ q=>q
   rcases hc with z|z
   · rw[z];exact nit b u e
   · exact nit c _ z
theorem Inv.tok(I:Inv X pins σ H s)(t:Nat):Inv X pins σ H {s with toks:=t}:=I.un (h':=s.heap) (t':=t) Un.refl I.aH
theorem Inv.kept{t':Nat}(I:Inv X pins σ H s)(k:∀b u,s.heap.get? b=some u→h'.get? b=some u):Inv X pins σ H {s with heap:=h',toks:=t'}:=I.un (Un.kept k) (I.aH.kept k)
theorem Inv.laid{a:Addr}{o:HO}{t':Nat}(I:Inv X pins σ H s)(k:∀b u,s.heap.get? b=some u→h'.get? b=some u)(hp:s.heap.objs.size≤a)(new:cR X.prog X.w (upd H a o) h' a o):
 Inv X pins σ (upd H a o) {s with heap:=h',toks:=t'}:=I.un (Un.laid k hp (I.aH.fresh hp)) (I.aH.laid k hp new)
theorem Inv.write{x e:Addr}{o:HO}{t':Nat}(I:Inv X pins σ H s)(mu:Ar (H x))(he:e=x∨H e=some (.own x))(k:∀b u,b≠e→s.heap.get? b=some u→h'.get? b=some u)(heo:∃u,h'.get? e=some u)
 (new:cR X.prog X.w (upd H x o) h' x o):Inv X pins σ (upd H x o) {s with heap:=h',toks:=t'}:=I.un (Un.write mu he k heo) (I.aH.write mu he k heo new)
theorem Inv.mQ{pins':List (Addr×Obj)}(I:Inv X pins σ H s)(h:∀p∈pins',s.heap.get? p.1=some p.2∧H p.1=none∧p.1≠X.env.locals∧p.1∉X.fs∧∀v,p.2.data≠ .cell v):Inv X pins' σ H s:=
 ⟨I.ok,I.os,I.bare,I.base,I.loc,I.cell,I.free,I.gd,fun p hp=>(List.mem_append.mp hp).elim (fun z=>I.pin p (List.mem_append_left _ z)) (h p),I.aH,I.len⟩
theorem ud{N:List Str}(hN:N.Nodup){i j:Nat}{x:Str}(a:N[i]?=some x)(b:N[j]?=some x):i=j:=by
 obtain⟨h1,e1⟩:=List.getElem?_eq_some_iff.mp a
 obtain⟨h2,e2⟩:=List.getElem?_eq_some_iff.mp b
 exact(List.getElem_inj hN).mp (e1.trans e2.symm)
theorem ql{M:Model}{A:Around}{E:Value→Shared→Prop}{i:Nat}{x:Str}{v:V}{u:Value}{Q:Unit→Shared→Prop}(I:Inv X pins σ H s)(hN:X.N.Nodup)(hi:X.N[i]?=some x)(hx:Loc X.env.scope x)(r:RelV v u)
 (h:∀s',Inv X pins (σ.set i (some v)) H s'→(∃a,Heap.SameBut a s.heap s'.heap∧(a=X.env.locals∨X.env.cells.lookup x=some a))→Q () s') (hf:X.fn x=true∨X.env.scope.names.lookup x=some .local:=by first|exact .inl rfl|exact .inr rfl|assumption):wpAny M A (storeName X.env x u) Q E s:=by
 obtain⟨m,hn,hl⟩:=id I.loc
 have hcls:(X.env.scope.kind== .class||(X.env.scope.kind== .module&&X.env.locals != X.env.globals))=false:=by rw[I.ok.kind];rfl
 have hiσ:i<σ.length:=by rw[I.len];exact(List.getElem?_eq_some_iff.mp hi).1
 have sD:=I.sD
 have tracked:∀ {a:Addr} {h':Heap},(∃o,s.heap.get? a=some o∧H a=none)→Heap.SameBut a s.heap h'→fS X.prog X.w H h':=fun{a h'} ha hs b ob e=>by
  obtain⟨_,_,hfree⟩:=ha
  refine(I.aH b ob e).ky (fun c w' hc q=>(hs.2 c ?_).trans q) (fun _ q=>q) fun _ _ q=>q
  rintro rfl
  rcases hc with rfl|hc
  · rw[hfree]at e;cases e
  · rw[hfree]at hc;cases hc
 rcases hx with hk|hk
 · refine wpAny_storeName_local hk hn (fun h' hn' hs=>?_) hcls
   obtain⟨oL,_,_,hoL,_⟩:=id hn
   refine h _ ⟨I.ok,I.os,I.bare,⟨fun b o e n hb hx=>?_,fun b o e n hb hx=>?_,I.base.free,fun b o e hx=>?_,I.base.kB,I.base.jX,I.base.j6⟩,⟨_,hn',fun j y v' e1 e2 e3=>?_⟩,fun y c e=>?_,I.free,I.gd,fun p hp=>?_,tracked ⟨oL,hoL,I.free⟩ hs,by simpa using I.len⟩ ⟨_,hs,.inl rfl⟩
   · exact(hs.2 b (Nat.ne_of_lt (Nat.lt_of_lt_of_le (Heap.lt_size e) I.ok.above))).trans (I.base.keep b o e n hb hx)
   · obtain⟨sl,e1⟩:=I.base.slot b o e n hb hx
     exact⟨sl,(hs.2 b (Nat.ne_of_lt (Nat.lt_of_lt_of_le (Heap.lt_size e) I.ok.above))).trans e1⟩
   · obtain⟨o',e1⟩:=I.base.there b o e hx
     exact⟨o',(hs.2 b (Nat.ne_of_lt (Nat.lt_of_lt_of_le (Heap.lt_size e) I.ok.above))).trans e1⟩
   · by_cases hj:j=i
     · subst hj
       rw[hi]at e1;cases e1
       rw[List.getElem?_set_self hiσ]at e2
       cases e2
       exact⟨u,r,.inl ⟨hk,by simp⟩⟩
     · rw[List.getElem?_set_ne (Ne.symm hj)]at e2
       obtain⟨u',r',q⟩:=hl j y v' e1 e2 e3
       refine⟨u',r',?_⟩
       rcases q with⟨k,e⟩|⟨k,c,e,z⟩
       · refine .inl ⟨k,?_⟩
         have:y≠x:=fun e=>hj (ud hN e1 (e▸hi))
         simp[this,e]
       · exact .inr ⟨k,c,e,z.sameBut hs (sD y c e)⟩
   · obtain⟨w',z⟩:=I.cell y c e
     exact⟨w',z.sameBut hs (sD y c e)⟩
   · obtain⟨e,n,ne,nf,d⟩:=I.pin p hp
     exact⟨(hs.2 p.1 ne).trans e,n,ne,nf,d⟩
 · have hfn:X.fn x=true:=by
    rcases hf with z|z
    · exact z
    · rw[z]at hk;cases hk
   obtain⟨c,hc⟩:=I.ok.has x (.inl hk)
   obtain⟨w',z⟩:=I.cell x c hc
   refine wpAny_storeName_cell I.ok.kind hk hc z (fun h' hc' hs=>?_)
   obtain⟨oc,hoc,hocd⟩:=id z
   refine h {s with heap:=h'} ⟨I.ok,I.os,I.bare,⟨fun b o e n hb hx=>?_,fun b o e n hb hx=>?_,I.base.free,fun b o e hx=>?_,I.base.kB,I.base.jX,I.base.j6⟩,⟨m,hn.sameBut hs (Ne.symm (sD x c hc)),fun j y v' e1 e2 e3=>?_⟩,fun y c' e=>?_,I.free,I.gd,fun p hp=>?_,tracked ⟨oc,hoc,I.gd x c hc⟩ hs,by simpa using I.len⟩ ⟨c,hs,.inr hc⟩
   · exact(hs.2 b (Nat.ne_of_lt (Nat.lt_of_lt_of_le (Heap.lt_size e) (I.ok.sj x c hfn hc)))).trans (I.base.keep b o e n hb hx)
   · obtain⟨sl,e1⟩:=I.base.slot b o e n hb hx
     exact⟨sl,(hs.2 b (Nat.ne_of_lt (Nat.lt_of_lt_of_le (Heap.lt_size e) (I.ok.sj x c hfn hc)))).trans e1⟩
   · obtain⟨o',e1⟩:=I.base.there b o e hx
     exact⟨o',(hs.2 b (Nat.ne_of_lt (Nat.lt_of_lt_of_le (Heap.lt_size e) (I.ok.sj x c hfn hc)))).trans e1⟩
   · by_cases hj:j=i
     · subst hj
       rw[hi]at e1;cases e1
       rw[List.getElem?_set_self hiσ]at e2
       cases e2
       exact⟨u,r,.inr ⟨.inl hk,c,hc,hc'⟩⟩
     · rw[List.getElem?_set_ne (Ne.symm hj)]at e2
       obtain⟨u',r',q⟩:=hl j y v' e1 e2 e3
       refine⟨u',r',?_⟩
       rcases q with q|⟨k,c',e,z'⟩
       · exact .inl q
       · refine .inr ⟨k,c',e,z'.sameBut hs ?_⟩
         rintro rfl
         exact hj (ud hN e1 (I.ok.inj _ _ _ e hc▸hi))
   · by_cases hcc:c'=c
     · subst hcc;exact⟨_,hc'⟩
     · obtain⟨w2,z2⟩:=I.cell y c' e
       exact⟨w2,z2.sameBut hs hcc⟩
   · obtain⟨e,n,ne,nf,d⟩:=I.pin p hp
     refine⟨(hs.2 p.1 ?_).trans e,n,ne,nf,d⟩
     intro q
     rw[q,hoc]at e
     have q':oc=p.2:=Option.some.inj e
     exact d w' (by rw[←q'];exact hocd)
theorem kb{M:Model}{A:Around}{E:Value→Shared→Prop}{i:Nat}{x:Str}{v:V}{u:Value}{Q:Unit→Shared→Prop}(I:Inv X pins σ H s)(hN:X.N.Nodup)(hi:X.N[i]?=some x)(hx:Loc X.env.scope x)(r:RelV v u)
 (h:∀s',Inv X pins (σ.set i (some v)) H s'→Q () s') (hf:X.fn x=true∨X.env.scope.names.lookup x=some .local:=by first|exact .inl rfl|exact .inr rfl|assumption):wpAny M A (storeName X.env x u) Q E s:=
 ql I hN hi hx r (fun s' I' _=>h s' I') hf
theorem Inv.vz{s':Shared}{ch:List Addr}(I:Inv X pins σ H s)(ho:s'.os=s.os)(u:Un (kI X.stack) ch H H' s.heap s'.heap)(aH:fS X.prog X.w H' s'.heap)(hg:AllBare s'.gens)
 (hch:∀b∈ch,(b∈X.ex∨X.s₀.heap.objs.size≤b)∧b≠X.env.locals∧(∀x c,X.env.cells.lookup x=some c→c≠b)∧∀p∈X.pn++pins,p.1≠b):Inv X pins σ H' s':=by
 obtain⟨h',g',d',t',o'⟩:=s'
 have e:o'=s.os:=ho
 subst e
 exact I.call (g':=g') (t':=t') (d':=d') u aH hg hch
end
abbrev XK:=Value→Option Addr→Hp→Prop
abbrev St:=List (Option V)
abbrev VK:=V→Hp→Prop
abbrev TE:=St→Hp→VK→Prop
abbrev TT:=St→Hp→(Bool→Hp→Prop)→Prop
abbrev TA:=St→Hp→(List V→Hp→Prop)→Prop
structure Ends where
 nx:St→Hp→Prop
 rt:VK
 bk:St→Hp→Prop:=fun _ _=>False
 ct:St→Hp→Prop:=fun _ _=>False
abbrev TS:=Ends→St→Hp→Prop
def EP(X:Cx)(pins:List (Addr×Obj))(σ:St)(Q:VK)(u:Value)(s':Shared):Prop:=∃v H',Inv X pins σ H' s'∧RelV v u∧Q v H'
def TP(X:Cx)(pins:List (Addr×Obj))(σ:St)(Q:Bool→Hp→Prop)(b:Bool)(s':Shared):Prop:=∃H',Inv X pins σ H' s'∧Q b H'
def AP(X:Cx)(pins:List (Addr×Obj))(σ:St)(Q:List V→Hp→Prop)(us:List Value)(s':Shared):Prop:=∃vs H',Inv X pins σ H' s'∧Vals vs us∧Q vs H'
def SP(X:Cx)(pins:List (Addr×Obj))(D:Ends)(f:Flow)(s':Shared):Prop:=
 match f with
 | .next=>∃σ' H',Inv X pins σ' H' s'∧D.nx σ' H'
 | .brk=>∃σ' H',Inv X pins σ' H' s'∧D.bk σ' H'
 | .cont=>∃σ' H',Inv X pins σ' H' s'∧D.ct σ' H'
 | .ret u=>∃v σ' H',Inv X pins σ' H' s'∧RelV v u∧D.rt v H'
def PE(X:Cx)(e:Expr)(t:TE):Prop:=
 ∀(pins:List (Addr×Obj)) (s:Shared) (σ:St) (H:Hp) (Q:VK),Inv X pins σ H s→t σ H Q→wpAny (model X.prog X.w) X.A (eval e X.env) (EP X pins σ Q) X.xe s
def PT(X:Cx)(e:Expr)(t:TT):Prop:=
 ∀(pins:List (Addr×Obj)) (s:Shared) (σ:St) (H:Hp) (Q:Bool→Hp→Prop),Inv X pins σ H s→t σ H Q→wpAny (model X.prog X.w) X.A (isTrue e X.env (eval e X.env)) (TP X pins σ Q) X.xe s
def PW(X:Cx)(e:Expr)(t:TT):Prop:=
 ∀(whole:Sem Value) (pins:List (Addr×Obj)) (s:Shared) (σ:St) (H:Hp) (Q:Bool→Hp→Prop),Inv X pins σ H s→t σ H Q→wpAny (model X.prog X.w) X.A (isTrue e X.env whole) (TP X pins σ Q) X.xe s
theorem PW.pt{X:Cx}{e:Expr}{t:TT}(h:PW X e t):PT X e t:=h _
def PA(X:Cx)(es:List Expr)(t:TA):Prop:=
 ∀(pos:Pos) (pins:List (Addr×Obj)) (s:Shared) (σ:St) (H:Hp) (Q:List V→Hp→Prop),Inv X pins σ H s→t σ H Q→wpAny (model X.prog X.w) X.A (spliced (backTo pos (starEach es X.env))) (AP X pins σ Q) X.xe s
def PS(X:Cx)(st:Stmt)(t:TS):Prop:=
 ∀(pins:List (Addr×Obj)) (s:Shared) (σ:St) (H:Hp) (D:Ends),Inv X pins σ H s→t D σ H→wpAny (model X.prog X.w) X.A (exec st X.env) (SP X pins D) X.xe s
def fG(X:Cx)(st:List Stmt)(t:TS):Prop:=
 ∀(pins:List (Addr×Obj)) (s:Shared) (σ:St) (H:Hp) (D:Ends),Inv X pins σ H s→t D σ H→wpAny (model X.prog X.w) X.A (execs st X.env) (SP X pins D) X.xe s
theorem bF{α:Type}{t:Sem α}{Q Q':α→Shared→Prop}{M:Model}{A:Around}{E:Value→Shared→Prop}{s:Shared}(h:wpAny M A t Q E s)(hQ:∀a s,Q a s→Q' a s):wpAny M A t Q' E s:=wpAny_mono h hQ fun _ _ x=>x
end L2
namespace L2
open PySem PySem.Spec PyProof.Rows
section
variable {X:Cx}
def CP(i:Nat):TE:=fun σ H Q=>∃v,σ[i]?=some (some v)∧Q v H
def tC(v:V):TE:=fun _ H Q=>Q v H
theorem Ck{i:Nat}{x:Str}{pos:Pos}(hN:X.N[i]?=some x)(hv:tj X.env.scope x)(hd:(x==("__debug__":Str))=false:=by decide)(hcd:(x==("__classdict__":Str))=false:=by decide):PE X (.Name x pos) (CP i):=by
 intro pins s σ H Q I h
 obtain⟨v,e,h⟩:=h
 obtain⟨m,hn,hl⟩:=I.loc
 obtain⟨u,r,l⟩:=hl i x v hN e hv
 have fin:EP X pins σ Q u s:=⟨v,H,I,r,h⟩
 rcases l with⟨hk,hm⟩|⟨hk,c,hc,hcell⟩
 · exact wpAny_Name (wpAny_loadName_local I.ok.kind hk hn hm fin) hd
 · rcases hk with hk|hk
   · exact wpAny_Name (wpAny_loadName_cell I.ok.kind hk hc hcell fin) hd
   · exact wpAny_Name (wpAny_loadName_free I.ok.kind hk hc hcell fin hcd) hd
theorem De{i j pos}:PE X (.Constant (.int i) j pos) (tC (.int i)):=fun _ _ _ H _ I h=>wpAny_Constant_int ⟨.int i,H,I.tok _,⟨_,rfl⟩,h⟩
theorem E8{b j pos}:PE X (.Constant (.bool b) j pos) (tC (.bl b)):=fun _ _ _ H _ I h=>Constant_bool ⟨.bl b,H,I,rfl,h⟩
theorem DQ{j pos}:PE X (.Constant .none j pos) (tC .aA):=fun _ _ _ H _ I h=>Constant_none ⟨.aA,H,I,rfl,h⟩
def Gl(X:Cx)(x:Str):Prop:=X.env.kindOf x=some .globalImplicit
theorem uT{E:Value→Shared→Prop}{pins:List (Addr×Obj)}{s:Shared}{σ:St}{H:Hp}{x:Str}{u:Value}{pos:Pos}{Q:Value→Shared→Prop}(I:Inv X pins σ H s)(hg:Gl X x)(hm:X.mg x=some u)(h:Q u s)
 (hd:(x==("__debug__":Str))=false:=by decide):wpAny (model X.prog X.w) X.A (eval (.Name x pos) X.env) Q E s:=
 Calls.Name_function_global I.ok.kind hg (Calls.loadGlobal_global (by rw[I.ok.glob];exact I.mod.glob.keeps I.bk) hm h) hd
theorem jR{E:Value→Shared→Prop}{pins:List (Addr×Obj)}{s:Shared}{σ:St}{H:Hp}{x:Str}{u:Value}{pos:Pos}{Q:Value→Shared→Prop}(I:Inv X pins σ H s)(hg:Gl X x)(hm:X.mg x=none)(hv:bootBuiltins x=some u)(h:Q u s)
 (hn:x≠"__name__":=by decide) (hd:(x==("__debug__":Str))=false:=by decide):wpAny (model X.prog X.w) X.A (eval (.Name x pos) X.env) Q E s:=by
 obtain⟨mb,h1,h2⟩:=I.mod.blt
 exact Calls.Name_function_global I.ok.kind hg (Calls.loadGlobal_builtin (by rw[I.ok.glob];exact I.mod.glob.keeps I.bk) hm (by rw[I.ok.blt];exact h1.keeps I.bk) ((h2 x hn).trans hv) h) hd
theorem AF{x:Str}{v:V}{u:Value}{pos:Pos}(hg:Gl X x)(hm:X.mg x=none)(hv:bootBuiltins x=some u)(r:RelV v u)(hn:x≠"__name__":=by decide)(hd:(x==("__debug__":Str))=false:=by decide):PE X (.Name x pos) (tC v):=
 fun _ _ _ H _ I h=>jR I hg hm hv ⟨v,H,I,r,h⟩ hn hd
variable {a b:Expr}{ta tb:TE}{pos:Pos}
def tB(t:TE):TT:=fun σ H Q=>t σ H fun x H1=>∃c,x= .bl c∧Q c H1
theorem DL{e:Expr}{t:TE}(h:PE X e t)(he:∀whole,isTrue e X.env whole=(do let v ←whole;standAt e.pos;holding [v] (truthy v)):=by intro _;rfl):PT X e (tB t):=by
 intro pins s σ H Q I hw
 refine isTrue_plain (bF (h pins s σ H _ I hw) fun v s1 ⟨x,H1,I1,r1,q1⟩=>?_) (he _)
 obtain⟨d,rfl,q⟩:=q1
 cases r1
 exact wpAny_truthy_bool ⟨H1,I1,q⟩
variable {tA tB':TT}{rest:List Expr}
def CD(t u:TT):TT:=fun σ H Q=>t σ H fun c H1=>if c=true then u σ H1 Q else Q false H1
def FK(t u:TT):TT:=fun σ H Q=>t σ H fun c H1=>if c=true then Q true H1 else u σ H1 Q
def GO(t:TT):TT:=fun σ H Q=>t σ H fun c H1=>Q (!c) H1
theorem pw_and1(ha:PT X a tA):PW X (.BoolOp .And [a] pos) tA:=by
 intro wh pins s σ H Q I h
 refine isTrue_and (bF (ha pins s σ H Q I h) fun c s1 e=>?_)
 cases c with
 |true=>exact isTrue_and_nil e
 |false=>exact e
theorem pw_or1(ha:PT X a tA):PW X (.BoolOp .Or [a] pos) tA:=by
 intro wh pins s σ H Q I h
 refine isTrue_or (bF (ha pins s σ H Q I h) fun c s1 e=>?_)
 cases c with
 |false=>exact isTrue_or_nil e
 |true=>exact e
theorem pw_and(ha:PT X a tA)(hb:PW X (.BoolOp .And (b::rest) pos) tB'):PW X (.BoolOp .And (a::b::rest) pos) (CD tA tB'):=by
 intro wh pins s σ H Q I h
 refine isTrue_and (bF (ha pins s σ H _ I h) fun c s1 ⟨H1,I1,q1⟩=>?_)
 cases c with
 |true=>exact hb wh pins s1 σ H1 Q I1 q1
 |false=>exact⟨H1,I1,q1⟩
theorem pw_or(ha:PT X a tA)(hb:PW X (.BoolOp .Or (b::rest) pos) tB'):PW X (.BoolOp .Or (a::b::rest) pos) (FK tA tB'):=by
 intro wh pins s σ H Q I h
 refine isTrue_or (bF (ha pins s σ H _ I h) fun c s1 ⟨H1,I1,q1⟩=>?_)
 cases c with
 |true=>exact⟨H1,I1,q1⟩
 |false=>exact hb wh pins s1 σ H1 Q I1 q1
theorem C9(ha:PT X a tA):PT X (.UnaryOp .Not a pos) (GO tA):=by
 intro pins s σ H Q I h
 exact isTrue_not (ha pins s σ H (fun c H1=>Q (!c) H1) I h)
def FF(ta tb:TE):TE:=fun σ H Q=>ta σ H fun x H1=>∃c,x= .bl c∧if c=true then tb σ H1 Q else Q (.bl false) H1
def EU(ta:TE):TE:=fun σ H Q=>ta σ H fun x H1=>∃c,x= .bl c∧Q (.bl (!c)) H1
theorem CY{op}{t:TE}(h:PE X a t):PE X (.BoolOp op [a] pos) t:=fun pins s σ H Q I hw=>BoolOp_one (h pins s σ H Q I hw)
theorem Dj(ha:PE X a ta)(hb:PE X (.BoolOp .And (b::rest) pos) tb):PE X (.BoolOp .And (a::b::rest) pos) (FF ta tb):=by
 intro pins s σ H Q I h
 refine BoolOp_and (bF (ha pins s σ H _ I h) fun v s1 ⟨x,H1,I1,r1,q1⟩=>?_)
 obtain⟨c,rfl,q1⟩:=q1
 cases r1
 refine wpAny_truthy_bool ?_
 cases c with
 |true=>exact hb pins s1 σ H1 Q I1 q1
 |false=>exact⟨.bl false,H1,I1,rfl,q1⟩
theorem Ed(ha:PE X a ta):PE X (.UnaryOp .Not a pos) (EU ta):=by
 intro pins s σ H Q I h
 refine UnaryOp_ (bF (ha pins s σ H _ I h) fun v s1 ⟨x,H1,I1,r1,q1⟩=>?_)
 obtain⟨c,rfl,q1⟩:=q1
 cases r1
 exact not_of (wpAny_truthy_bool ⟨.bl (!c),H1,I1,rfl,q1⟩)
def Hl(t:TT)(ta tb:TE):TE:=fun σ H Q=>t σ H fun c H1=>if c=true then ta σ H1 Q else tb σ H1 Q
theorem zw{c:Expr}(hc:PT X c tA)(ha:PE X a ta)(hb:PE X b tb):PE X (.IfExp c a b pos) (Hl tA ta tb):=by
 intro pins s σ H Q I h
 refine wpAny_IfExp (bF (hc pins s σ H _ I h) fun d s1 ⟨H1,I1,q1⟩=>?_)
 cases d with
 |true=>exact ha pins s1 σ H1 Q I1 q1
 |false=>exact hb pins s1 σ H1 Q I1 q1
end
end L2
namespace L2
open PySem PySem.Spec PyProof.Rows
def ji(K:PySem.W.Frag)(H:Hp)(a:Addr)(xs:List V):Prop:=
 Rd H a (.lst xs)∨
  ∃(o:Obj) (its:Array Value) (n:Nat),K.lookup a=some o∧o.cls= .type "list"∧o.dict=none∧o.data= .seq its n∧its.size≤sizeLine∧Vals xs its.toList
def gs(K:PySem.W.Frag)(H:Hp)(a:Addr)(xs:List V):Prop:=
 Rd H a (.tup xs)∨
  ∃(o:Obj) (its:Array Value) (n:Nat),K.lookup a=some o∧o.cls= .type "tuple"∧o.data= .seq its n∧its.size≤sizeLine∧Vals xs its.toList
def Gr:Value→Option V
 | .none=>some .aA
 | .bool b=>some (.bl b)
 | .int i _=>some (.int i)
 | .str x _=>some (.str x)
 | .bytes b _=>some (.nJ b)
 | .float b _=>some (.nC b)
 | .ref a=>some (.ref a)
 | .type n=>some (.ty n)
 |_=>none
theorem RelV.abs{x:V}{u:Value}(r:RelV x u):Gr u=some x:=by
 cases x with
 |aA=>cases r;rfl
 |bl _=>cases r;rfl
 |int _=>obtain⟨t,rfl⟩:=r;rfl
 |str _=>obtain⟨t,rfl⟩:=r;rfl
 |nJ _=>obtain⟨t,rfl⟩:=r;rfl
 |nC _=>obtain⟨t,rfl⟩:=r;rfl
 |ref _=>cases r;rfl
 |ty _=>cases r;rfl
theorem RelV.inj{x y:V}{u:Value}(r:RelV x u)(q:RelV y u):x=y:=Option.some.inj (r.abs.symm.trans q.abs)
theorem Vals.inj:∀ {xs ys:List V} {us:List Value},Vals xs us→Vals ys us→xs=ys
 |_,_,_,.nil,.nil=>rfl
 |_,_,_,.cons r t,.cons r' t'=>by rw[r.inj r',Vals.inj t t']
section
variable {X:Cx}{pins:List (Addr×Obj)}{σ:St}{H:Hp}{s:Shared}{a:Addr}{xs ys:List V}
theorem ji.of{K:PySem.W.Frag}(h:H a=some (.lst xs)):ji K H a xs:= .inl (.inl h)
theorem gs.of{K:PySem.W.Frag}(h:H a=some (.tup xs)):gs K H a xs:= .inl (.inl h)
theorem Inv.list(I:Inv X pins σ H s)(h:ji X.K H a xs):∃its:List Value,Vals xs its∧PlainL s.heap a its.toArray∧xs.length≤sizeLine:=by
 rcases h with h|⟨o,its,n,hk,hc,hd,hs,hz,r⟩
 · obtain⟨z,its,n,r,e⟩:=h.ok I.aH
   exact⟨its,r,⟨_,n,e,rfl,rfl,rfl⟩,z⟩
 · refine⟨its.toList,r,⟨o,n,I.fI a o hk,hc,hd,by simpa using hs⟩,?_⟩
   have e:=r.length
   simp only[Array.length_toList]at e
   omega
theorem Inv.tuple(I:Inv X pins σ H s)(h:gs X.K H a xs):∃its:List Value,Vals xs its∧IsTup s.heap a its.toArray∧xs.length≤sizeLine:=by
 rcases h with h|⟨o,its,n,hk,hc,hs,hz,r⟩
 · obtain⟨z,its,r,p⟩:=h.ok I.aH
   exact⟨its,r,p,z⟩
 · refine⟨its.toList,r,⟨o,I.fI a o hk,hc,n,by simpa using hs⟩,?_⟩
   have e:=r.length
   simp only[Array.length_toList]at e
   omega
theorem Inv.rO(I:Inv X pins σ H s)(h:ji X.K H a xs)(h':ji X.K H a ys):xs=ys:=by
 obtain⟨its,r,⟨o,n,e,_,_,d⟩,_⟩:=I.list h
 obtain⟨its',r',⟨o',n',e',_,_,d'⟩,_⟩:=I.list h'
 rw[e]at e';cases e'
 rw[d]at d'
 injection d' with d1 _
 have:its=its':=by simpa using congrArg Array.toList d1
 subst this
 exact r.inj r'
theorem Inv.qy(I:Inv X pins σ H s)(h:gs X.K H a xs)(h':gs X.K H a ys):xs=ys:=by
 obtain⟨its,r,⟨o,e,_,n,d⟩,_⟩:=I.tuple h
 obtain⟨its',r',⟨o',e',_,n',d'⟩,_⟩:=I.tuple h'
 rw[e]at e';cases e'
 rw[d]at d'
 injection d' with d1 _
 have:its=its':=by simpa using congrArg Array.toList d1
 subst this
 exact r.inj r'
end
abbrev Cx.kD(X:Cx)(E:Value→Shared→Prop):Cx:={X with xe:=E}
abbrev Cx.qI(X:Cx):Cx:=X.kD fun _ _=>False
theorem Cx.Ok.kD{X:Cx}(ok:X.Ok)(E:Value→Shared→Prop):(X.kD E).Ok:=
 ⟨ok.mod,ok.kind,ok.glob,ok.blt,ok.above,ok.inj,ok.has,ok.sj,ok.hd,ok.frames,ok.uH,ok.xM,ok.bs,ok.my,ok.oi,ok.n_,ok.ik,ok.oW,ok.gt⟩
theorem Cx.Ok.jm{X:Cx}{E:Value→Shared→Prop}(ok:(X.kD E).Ok):X.Ok:=
 ⟨ok.mod,ok.kind,ok.glob,ok.blt,ok.above,ok.inj,ok.has,ok.sj,ok.hd,ok.frames,ok.uH,ok.xM,ok.bs,ok.my,ok.oi,ok.n_,ok.ik,ok.oW,ok.gt⟩
section
variable {X:Cx}{pins:List (Addr×Obj)}{σ:St}{H:Hp}{s:Shared}{E:Value→Shared→Prop}
theorem Inv.kD(I:Inv X pins σ H s)(E:Value→Shared→Prop):Inv (X.kD E) pins σ H s:=⟨I.ok.kD E,I.os,I.bare,I.base,I.loc,I.cell,I.free,I.gd,I.pin,I.aH,I.len⟩
theorem Inv.jm(I:Inv (X.kD E) pins σ H s):Inv X pins σ H s:=⟨I.ok.jm,I.os,I.bare,I.base,I.loc,I.cell,I.free,I.gd,I.pin,I.aH,I.len⟩
theorem SP.jm{D:Ends}{f:Flow}{s':Shared}(h:SP (X.kD E) pins D f s'):SP X pins D f s':=by
 cases f with
 |next=>obtain⟨σ',H',I,q⟩:=h;exact⟨σ',H',I.jm,q⟩
 |brk=>obtain⟨σ',H',I,q⟩:=h;exact⟨σ',H',I.jm,q⟩
 |cont=>obtain⟨σ',H',I,q⟩:=h;exact⟨σ',H',I.jm,q⟩
 |ret u=>obtain⟨v,σ',H',I,r,q⟩:=h;exact⟨v,σ',H',I.jm,r,q⟩
theorem fG.qI{st:List Stmt}{t:TS}(h:fG X.qI st t):fG X st t:=fun pins s σ H D I hw=>
 wpAny_mono (h pins s σ H D (I.kD _) hw) (fun _ _ q=>q.jm) fun _ _ z=>False.elim z
end
section
variable {X:Cx}{st:Stmt}{rest:List Stmt}{t u:TS}{e:Expr}{te:TE}{pos:Pos}
def Eh:TS:=fun D σ H=>D.nx σ H
def GP(t u:TS):TS:=fun D σ H=>t {D with nx:=u D} σ H
theorem AM:fG X [] Eh:=fun _ _ σ H _ I h=>wpAny_execs_nil ⟨σ,H,I,h⟩
theorem y8(h1:PS X st t)(h2:fG X rest u):fG X (st::rest) (GP t u):=by
 intro pins s σ H D I h
 refine wpAny_execs_cons (bF (h1 pins s σ H {D with nx:=u D} I h) fun f s1 q=>?_)
 cases f with
 |next=>
  obtain⟨σ',H',I',q⟩:=q
  exact h2 pins s1 σ' H' D I' q
 |ret v=>exact q
 |brk=>exact q
 |cont=>exact q
theorem Ay(h1:PS X st t):fG X [st] t:=by
 intro pins s σ H D I h
 refine wpAny_execs_cons (bF (h1 pins s σ H D I h) fun f s1 q=>?_)
 cases f with
 |next=>exact wpAny_execs_nil q
 |ret v=>exact q
 |brk=>exact q
 |cont=>exact q
theorem Inv.quiet{pins:List (Addr×Obj)}{σ:St}{H:Hp}{s:Shared}(I:Inv X pins σ H s):interactive X.env=false:=by simp[interactive,I.ok.kind]
def EX(te:TE):TS:=fun D σ H=>te σ H fun _ H1=>D.nx σ H1
theorem Bc(he:PE X e te)(hs:swapsWith e none pos.line X.env=pure false:=by rfl):PS X (.Expr e pos) (EX te):=by
 intro pins s σ H D I h
 exact wpAny_Expr_any (bF (he pins s σ H _ I h) fun v s1 ⟨x,H1,I1,r1,q1⟩=>⟨σ,H1,I1,q1⟩) I.quiet hs
def GJ(te:TE):TS:=fun D σ H=>te σ H D.rt
theorem C7(he:PE X e te):PS X (.Return (some e) pos) (GJ te):=by
 intro pins s σ H D I h
 exact wpAny_Return_some (bF (he pins s σ H _ I h) fun v s1 ⟨x,H1,I1,r1,q1⟩=>⟨x,σ,H1,I1,r1,q1⟩)
def GR(c:TT)(t u:TS):TS:=fun D σ H=>c σ H fun b H1=>if b=true then t D σ H1 else u D σ H1
theorem FJ{c:Expr}{a b:List Stmt}{tc:TT}(hc:PT X c tc)(ha:fG X a t)(hb:fG X b u):PS X (.If c a b pos) (GR tc t u):=by
 intro pins s σ H D I h
 refine wpAny_If (bF (hc pins s σ H _ I h) fun d s1 ⟨H1,I1,q1⟩=>?_)
 cases d with
 |true=>exact ha pins s1 σ H1 D I1 q1
 |false=>exact hb pins s1 σ H1 D I1 q1
end
abbrev TG:=V→St→Hp→(St→Hp→Prop)→Prop
abbrev tm:=List V→St→Hp→(St→Hp→Prop)→Prop
def PG(X:Cx)(target:Expr)(t:TG):Prop:=
 ∀(pins:List (Addr×Obj)) (s:Shared) (σ:St) (H:Hp) (v:V) (u:Value) (Q:St→Hp→Prop),Inv X pins σ H s→RelV v u→t v σ H Q→
  wpAny (model X.prog X.w) X.A (assign target X.env u) (fun _ s'=>∃σ' H',Inv X pins σ' H' s'∧Q σ' H') X.xe s
def Ac(X:Cx)(ts:List Expr)(t:tm):Prop:=
 ∀(pins:List (Addr×Obj)) (s:Shared) (σ:St) (H:Hp) (vs:List V) (us:List Value) (Q:St→Hp→Prop),Inv X pins σ H s→Vals vs us→t vs σ H Q→
  wpAny (model X.prog X.w) X.A (assignInOrder ((assignEach ts X.env).map (·.2)) us) (fun _ s'=>∃σ' H',Inv X pins σ' H' s'∧Q σ' H') X.xe s
abbrev zk:=V→V→V→Hp→(Hp→Prop)→Prop
def DC(X:Cx)(t:zk):Prop:=
 ∀(pins:List (Addr×Obj)) (s:Shared) (σ:St) (H:Hp) (o i v:V) (ov iv u:Value) (Q:Hp→Prop),Inv X pins σ H s→RelV o ov→RelV i iv→RelV v u→t o i v H Q→
  wpAny (model X.prog X.w) X.A (setItem ov iv u) (fun _ s'=>∃H',Inv X pins σ H' s'∧Q H') X.xe s
abbrev zT:=V→V→Hp→VK→Prop
def DY(X:Cx)(op:Operator)(t:zT):Prop:=
 ∀(pins:List (Addr×Obj)) (s:Shared) (σ:St) (H:Hp) (x y:V) (v u:Value) (Q:VK),Inv X pins σ H s→RelV x v→RelV y u→t x y H Q→
  wpAny (model X.prog X.w) X.A (inplaceOp op v u) (EP X pins σ Q) X.xe s
section
variable {X:Cx}{pos:Pos}
def g9(i:Nat):TG:=fun v σ H Q=>Q (σ.set i (some v)) H
theorem jO{i:Nat}{x:Str}(hN:X.N.Nodup)(hi:X.N[i]?=some x)(hx:Loc X.env.scope x)(hf:X.fn x=true∨X.env.scope.names.lookup x=some .local:=by first|exact .inl rfl|exact .inr rfl|assumption):PG X (.Name x pos) (g9 i):=by
 intro pins s σ H v u Q I r h
 exact wpAny_assign_Name (kb I hN hi hx r (fun s' I'=>⟨_,H,I',h⟩) hf)
def zi:tm:=fun vs σ H Q=>vs=[]∧Q σ H
def mK(t:TG)(u:tm):tm:=fun vs σ H Q=>∃v r,vs=v::r∧t v σ H fun σ' H'=>u r σ' H' Q
theorem u6:Ac X [] zi:=by
 intro pins s σ H vs us Q I r h
 obtain⟨e,h⟩:=h
 subst e
 cases r
 exact assignInOrder_nil ⟨σ,H,I,h⟩
theorem jU{e:Expr}{es:List Expr}{t:TG}{u:tm}(h1:PG X e t)(h2:Ac X es u)
 (hs:(assignEach (e::es) X.env).map (·.2)=assign e X.env::(assignEach es X.env).map (·.2):=by rfl):Ac X (e::es) (mK t u):=by
 intro pins s σ H vs us Q I r h
 obtain⟨v,vr,e1,h⟩:=h
 subst e1
 cases r with
 |cons r rr=>
  rw[hs]
  refine assignInOrder_cons (bF (h1 pins s σ H _ _ _ I r h) fun _ s1 ⟨σ1,H1,I1,q1⟩=>?_)
  exact h2 pins s1 σ1 H1 _ _ Q I1 rr q1
def yN(K:PySem.W.Frag)(n:Nat)(t:tm):TG:=fun v σ H Q=>∃a xs,v= .ref a∧gs K H a xs∧xs.length=n∧t xs σ H Q
theorem yf{es:List Expr}{k:Nat}{t:tm}{n:Nat}(hc:X.calm=true)(h:Ac X es t)
 (hn:(assignEach es X.env).length=n:=by rfl) (hst:(assignEach es X.env).findIdx? (·.1)=none:=by rfl):PG X (.Tuple es k pos) (yN X.K n t):=by
 intro pins s σ H v u Q I r hw
 obtain⟨a,xs,e1,hq,hl,hw⟩:=hw
 subst e1
 cases r
 obtain⟨its,rv,ht,hz⟩:=I.tuple hq
 refine assign_Tuple_tuple (I.ok.hd hc) ht (by simp[hn,←hl,rv.length]) hst fun h' hx=>?_
 have I1:Inv X pins σ H {s with heap:=h'}:=I.kept (t':=s.toks) fun b o e=>hx b o (Nat.ne_of_lt (Heap.lt_size e)) e
 exact h pins _ σ H xs _ Q I1 (by simpa using rv) hw
def vQ(to ti:TE)(t:zk):TG:=fun v σ H Q=>to σ H fun o H1=>ti σ H1 fun i H2=>t o i v H2 fun H3=>Q σ H3
theorem Cw{o i:Expr}{to ti:TE}{t:zk}(ho:PE X o to)(hi:PE X i ti)(hs:DC X t)
 (ha:∀v,assign (.Subscript o i pos) X.env v=(do
   let ov ←holding [v] (eval o X.env)
   let iv ←holding [v,ov] (eval i X.env)
   standAt pos
   holding [v,ov,iv] (setItem ov iv v)
   release [v,ov,iv] []):=by intro _;rfl):PG X (.Subscript o i pos) (vQ to ti t):=by
 intro pins s σ H v u Q I r h
 rw[ha]
 refine wpAny_bind (wpAny_holding (bF (ho pins s σ H _ I h) fun ov s1 ⟨x,H1,I1,r1,q1⟩=>?_))
 refine wpAny_bind (wpAny_holding (bF (hi pins s1 σ H1 _ I1 q1) fun iv s2 ⟨y,H2,I2,r2,q2⟩=>?_))
 refine wpAny_bind (wpAny_standAt (wpAny_bind (wpAny_holding (bF (hs pins s2 σ H2 x y v ov iv u _ I2 r1 r2 r q2) fun _ s3 ⟨H3,I3,q3⟩=>?_))))
 exact wpAny_release ⟨σ,H3,I3,q3⟩
def kG(te:TE)(g:TG):TS:=fun D σ H=>te σ H fun x H1=>g x σ H1 D.nx
theorem wL{tg e:Expr}{te:TE}{g:TG}(he:PE X e te)(hg:PG X tg g)(hs:swapsWithSole [tg] e pos.line X.env=pure false:=by rfl)(hw:swappedStores [tg] e X.env=pure none:=by rfl)
 (h1:(assignEach [tg] X.env).map (·.2)=[assign tg X.env]:=by rfl):PS X (.Assign [tg] e pos) (kG te g):=by
 intro pins s σ H D I h
 refine wpAny_Assign_stores (bF (he pins s σ H _ I h) fun v s1 ⟨x,H1,I1,r1,q1⟩=>?_) hs hw
 rw[h1]
 exact bF (hg pins s1 σ H1 x v _ I1 r1 q1) fun _ s2 q=>q
theorem CT{i:Nat}{x:Str}{e:Expr}{te:TE}{pos':Pos}(hN:X.N.Nodup)(hi:X.N[i]?=some x)(hx:Loc X.env.scope x)(he:PE X e te)(hs:swapsWith e (some (.Name x pos')) pos.line X.env=pure false:=by rfl)(hf:X.fn x=true∨X.env.scope.names.lookup x=some .local:=by first|exact .inl rfl|exact .inr rfl|assumption):
 PS X (.Assign [.Name x pos'] e pos) (kG te (g9 i)):=by
 intro pins s σ H D I h
 refine wpAny_Assign_Name (bF (he pins s σ H _ I h) fun v s1 ⟨y,H1,I1,r1,q1⟩=>?_) hs
 exact kb I1 hN hi hx r1 (fun s2 I2=>⟨_,H1,I2,q1⟩) hf
def Dh(i j:Nat)(ta:TA):TS:=fun D σ H=>ta σ H fun vs H1=>∃v w,vs=[v,w]∧D.nx ((σ.set i (some v)).set j (some w)) H1
theorem Cf{i j:Nat}{x y:Str}{a b:Expr}{ta:TA}{px py pt:Pos}{kt k2 pt2}(hc:X.calm=true)(hN:X.N.Nodup)(hi:X.N[i]?=some x)(hj:X.N[j]?=some y)(hij:i≠j)
 (hx:X.env.scope.names.lookup x=some .local) (hy:X.env.scope.names.lookup y=some .local) (ha:PA X [a,b] ta)
 (hw:swappedStores [.Tuple [.Name x px,.Name y py] kt pt] (.Tuple [a,b] k2 pt2) X.env=pure (some [x,y]))
 (hs:swapsWithSole [.Tuple [.Name x px,.Name y py] kt pt] (.Tuple [a,b] k2 pt2) pos.line X.env=pure false:=by rfl):
 PS X (.Assign [.Tuple [.Name x px,.Name y py] kt pt] (.Tuple [a,b] k2 pt2) pos) (Dh i j ta):=by
 intro pins s σ H D I h
 rw[exec_Assign_arm]
 refine wpAny_bind (wpAny_standAt ?_)
 rw[hs]
 refine wpAny_bind (wpAny_pure ?_)
 rw[if_neg (by decide)]
 refine wpAny_bind (Tuple_ (bF (ha _ pins s σ H _ I h) fun us s1 ⟨vs,H1,I1,r1,q1⟩=>?_))
 obtain⟨v,w,e1,q1⟩:=q1
 subst e1
 obtain⟨u1,u2,rfl,rv,rw'⟩:∃u1 u2,us=[u1,u2]∧RelV v u1∧RelV w u2:=by
  cases r1 with
  |cons p q=>
   cases q with
   |cons p' q'=>
    cases q'
    exact⟨_,_,rfl,p,p'⟩
 refine wpAny_newObj_type ?_ (by show 2≤sizeLine;decide)
 have I2:Inv X pins σ H1 {s1 with heap:=s1.heap.push {cls:= .type "tuple",data:= .seq [u1,u2].toArray}}:=I1.kept (t':=s1.toks) fun b o e=>Heap.get?_push_of_some _ e
 rw[hw]
 refine wpAny_bind (wpAny_pure ?_)
 show wpAny (model X.prog X.w) X.A (do rule "assign.swapped-stores";let items ←unpackItems (.ref s1.heap.objs.size) 2 none;assignInOrder [fun v=>bindName X.env y v,fun v=>bindName X.env x v] items.reverse;pure Flow.next) _ _ _
 refine wpAny_bind (wpAny_rule (wpAny_bind (unpackItems_tuple (items:= #[u1,u2]) (I.ok.hd hc) (IsTup.new s1.heap _) fun h' hx'=>?_)))
 have I3:=I2.kept (h':=h') (t':=s1.toks) fun b o e=>hx' b o (Nat.ne_of_lt (Heap.lt_size e)) e
 show wpAny _ _ (assignInOrder [fun v=>bindName X.env y v,fun v=>bindName X.env x v] [u2,u1] >>= fun _=>pure Flow.next) _ _ _
 refine wpAny_bind (assignInOrder_cons (wpAny_bindName (kb I3 hN hj (.inl hy) rw' (fun s2 I4=>?_) (.inr hy))))
 refine assignInOrder_cons (wpAny_bindName (kb I4 hN hi (.inl hx) rv (fun s3 I5=>assignInOrder_nil (wpAny_pure ?_)) (.inr hx)))
 rw[List.set_comm _ _ (Ne.symm hij)]at I5
 exact⟨_,H1,I5,q1⟩
def Ct(i:Nat)(te:TE)(ti:zT):TS:=fun D σ H=>∃x,σ[i]?=some (some x)∧te σ H fun y H1=>ti x y H1 fun z H2=>D.nx (σ.set i (some z)) H2
theorem CN{i:Nat}{x:Str}{e:Expr}{te:TE}{op:Operator}{ti:zT}{pos':Pos}(hN:X.N.Nodup)(hi:X.N[i]?=some x)(hx:Loc X.env.scope x)(he:PE X e te)(ho:DY X op ti)(hf:X.fn x=true∨X.env.scope.names.lookup x=some .local:=by first|exact .inl rfl|exact .inr rfl|assumption):
 PS X (.AugAssign (.Name x pos') op e pos) (Ct i te ti):=by
 intro pins s σ H D I h
 obtain⟨v,e1,h⟩:=h
 obtain⟨m,hn,hl⟩:=I.loc
 have vis:tj X.env.scope x:=by rcases hx with k|k;exact .inl k;exact .inr (.inl k)
 obtain⟨u,r,l⟩:=hl i x v hi e1 vis
 refine wpAny_AugAssign_Name ?_
 have go:wpAny (model X.prog X.w) X.A (eval e X.env) (fun w s₂=>wpAny (model X.prog X.w) X.A (inplaceOp op u w) (fun r s₃=>wpAny (model X.prog X.w) X.A (storeName X.env x r) (fun _=>SP X pins D .next) X.xe s₃) X.xe s₂) X.xe s:=by
  refine bF (he pins s σ H _ I h) fun w s1 ⟨y,H1,I1,r1,q1⟩=>?_
  refine bF (ho pins s1 σ H1 v y u w _ I1 r r1 q1) fun z s2 ⟨zv,H2,I2,r2,q2⟩=>?_
  exact kb I2 hN hi hx r2 (fun s3 I3=>⟨_,H2,I3,q2⟩) hf
 rcases l with⟨hk,hm⟩|⟨hk,c,hc,hcell⟩
 · exact wpAny_loadName_local I.ok.kind hk hn hm go
 · rcases hk with hk|hk
   · exact wpAny_loadName_cell I.ok.kind hk hc hcell go
   · rcases hx with k|k
     · have:X.env.scope.names.lookup x=some .free:=hk
       rw[k]at this;cases this
     · have:X.env.scope.names.lookup x=some .free:=hk
       rw[k]at this;cases this
def CU(f:Int→Int→Int):zT:=fun x y H Q=>∃i j,x= .int i∧y= .int j∧Q (.int (f i j)) H
theorem Ec:DY X .Add (CU fun i j=>i+j):=by
 intro pins s σ H x y v u Q I r1 r2 h
 obtain⟨i,j,e1,e2,q⟩:=h
 subst e1;subst e2
 obtain⟨t,rfl⟩:=r1
 obtain⟨t',rfl⟩:=r2
 exact iadd_int ⟨.int _,H,I.tok _,⟨_,rfl⟩,q⟩
end
section
variable {X:Cx}{pos:Pos}
def xt(c:TT)(tb:TS):TS:=fun D σ H=>∃W:Nat→St→Hp→Prop,(∃m,W m σ H)∧∀m σ H,W m σ H→
 c σ H fun b H1=>if b=true then∃N:St→Hp→Prop,(∀σ' H',N σ' H'→∃m',m'<m∧W m' σ' H')∧tb {D with nx:=N,ct:=N,bk:=D.nx} σ H1 else D.nx σ H1
theorem yW{c:Expr}{body:List Stmt}{tc:TT}{tb:TS}(hp:PassesOwn (model X.prog X.w) X.A X.env X.xe)(hc:PT X c tc)(hb:fG X body tb):PS X (.While c body [] pos) (xt tc tb):=by
 intro pins s σ H D I h
 obtain⟨W,⟨m0,w0⟩,turn⟩:=h
 refine wpAny_While (codeAny_whileLoop (fun n s'=>∃σ' H',Inv X pins σ' H' s'∧W n σ' H') ?_ m0 ⟨σ,H,I,w0⟩)
 rintro n s1 ⟨σ1,H1,I1,w1⟩
 refine wpAny_passesOwn hp (bF (hc pins s1 σ1 H1 _ I1 (turn n σ1 H1 w1)) fun b s2 ⟨H2,I2,q2⟩=>?_)
 cases b with
 |true=>
  obtain⟨N,hN,q2⟩:=q2
  rw[if_pos rfl]
  refine wpAny_passesOwn hp (bF (hb pins s2 σ1 H2 _ I2 q2) fun f s3 q3=>?_)
  cases f with
  |next=>
   obtain⟨σ3,H3,I3,n3⟩:=q3
   obtain⟨m',hm,w3⟩:=hN σ3 H3 n3
   exact⟨m',hm,σ3,H3,I3,w3⟩
  |cont=>
   obtain⟨σ3,H3,I3,n3⟩:=q3
   obtain⟨m',hm,w3⟩:=hN σ3 H3 n3
   exact⟨m',hm,σ3,H3,I3,w3⟩
  |brk=>exact q3
  |ret v=>exact q3
 |false=>
  rw[if_neg Bool.false_ne_true]
  exact wpAny_execs_nil ⟨σ1,H2,I2,q2⟩
end
structure It where
 go:Nat→Hp→Prop
 lM:Nat→Hp→V→Hp→Prop
 stop:Nat→Hp→Prop
def iU(X:Cx)(pins:List (Addr×Obj))(H:Hp)(b:Addr):Prop:=
 H b=none∧b≠X.env.locals∧b∉X.fs∧(b∈X.ex∨X.s₀.heap.objs.size≤b)∧(∀x c,X.env.cells.lookup x=some c→c≠b)∧∀p∈X.pn++pins,p.1≠b
theorem Inv.se{X:Cx}{pins:List (Addr×Obj)}{σ:St}{H H':Hp}{s:Shared}{b:Addr}(I:Inv X pins σ H s)(hb:s.heap.objs.size≤b)(hn:H' b=none):iU X pins H' b:=by
 refine⟨hn,Nat.ne_of_gt (Nat.lt_of_lt_of_le I.lt hb),I.C6 hb,.inr (Nat.le_trans I.sz hb),fun x c e z=>?_,fun p hp z=>?_⟩
 · obtain⟨v,q⟩:=I.cell x c e
   exact absurd (Nat.lt_of_lt_of_le q.lt (by rw[z];exact hb)) (Nat.lt_irrefl _)
 · exact absurd (Nat.lt_of_lt_of_le (Heap.lt_size (I.pin p hp).1) (by rw[z];exact hb)) (Nat.lt_irrefl _)
structure Turn(P:Program)(w:World)(K:PySem.W.Frag)(tg:Expr)(J:It)(fp:List Addr)(it:Addr)(tn:Nat→Heap→Prop):Prop where
 mem:it∈fp
 obj:∀i h,tn i h→∀b∈fp,∃o,h.get? b=some o∧∀v,o.data≠ .cell v
 keep:∀i h h',tn i h→(∀b∈fp,∀o,h.get? b=some o→h'.get? b=some o)→tn i h'
 item:∀(X:Cx),X.prog=P→X.w=w→X.K=K→X.calm=true→∀(i:Nat) (pins:List (Addr×Obj)) (s:Shared) (σ:St) (H:Hp) (E:Value→Shared→Prop),Inv X pins σ H s→(∀b∈fp,iU X pins H b)→tn i s.heap→J.go i H→
  wpAny (model P w) X.A (pyNext (.ref it)) (fun r s1=>∃u,r=some u∧
   wpAny (model P w) X.A (letOwnedTupleGo tg (.ref it) u) (fun _ s2=>∃x H',Inv X pins σ H' s2∧RelV x u∧J.lM i H x H'∧tn (i+1) s2.heap∧∀b∈fp,H' b=none) E s1) E s
 done:∀(X:Cx),X.prog=P→X.w=w→X.K=K→X.calm=true→∀(i:Nat) (pins:List (Addr×Obj)) (s:Shared) (σ:St) (H:Hp) (E:Value→Shared→Prop),Inv X pins σ H s→(∀b∈fp,iU X pins H b)→tn i s.heap→J.stop i H→
  wpAny (model P w) X.A (pyNext (.ref it)) (fun r s1=>r=none∧Inv X pins σ H s1) E s
 self:∀(A:Around) (i:Nat) (s:Shared) (Q:Value→Shared→Prop) (E:Value→Shared→Prop),tn i s.heap→Q (.ref it) s→wpAny (model P w) A (pyIter (.ref it)) Q E s
abbrev TI:=St→Hp→(It→Hp→Prop)→Prop
def Ad(X:Cx)(pins:List (Addr×Obj))(σ:St)(tg:Expr)(R:It→Hp→Prop)(itv:Value)(s2:Shared):Prop:=
 ∃(it:Addr) (fp:List Addr) (tn:Nat→Heap→Prop) (J:It) (H':Hp),itv= .ref it∧Inv X pins σ H' s2∧Turn X.prog X.w X.K tg J fp it tn∧tn 0 s2.heap∧(∀b∈fp,iU X pins H' b)∧R J H'
def PI(X:Cx)(tg iter:Expr)(wi:TI):Prop:=
 ∀(pins:List (Addr×Obj)) (s:Shared) (σ:St) (H:Hp) (R:It→Hp→Prop),Inv X pins σ H s→wi σ H R→
  wpAny (model X.prog X.w) X.A (eval iter X.env) (fun v s1=>wpAny (model X.prog X.w) X.A (pyIter v) (Ad X pins σ tg R) X.xe s1) X.xe s
theorem vM{M:Model}{A:Around}{E:Value→Shared→Prop}{s:Shared}{tg:Expr}{it:Addr}{u:Value}{o:Obj}{n:String}{vs:Array Value}{Q:Unit→Shared→Prop}(ho:s.heap.get? it=some o)(hc:o.cls= .type n)(hd:o.data= .fields vs)
 (hn: ["enumerate","zip","dict_itemiterator","dict_reverseitemiterator","odict_iterator","itertools.zip_longest","itertools.pairwise"].contains n=false) (hQ:Q () s):wpAny M A (letOwnedTupleGo tg (.ref it) u) Q E s:=by
 unfold letOwnedTupleGo
 cases tg<;>first
  |exact wpAny_pure hQ
  |(cases u<;>first
     |exact wpAny_pure hQ
     |(refine wpAny_bind (wpAny_load ho ?_)
       rw[hc,hd]
       show wpAny M A (if(["enumerate","zip","dict_itemiterator","dict_reverseitemiterator","odict_iterator","itertools.zip_longest","itertools.pairwise"].contains n&&vs[0]?==some (rawInt _))=true then _ else _) Q E s
       rw[if_neg (by intro h;rw[hn,Bool.false_and]at h;cases h)]
       exact wpAny_pure hQ))
def Cc(K:PySem.W.Frag)(a:Addr):It:=
 ⟨fun i H=>∃xs x,ji K H a xs∧xs[i]?=some x,fun i H x H'=>H'=H∧∀xs,ji K H a xs→xs[i]?=some x,fun i H=>∃xs,ji K H a xs∧xs.length≤i⟩
def BX(K:PySem.W.Frag)(a:Addr):It:=
 ⟨fun i H=>∃xs x,gs K H a xs∧xs[i]?=some x,fun i H x H'=>H'=H∧∀xs,gs K H a xs→xs[i]?=some x,fun i H=>∃xs,gs K H a xs∧xs.length≤i⟩
def qE(lo:Int)(n:Nat):It:=⟨fun i _=>i<n,fun i H x H'=>H'=H∧x= .int (lo+i),fun i _=>n≤i⟩
theorem wF{P:Program}{w:World}{K:PySem.W.Frag}{tg:Expr}(a it:Addr):Turn P w K tg (Cc K a) [it] it (fun i h=>h.IsListIter it a i) where
 mem:=by simp
 obj:=fun i h st b hb=>by
  have e:b=it:=by simpa using hb
  subst e
  obtain⟨o,e,c,d⟩:=st
  exact⟨o,e,fun v z=>by rw[d]at z;cases z⟩
 keep:=fun i h h' st k=>st.at fun o e=>k it (by simp) o e
 item:=by
  intro X hP hw hK hc i pins s σ H E I hf st hg
  subst hP hw hK
  obtain⟨xs,x,hq,hx⟩:=hg
  obtain⟨its,rv,p,hz⟩:=I.list hq
  obtain⟨u,hu,ru⟩:=rv.get hx
  obtain⟨f0,f1,f2,f3,f4,f5⟩:=hf it (by simp)
  refine wpAny_pyNext_list_item st p.isList (x:=u) (by simpa using hu) fun h' st' sb=>?_
  have I1:Inv X pins σ H {s with heap:=h'}:=I.turned (t':=s.toks) (fun b o hb e=>(sb.2 b hb).trans e) f0 f1 f3 f4 f5
  obtain⟨o,e,c,d⟩:=id st'
  exact⟨u,rfl,vM (s:={s with heap:=h'}) e c d (by decide) ⟨x,H,I1,ru,⟨rfl,fun ys hy=>by rw[I.rO hy hq];exact hx⟩,st',fun b hb=>(hf b hb).1⟩⟩
 done:=by
  intro X hP hw hK hc i pins s σ H E I hf st hg
  subst hP hw hK
  obtain⟨xs,hq,hx⟩:=hg
  obtain⟨its,rv,p,hz⟩:=I.list hq
  obtain⟨f0,f1,f2,f3,f4,f5⟩:=hf it (by simp)
  have hl:=rv.length
  exact wpAny_pyNext_list_end (I.ok.hd hc) st p.isList (by simp;omega) fun h' eb=>⟨rfl,I.turned (t':=s.toks) (fun b o hb e=>eb b o hb e) f0 f1 f3 f4 f5⟩
 self:=fun _ _ _ _ _ st h=>wpAny_pyIter_listiter st h
theorem vN{P:Program}{w:World}{K:PySem.W.Frag}{tg:Expr}(a it:Addr):Turn P w K tg (BX K a) [it] it (fun i h=>h.IsTupleIter it a i) where
 mem:=by simp
 obj:=fun i h st b hb=>by
  have e:b=it:=by simpa using hb
  subst e
  obtain⟨o,e,c,d⟩:=st
  exact⟨o,e,fun v z=>by rw[d]at z;cases z⟩
 keep:=fun i h h' st k=>st.at fun o e=>k it (by simp) o e
 item:=by
  intro X hP hw hK hc i pins s σ H E I hf st hg
  subst hP hw hK
  obtain⟨xs,x,hq,hx⟩:=hg
  obtain⟨its,rv,p,hz⟩:=I.tuple hq
  obtain⟨u,hu,ru⟩:=rv.get hx
  obtain⟨f0,f1,f2,f3,f4,f5⟩:=hf it (by simp)
  refine wpAny_pyNext_tuple_item st (show s.heap.IsTuple a its.toArray from p) (x:=u) (by simpa using hu) fun h' st' sb=>?_
  have I1:Inv X pins σ H {s with heap:=h'}:=I.turned (t':=s.toks) (fun b o hb e=>(sb.2 b hb).trans e) f0 f1 f3 f4 f5
  obtain⟨o,e,c,d⟩:=id st'
  exact⟨u,rfl,vM (s:={s with heap:=h'}) e c d (by decide) ⟨x,H,I1,ru,⟨rfl,fun ys hy=>by rw[I.qy hy hq];exact hx⟩,st',fun b hb=>(hf b hb).1⟩⟩
 done:=by
  intro X hP hw hK hc i pins s σ H E I hf st hg
  subst hP hw hK
  obtain⟨xs,hq,hx⟩:=hg
  obtain⟨its,rv,p,hz⟩:=I.tuple hq
  obtain⟨f0,f1,f2,f3,f4,f5⟩:=hf it (by simp)
  have hl:=rv.length
  exact wpAny_pyNext_tuple_end (I.ok.hd hc) st (show s.heap.IsTuple a its.toArray from p) (by simp;omega) fun h' eb=>⟨rfl,I.turned (t':=s.toks) (fun b o hb e=>eb b o hb e) f0 f1 f3 f4 f5⟩
 self:=fun _ _ _ _ _ st h=>wpAny_pyIter_tupleiter st h
theorem vP{P:Program}{w:World}{K:PySem.W.Frag}{tg:Expr}(it:Addr)(lo:Int)(n:Nat):Turn P w K tg (qE lo n) [it] it (fun i h=>IsRangeIter h it (lo+(i:Nat)*1) ((n:Int)-(i:Nat)) 1) where
 mem:=by simp
 obj:=fun i h st b hb=>by
  have e:b=it:=by simpa using hb
  subst e
  exact⟨_,st,fun v z=>by
   have z':Data.fields _=Data.cell v:=z
   cases z'⟩
 keep:=fun i h h' st k=>k it (by simp) _ st
 item:=by
  intro X hP hw hK hc i pins s σ H E I hf st hg
  subst hP hw hK
  obtain⟨f0,f1,f2,f3,f4,f5⟩:=hf it (by simp)
  have W:=Walks.range (prog:=X.prog) (w:=X.w) (I.ok.hd hc) it lo 1 n
  refine W.item i s _ _ hg st fun v h' tk hv st' kk=>?_
  obtain⟨t,rfl⟩:=hv
  have I1:Inv X pins σ H {s with heap:=h',toks:=tk}:=I.turned (fun b o hb e=>kk b o (by simpa using hb) e) f0 f1 f3 f4 f5
  refine⟨_,rfl,vM (s:={s with heap:=h',toks:=tk}) (n:="range_iterator") st' rfl rfl (by decide) ⟨.int (lo+i),H,I1,⟨t,?_⟩,⟨rfl,rfl⟩,st',fun b hb=>(hf b hb).1⟩⟩
  rw[Int.mul_one]
 done:=by
  intro X hP hw hK hc i pins s σ H E I hf st hg
  subst hP hw hK
  obtain⟨f0,f1,f2,f3,f4,f5⟩:=hf it (by simp)
  exact wpAny_pyNext_range_end (I.ok.hd hc) st (by have:n≤i:=hg;omega) fun h' eb=>⟨rfl,I.turned (t':=s.toks) (fun b o hb e=>eb b o hb e) f0 f1 f3 f4 f5⟩
 self:=fun _ _ _ _ _ st h=>wpAny_pyIter_rangeiter st h
end L2
namespace L2
open PySem PySem.Spec PyProof.Rows
section
variable {X:Cx}{tg:Expr}
theorem sd{pins:List (Addr×Obj)}{σ:St}{H:Hp}{s:Shared}{R:It→Hp→Prop}{E:Value→Shared→Prop}{lo hi:Int}{t u v:Tok}{tk:Nat}(I:Inv X pins σ H s)(h1: -(2^62)≤lo)(h2:lo<2^62)(h3: -(2^62)≤hi)(h4:hi<2^62)
 (q:R (qE lo (hi-lo).toNat) H):wpAny (model X.prog X.w) X.A (pyIter (.ref s.heap.objs.size)) (Ad X pins σ tg R) E {s with heap:=s.heap.push {cls:= .type "range",data:= .fields #[.int lo t,.int hi u,.int 1 v]},toks:=tk}:=by
 refine wpAny_pyIter_range (IsRange.new ..) (small_one h1 h2 h3 h4) ?_
 have I1:Inv X pins σ H {s with heap:=s.heap.push {cls:= .type "range",data:= .fields #[.int lo t,.int hi u,.int 1 v]},toks:=tk}:=I.kept fun b o e=>Heap.get?_push_of_some _ e
 refine⟨(s.heap.push {cls:= .type "range",data:= .fields #[.int lo t,.int hi u,.int 1 v]}).objs.size,[(s.heap.push {cls:= .type "range",data:= .fields #[.int lo t,.int hi u,.int 1 v]}).objs.size],_,_,H,rfl,
  I1.kept (t':=tk) fun b o e=>Heap.get?_push_of_some _ e,vP _ lo (hi-lo).toNat,?_,fun b hb=>?_,q⟩
 · have e1:lo+((0:Nat):Int)*1=lo:=by simp
   have e2:(((hi-lo).toNat:Nat):Int)-((0:Nat):Int)=Builtin.Range.rangeSize lo hi 1:=by rw[rangeSize_one];split<;>omega
   show IsRangeIter _ _ (lo+((0:Nat):Int)*1) ((((hi-lo).toNat:Nat):Int)-((0:Nat):Int)) 1
   rw[e1,e2]
   exact Heap.get?_push_size _ rfl
 · have e:b=(s.heap.push {cls:= .type "range",data:= .fields #[.int lo t,.int hi u,.int 1 v]}).objs.size:=by simpa using hb
   subst e
   exact I1.se (Nat.le_refl _) (I1.aH.fresh (Nat.le_refl _))
def vV(ta:TA):TI:=fun σ H R=>ta σ H fun vs H1=>∃j:Int,vs=[.int j]∧ -(2^62)≤j∧j<2^62∧R (qE 0 j.toNat) H1
def wm(ta:TA):TI:=fun σ H R=>ta σ H fun vs H1=>∃i j:Int,vs=[.int i,.int j]∧(-(2^62)≤i∧i<2^62∧ -(2^62)≤j∧j<2^62)∧R (qE i (j-i).toNat) H1
theorem xI{a:Expr}{ta:TA}{p pos:Pos}(hg:Gl X "range")(hm:X.mg "range"=none)(ha:PA X [a] ta)(hs:starEach [a] X.env=[(false,eval a X.env)]:=by rfl):PI X tg (.Call (.Name "range" p) [a] [] pos) (vV ta):=by
 intro pins s σ H R I h
 refine Call_ (jR I hg hm boot_range (PyProof.Rows.callWith_type1 (bF (ha pos pins s σ H _ I h) fun us s1 ⟨vs,H1,I1,r1,q1⟩=>?_) hs rfl))
 obtain⟨j,e,q1,q2,q⟩:=q1
 subst e
 cases r1 with
 |cons r rr=>
  cases rr
  obtain⟨t,rfl⟩:=r
  exact call_range_1 (sd I1 (by omega) (by omega) q1 q2 (by simpa using q))
theorem yl{a b:Expr}{ta:TA}{p pos:Pos}(hg:Gl X "range")(hm:X.mg "range"=none)(ha:PA X [a,b] ta)(hs:starEach [a,b] X.env=[(false,eval a X.env),(false,eval b X.env)]:=by rfl)(hs2:starEach [b] X.env=[(false,eval b X.env)]:=by rfl):
 PI X tg (.Call (.Name "range" p) [a,b] [] pos) (wm ta):=by
 intro pins s σ H R I h
 refine Call_ (jR I hg hm boot_range (PyProof.Rows.callWith_type1 (bF (ha pos pins s σ H _ I h) fun us s1 ⟨vs,H1,I1,r1,q1⟩=>?_) (by rw[hs,hs2]) (by rw[hs2];rfl)))
 obtain⟨i,j,e,⟨q1,q2,q3,q4⟩,q⟩:=q1
 subst e
 cases r1 with
 |cons r rr=>
  cases rr with
  |cons r' rr=>
   cases rr
   obtain⟨t,rfl⟩:=r
   obtain⟨t',rfl⟩:=r'
   exact call_range_2 (sd I1 q1 q2 q3 q4 q)
def Cb(wi:TI)(g:TG)(tb:TS):TS:=fun D σ H=>wi σ H fun J H1=>∃W:Nat→Nat→St→Hp→Prop,(∃m,W 0 m σ H1)∧∀i m σ H,W i m σ H→
 (J.stop i H∧D.nx σ H)∨(J.go i H∧∃N:St→Hp→Prop,(∀σ' H',N σ' H'→∃m',m'<m∧W (i+1) m' σ' H')∧∀x H',J.lM i H x H'→g x σ H' fun σ2 H2=>tb {D with nx:=N,ct:=N,bk:=D.nx} σ2 H2)
def mE(fp:List Addr)(h:Heap):List (Addr×Obj):=fp.filterMap fun b=>(h.get? b).map fun o=>(b,o)
theorem jA{fp:List Addr}{h:Heap}{b:Addr}{o:Obj}(hb:b∈fp)(e:h.get? b=some o):(b,o)∈mE fp h:=List.mem_filterMap.mpr ⟨b,hb,by rw[e];rfl⟩
theorem xj{fp:List Addr}{h:Heap}{p:Addr×Obj}(hp:p∈mE fp h):p.1∈fp∧h.get? p.1=some p.2:=by
 obtain⟨b,hb,e⟩:=List.mem_filterMap.mp hp
 cases q:h.get? b with
 |none=>rw[q]at e;cases e
 |some o=>
  rw[q]at e
  have e':(b,o)=p:=Option.some.inj e
  subst e'
  exact⟨hb,q⟩
theorem Inv.pinned{pins:List (Addr×Obj)}{σ:St}{H:Hp}{s:Shared}{fp:List Addr}(I:Inv X pins σ H s)(hf:∀b∈fp,iU X pins H b)(ho:∀b∈fp,∃o,s.heap.get? b=some o∧∀v,o.data≠ .cell v):Inv X (pins++mE fp s.heap) σ H s:=
 I.mQ fun p hp=>(List.mem_append.mp hp).elim (fun z=>I.pin p (List.mem_append_right _ z)) fun z=>by
  obtain⟨hb,e⟩:=xj z
  obtain⟨f0,f1,f2,_⟩:=hf p.1 hb
  obtain⟨o,e',d⟩:=ho p.1 hb
  rw[e]at e';cases e'
  exact⟨e,f0,f1,f2,d⟩
theorem Inv.fL{pins pl:List (Addr×Obj)}{σ:St}{H:Hp}{s:Shared}(I:Inv X (pins++pl) σ H s):Inv X pins σ H s:=I.mQ fun p hp=>I.pin p (List.mem_append_right _ (List.mem_append_left _ hp))
theorem C3{iter:Expr}{body:List Stmt}{wi:TI}{g:TG}{tb:TS}{pos:Pos}(hp:PassesOwn (model X.prog X.w) X.A X.env X.xe)(hc:X.calm=true)(hi:PI X tg iter wi)(hg:PG X tg g)(hb:fG X body tb)
 (hs:∀x,foldedSetIterable iter X.env x=pure x:=by intro _;rfl):PS X (.For tg iter body [] pos) (Cb wi g tb):=by
 intro pins s σ H D I h
 refine wpAny_For (bF (hi pins s σ H _ I h) fun v s1 h1=>bF h1 fun itv s2 h2=>?_) hs
 obtain⟨it,fp,tn,J,H2,e,I2,T,st2,f2,W,⟨m0,w0⟩,turn⟩:=h2
 subst e
 have stat:∀ {H':Hp},(∀b∈fp,H' b=none)→∀b∈fp,iU X pins H' b:=fun hn b hb=>⟨hn b hb,(f2 b hb).2⟩
 refine codeAny_forLoop_any (fun n s'=>∃i σ' H',Inv X pins σ' H' s'∧tn i s'.heap∧(∀b∈fp,H' b=none)∧W i n σ' H') ?_ m0 ⟨0,σ,H2,I2,st2,fun b hb=>(f2 b hb).1,w0⟩
 rintro n s3 ⟨i,σ3,H3,I3,st3,fr3,w3⟩
 rcases turn i n σ3 H3 w3 with⟨stop,qn⟩|⟨go,N,hN,step⟩
 · refine wpAny_passesOwn hp (bF (T.done X rfl rfl rfl hc i pins s3 σ3 H3 X.xe I3 (stat fr3) st3 stop) fun r s4 ⟨hr,I4⟩=>?_)
   subst hr
   exact wpAny_execs_nil ⟨σ3,H3,I4,qn⟩
 · refine wpAny_passesOwn hp (bF (T.item X rfl rfl rfl hc i pins s3 σ3 H3 X.xe I3 (stat fr3) st3 go) fun r s4 ⟨u,hr,h4⟩=>?_)
   subst hr
   refine wpAny_passesOwn hp (bF h4 fun _ s5 ⟨x,H5,I5,r5,y5,st5,fr5⟩=>?_)
   have I5':=I5.pinned (stat fr5) (T.obj _ _ st5)
   refine wpAny_passesOwn hp (bF (hg _ s5 σ3 H5 x u _ I5' r5 (step x H5 y5)) fun _ s6 ⟨σ6,H6,I6,q6⟩=>?_)
   refine wpAny_passesOwn hp (bF (hb _ s6 σ6 H6 _ I6 q6) fun f s7 q7=>?_)
   have again:∀ {σ7:St} {H7:Hp},Inv X (pins++mE fp s5.heap) σ7 H7 s7→N σ7 H7→∃m,m<n∧∃i σ' H',Inv X pins σ' H' s7∧tn i s7.heap∧(∀b∈fp,H' b=none)∧W i m σ' H':=fun{σ7 H7} I7 n7=>by
    obtain⟨m',hm,w7⟩:=hN σ7 H7 n7
    refine⟨m',hm,i+1,σ7,H7,I7.fL,T.keep _ _ _ st5 fun b hb o e=>(I7.pin (b,o) (List.mem_append_right _ (List.mem_append_right _ (jA hb e)))).1,fun b hb=>?_,w7⟩
    obtain⟨o,e,d⟩:=T.obj _ _ st5 b hb
    exact(I7.pin (b,o) (List.mem_append_right _ (List.mem_append_right _ (jA hb e)))).2.1
   cases f with
   |next=>obtain⟨σ7,H7,I7,n7⟩:=q7;exact again I7 n7
   |cont=>obtain⟨σ7,H7,I7,n7⟩:=q7;exact again I7 n7
   |brk=>obtain⟨σ7,H7,I7,q7⟩:=q7;exact⟨σ7,H7,I7.fL,q7⟩
   |ret v=>obtain⟨x7,σ7,H7,I7,r7,q7⟩:=q7;exact⟨x7,σ7,H7,I7.fL,r7,q7⟩
end
theorem h9{lo:Int}{n:Nat}{g:TG}{tb:TS}{D:Ends}{σ:St}{H:Hp}(Pv:Nat→St→Hp→Prop)(h0:Pv 0 σ H)
 (hs:∀i σ H,i<n→Pv i σ H→g (.int (lo+i)) σ H fun σ2 H2=>tb {D with nx:=Pv (i+1),ct:=Pv (i+1),bk:=D.nx} σ2 H2) (hd:∀σ H,Pv n σ H→D.nx σ H):
 ∃W:Nat→Nat→St→Hp→Prop,(∃m,W 0 m σ H)∧∀i m σ H,W i m σ H→
  ((qE lo n).stop i H∧D.nx σ H)∨((qE lo n).go i H∧∃N:St→Hp→Prop,(∀σ' H',N σ' H'→∃m',m'<m∧W (i+1) m' σ' H')∧∀x H',(qE lo n).lM i H x H'→g x σ H' fun σ2 H2=>tb {D with nx:=N,ct:=N,bk:=D.nx} σ2 H2):=by
 refine⟨fun i m σ H=>m=n-i∧i≤n∧Pv i σ H,⟨n,by simp,Nat.zero_le _,h0⟩,?_⟩
 rintro i m σ H ⟨rfl,hi,p⟩
 by_cases hlt:i<n
 · refine .inr ⟨hlt,Pv (i+1),fun σ' H' p'=>⟨n-(i+1),by omega,rfl,hlt,p'⟩,fun x H' y=>?_⟩
   obtain⟨e,y⟩:=y
   subst e y
   exact hs i σ _ hlt p
 · have e:i=n:=by omega
   subst e
   exact .inl ⟨Nat.le_refl _,hd σ H p⟩
end L2
namespace L2
open PySem PySem.Spec PyProof.Rows
abbrev R2:=V→V→Hp→VK→Prop
def bG(X:Cx)(f:Value→Value→Sem Value)(r:R2):Prop:=
 ∀(pins:List (Addr×Obj)) (s:Shared) (σ:St) (H:Hp) (x y:V) (v u:Value) (Q:VK),Inv X pins σ H s→RelV x v→RelV y u→r x y H Q→
  wpAny (model X.prog X.w) X.A (f v u) (EP X pins σ Q) X.xe s
def uW(X:Cx)(f:Value→Sem Value)(r:V→Hp→VK→Prop):Prop:=
 ∀(pins:List (Addr×Obj)) (s:Shared) (σ:St) (H:Hp) (x:V) (v:Value) (Q:VK),Inv X pins σ H s→RelV x v→r x H Q→
  wpAny (model X.prog X.w) X.A (f v) (EP X pins σ Q) X.xe s
def bO(X:Cx)(f:Value)(r:List V→Hp→VK→Prop):Prop:=
 ∀(pins:List (Addr×Obj)) (s:Shared) (σ:St) (H:Hp) (xs:List V) (us:List Value) (Q:VK),Inv X pins σ H s→Vals xs us→r xs H Q→
  wpAny (model X.prog X.w) X.A (call f us) (EP X pins σ Q) X.xe s
def yh(r:R2)(ta tb:TE):TE:=fun σ H Q=>ta σ H fun x H1=>tb σ H1 fun y H2=>r x y H2 Q
def F_(r:V→Hp→VK→Prop)(ta:TE):TE:=fun σ H Q=>ta σ H fun x H1=>r x H1 Q
def rI(C:Int→Int→Prop)(g:Int→Int→V):R2:=fun x y H Q=>∃i j,x= .int i∧y= .int j∧C i j∧Q (g i j) H
def ph(g:Int→Int→V):R2:=fun x y H Q=>∃i j,x= .int i∧y= .int j∧Q (g i j) H
def rU(g:Int→V):V→Hp→VK→Prop:=fun x H Q=>∃i,x= .int i∧Q (g i) H
section
variable {X:Cx}{a b c:Expr}{ta tb tc:TE}{pos:Pos}
theorem yr(ha:PE X a ta)(hb:PE X b tb){pins:List (Addr×Obj)}{s:Shared}{σ:St}{H:Hp}{R:V→V→Hp→Prop}(I:Inv X pins σ H s)
 (h:ta σ H fun x H1=>tb σ H1 fun y H2=>R x y H2) {Q:Value→Shared→Prop} {f:Value→Value→Sem Value}
 (hf:∀v u s2 x y H2,Inv X pins σ H2 s2→RelV x v→RelV y u→R x y H2→wpAny (model X.prog X.w) X.A (f v u) Q X.xe s2):
 wpAny (model X.prog X.w) X.A (eval a X.env) (fun v s₁=>wpAny (model X.prog X.w) X.A (eval b X.env) (fun u s₂=>wpAny (model X.prog X.w) X.A (f v u) Q X.xe s₂) X.xe s₁) X.xe s:=by
 refine bF (ha pins s σ H _ I h) fun v s1 ⟨x,H1,I1,r1,q1⟩=>?_
 refine bF (hb pins s1 σ H1 _ I1 q1) fun u s2 ⟨y,H2,I2,r2,q2⟩=>?_
 exact hf v u s2 x y H2 I2 r1 r2 q2
theorem EK{op:Operator}{r:R2}(ho:bG X (binaryOp op) r)(ha:PE X a ta)(hb:PE X b tb):PE X (.BinOp a op b pos) (yh r ta tb):=by
 intro pins s σ H Q I h
 exact wpAny_BinOp (yr ha hb I h fun v u s2 x y H2 I2 rx ry q=>ho pins s2 σ H2 x y v u Q I2 rx ry q)
theorem EG{op:UnaryOp}{r:V→Hp→VK→Prop}(ho:uW X (unaryOp op) r)(ha:PE X a ta):PE X (.UnaryOp op a pos) (F_ r ta):=by
 intro pins s σ H Q I h
 exact UnaryOp_ (bF (ha pins s σ H _ I h) fun v s1 ⟨x,H1,I1,r1,q1⟩=>ho pins s1 σ H1 x v Q I1 r1 q1)
theorem zY{f:Value→Value→Sem Value}{C:Int→Int→Prop}{g:Int→Int→Int}
 (rule:∀(i j:Int) (t u:Tok) (s:Shared) (Q:Value→Shared→Prop) (E:Value→Shared→Prop),C i j→Q (.int (g i j) s.toks) {s with toks:=s.toks+1}→wpAny (model X.prog X.w) X.A (f (.int i t) (.int j u)) Q E s):
 bG X f (rI C fun i j=> .int (g i j)):=by
 intro pins s σ H x y v u Q I rx ry h
 obtain⟨i,j,rfl,rfl,hc,q⟩:=h
 obtain⟨t,rfl⟩:=rx
 obtain⟨t',rfl⟩:=ry
 exact rule i j t t' s _ _ hc ⟨.int (g i j),H,I.tok _,⟨_,rfl⟩,q⟩
theorem Cy{f:Value→Value→Sem Value}{g:Int→Int→Int}
 (rule:∀(i j:Int) (t u:Tok) (s:Shared) (Q:Value→Shared→Prop) (E:Value→Shared→Prop),Q (.int (g i j) s.toks) {s with toks:=s.toks+1}→wpAny (model X.prog X.w) X.A (f (.int i t) (.int j u)) Q E s):
 bG X f (ph fun i j=> .int (g i j)):=by
 intro pins s σ H x y v u Q I rx ry h
 obtain⟨i,j,rfl,rfl,q⟩:=h
 obtain⟨t,rfl⟩:=rx
 obtain⟨t',rfl⟩:=ry
 exact rule i j t t' s _ _ ⟨.int (g i j),H,I.tok _,⟨_,rfl⟩,q⟩
theorem wa{f:Value→Value→Sem Value}{g:Int→Int→Bool}
 (rule:∀(i j:Int) (t u:Tok) (s:Shared) (Q:Value→Shared→Prop) (E:Value→Shared→Prop),Q (.bool (g i j)) s→wpAny (model X.prog X.w) X.A (f (.int i t) (.int j u)) Q E s):
 bG X f (ph fun i j=> .bl (g i j)):=by
 intro pins s σ H x y v u Q I rx ry h
 obtain⟨i,j,rfl,rfl,q⟩:=h
 obtain⟨t,rfl⟩:=rx
 obtain⟨t',rfl⟩:=ry
 exact rule i j t t' s _ _ ⟨.bl (g i j),H,I,rfl,q⟩
def zt(i j:Int):Prop:=0≤j∧j≤1000000∧i.natAbs<2^64
theorem CH:bG X (binaryOp .Add) (ph fun i j=> .int (i+j)):=Cy fun _ _ _ _ _ _ _ q=>add_int q
theorem Dn:bG X (binaryOp .Sub) (ph fun i j=> .int (i-j)):=Cy fun _ _ _ _ _ _ _ q=>sub_int q
theorem BH:bG X (binaryOp .Mod) (rI (fun _ j=>j≠0) fun i j=> .int (i.fmod j)):=zY fun _ _ _ _ _ _ _ hc q=>mod_int' hc q
theorem C2:bG X (binaryOp .Pow) (rI zt fun i j=> .int (i^j.toNat)):=zY fun _ _ _ _ _ _ _ hc q=>pow_int_small hc.1 hc.2.1 hc.2.2 q
theorem Hg{f:Value→Sem Value}{g:Int→Int}
 (rule:∀(i:Int) (t:Tok) (s:Shared) (Q:Value→Shared→Prop) (E:Value→Shared→Prop),Q (.int (g i) s.toks) {s with toks:=s.toks+1}→wpAny (model X.prog X.w) X.A (f (.int i t)) Q E s):
 uW X f (rU fun i=> .int (g i)):=by
 intro pins s σ H x v Q I rx h
 obtain⟨i,rfl,q⟩:=h
 obtain⟨t,rfl⟩:=rx
 exact rule i t s _ _ ⟨.int (g i),H,I.tok _,⟨_,rfl⟩,q⟩
theorem DP:uW X (unaryOp .USub) (rU fun i=> .int (-i)):=Hg fun _ _ _ _ _ q=>neg_int q
end
def Gz:V→V→Bool
 | .aA,.aA=>true| .aA,.int _=>true| .int _,.aA=>true| .aA,.bl _=>true| .bl _,.aA=>true| .aA,.str _=>true| .str _,.aA=>true
 | .int _,.int _=>true| .bl _,.bl _=>true| .str _,.str _=>true| .nJ _,.nJ _=>true
 | .int _,.str _=>true| .str _,.int _=>true| .bl _,.str _=>true| .str _,.bl _=>true
 |_,_=>false
def Hn:R2:=fun x y H Q=>Gz x y=true∧Q (.bl (!decide (x=y))) H
theorem Bm{i j:Int}:decide (V.int i=V.int j)=(i==j):=by
 rw[Bool.eq_iff_iff]
 simp
theorem CV{i j:Bool}:decide (V.bl i=V.bl j)=(i==j):=by
 rw[Bool.eq_iff_iff]
 simp
theorem Br{i j:Str}:decide (V.str i=V.str j)=(i==j):=by
 rw[Bool.eq_iff_iff]
 simp
theorem Bj{i j:Array UInt8}:decide (V.nJ i=V.nJ j)=(i.toList==j.toList):=by
 rw[Bool.eq_iff_iff]
 cases i
 cases j
 simp
section
variable {X:Cx}{a b c:Expr}{ta tb tc:TE}{pos:Pos}
theorem d6{pins:List (Addr×Obj)}{σ:St}{H:Hp}{s:Shared}{Q:VK}{k k':Bool}(I:Inv X pins σ H s)(q:Q (.bl k) H)(e:k=k'):EP X pins σ Q (.bool k') s:=by
 subst e
 exact⟨.bl k,H,I,rfl,q⟩
theorem Eo:bG X (compareOp .NotEq) Hn:=by
 intro pins s σ H x y v u Q I rx ry h
 obtain⟨hs,q⟩:=h
 cases x with
 |aA=>
  cases rx
  cases y with
  |aA=>cases ry;exact PySem.EqNone.ne_none_none (d6 I q (by simp))
  |bl j=>cases ry;exact PySem.EqNone.ne_none_bool (d6 I q (by simp))
  |int j=>obtain⟨t',rfl⟩:=ry;exact PySem.EqNone.ne_none_int (d6 I q (by simp))
  |str j=>obtain⟨t',rfl⟩:=ry;exact PySem.EqNone.ne_none_str (d6 I q (by simp))
  |_=>exact absurd (show false=true from hs) Bool.false_ne_true
 |bl i=>
  cases rx
  cases y with
  |aA=>cases ry;exact PySem.EqNone.ne_bool_none (d6 I q (by simp))
  |bl j=>cases ry;exact ne_bool (d6 I q (congrArg not CV))
  |str j=>obtain⟨t',rfl⟩:=ry;exact PySem.EqMixed.ne_bool_str (d6 I q (by simp))
  |_=>exact absurd (show false=true from hs) Bool.false_ne_true
 |int i=>
  obtain⟨t,rfl⟩:=rx
  cases y with
  |aA=>cases ry;exact PySem.EqNone.ne_int_none (d6 I q (by simp))
  |int j=>obtain⟨t',rfl⟩:=ry;exact ne_int (d6 I q (congrArg not Bm))
  |str j=>obtain⟨t',rfl⟩:=ry;exact PySem.EqMixed.ne_int_str (d6 I q (by simp))
  |_=>exact absurd (show false=true from hs) Bool.false_ne_true
 |str i=>
  obtain⟨t,rfl⟩:=rx
  cases y with
  |aA=>cases ry;exact PySem.EqNone.ne_str_none (d6 I q (by simp))
  |bl j=>cases ry;exact PySem.EqMixed.ne_str_bool (d6 I q (by simp))
  |int j=>obtain⟨t',rfl⟩:=ry;exact PySem.EqMixed.ne_str_int (d6 I q (by simp))
  |str j=>obtain⟨t',rfl⟩:=ry;exact ne_str (d6 I q (congrArg not Br))
  |_=>exact absurd (show false=true from hs) Bool.false_ne_true
 |nJ i=>
  obtain⟨t,rfl⟩:=rx
  cases y with
  |nJ j=>obtain⟨t',rfl⟩:=ry;exact PySem.W.ne_bytes (d6 I q (congrArg not Bj))
  |_=>exact absurd (show false=true from hs) Bool.false_ne_true
 |_=>cases y<;>exact absurd (show false=true from hs) Bool.false_ne_true
theorem E4:bG X (compareOp .Lt) (ph fun i j=> .bl (decide (i<j))):=wa fun _ _ _ _ _ _ _ q=>lt_int q
theorem EZ:bG X (compareOp .LtE) (ph fun i j=> .bl (decide (i≤j))):=wa fun _ _ _ _ _ _ _ q=>le_int q
theorem FE:bG X (compareOp .Gt) (ph fun i j=> .bl (decide (j<i))):=wa fun _ _ _ _ _ _ _ q=>gt_int q
theorem Ft:bG X (compareOp .GtE) (ph fun i j=> .bl (decide (j≤i))):=wa fun _ _ _ _ _ _ _ q=>ge_int q
theorem BG:bG X (compareOp .IsNot) (fun x y H Q=>y= .aA∧Q (.bl (!decide (x= .aA))) H):=by
 intro pins s σ H x y v u Q I rx ry h
 obtain⟨rfl,q⟩:=h
 cases ry
 refine isnot_none_gen (d6 I q ?_)
 cases x<;>first
  |(cases rx;rfl)
  |(obtain⟨t,rfl⟩:=rx;rfl)
theorem br(b:Expr){op:CmpOp}(h:op≠ .In:=by decide)(h2:op≠ .NotIn:=by decide):behindInMarks op b=false:=by
 have e1:(op==CmpOp.In)=false:=by cases op<;>first|rfl|exact absurd rfl h
 have e2:(op==CmpOp.NotIn)=false:=by cases op<;>first|rfl|exact absurd rfl h2
 cases b<;>simp[behindInMarks,e1,e2]
theorem AY{op:CmpOp}{r:R2}(ho:bG X (compareOp op) r)(ha:PE X a ta)(hb:PE X b tb)(hm:behindInMarks op b=false):PE X (.Compare a [op] [b] pos) (yh r ta tb):=by
 intro pins s σ H Q I h
 exact wpAny_Compare1 (yr ha hb I h fun v u s2 x y H2 I2 rx ry q=>ho pins s2 σ H2 x y v u Q I2 rx ry q) hm
def ES(t:TE):TT:=fun σ H Q=>t σ H fun x H'=>∃k,x= .bl k∧Q k H'
theorem Bv{op:CmpOp}{r:R2}(ho:bG X (compareOp op) r)(ha:PE X a ta)(hb:PE X b tb)(hm:behindInMarks op b=false):PT X (.Compare a [op] [b] pos) (ES (yh r ta tb)):=by
 intro pins s σ H Q I h
 refine wpAny_isTrue_Compare1 (bF (ha pins s σ H _ I h) fun v s1 ⟨x,H1,I1,r1,q1⟩=>bF (hb pins s1 σ H1 _ I1 q1) fun u s2 ⟨y,H2,I2,r2,q2⟩=>
  bF (ho pins s2 σ H2 x y v u _ I2 r1 r2 q2) fun c s3 ⟨z,H3,I3,r3,k,e,q3⟩=>?_) hm
 subst e
 cases r3
 exact wpAny_truthy_bool ⟨H3,I3,q3⟩
theorem mr:(sizeLine:Nat)<2^63:=by rw[sizeLine_eq];decide
theorem vS:bG X (binaryOp .Add) (fun x y H Q=>∃i j,x= .str i∧y= .str j∧i.length+j.length≤sizeLine∧Q (.str (i++j)) H):=by
 intro pins s σ H x y v u Q I rx ry h
 obtain⟨i,j,rfl,rfl,hz,q⟩:=h
 obtain⟨t,rfl⟩:=rx
 obtain⟨t',rfl⟩:=ry
 exact add_str (fun t' tk=>⟨.str (i++j),H,I.tok _,⟨_,rfl⟩,q⟩) hz
theorem vals1{x:V}{us:List Value}(r:Vals [x] us):∃u,us=[u]∧RelV x u:=by
 cases r with
 |cons r1 r2=>cases r2;exact⟨_,rfl,r1⟩
theorem vals2{x y:V}{us:List Value}(r:Vals [x,y] us):∃u w',us=[u,w']∧RelV x u∧RelV y w':=by
 cases r with
 |cons r1 r2=>
  cases r2 with
  |cons r3 r4=>cases r4;exact⟨_,_,rfl,r1,r3⟩
theorem zB:bO X (.builtin "abs") (fun xs H Q=>∃i,xs=[.int i]∧Q (.int (if i<0 then-i else i)) H):=by
 intro pins s σ H xs us Q I r h
 obtain⟨i,rfl,q⟩:=h
 obtain⟨u,rfl,t,rfl⟩:=vals1 r
 exact call_abs_int fun u tk=>⟨.int (if i<0 then-i else i),H,I.tok _,⟨_,rfl⟩,q⟩
theorem yb:bO X (.type "int") (fun xs H Q=>(∃i,xs=[.int i]∧Q (.int i) H)∨∃k,xs=[.bl k]∧Q (.int (if k then 1 else 0)) H):=by
 intro pins s σ H xs us Q I r h
 rcases h with⟨i,rfl,q⟩|⟨k,rfl,q⟩
 · obtain⟨u,rfl,t,rfl⟩:=vals1 r
   exact call_int_int ⟨.int i,H,I,⟨_,rfl⟩,q⟩
 · obtain⟨u,rfl,r1⟩:=vals1 r
   cases r1
   exact call_int_bool ⟨.int (if k then 1 else 0),H,I.tok _,⟨_,rfl⟩,q⟩
end
end L2
namespace L2
open PySem PySem.Spec PyProof.Rows
structure nW(h:Heap)(x dx C:Addr)(mA:Str→Option Value):Prop where
 obj:h.get? x=some (PySem.W.instObj C dx)
 ns:h.Ns1 dx mA
 ne:dx≠x
theorem xi{h:Heap}{dx:Addr}{mA:Str→Option Value}(n:h.Ns1 dx mA):∃od,h.get? dx=some od∧∀name,PySem.W.lookIn name od=some (mA name):=by
 obtain⟨o,es,ep,ho,hd,hk,_,hm⟩:=n
 refine⟨o,ho,fun name=>?_⟩
 have e:=hm name
 unfold nsFind findBy at e
 rw[←Array.find?_toList]at e
 unfold PySem.W.lookIn
 rw[hd]
 dsimp only
 split
 · rename_i y q
   rw[q]at e
   exact congrArg some e
 · rename_i q
   rw[q]at e
   have a:es.toList.any (·.refKey)=false:=by
    rw[List.any_eq_false]
    intro y hy
    obtain⟨z,t,hkey⟩:=hk y (Array.mem_toList_iff.mp hy)
    simp[DictEntry.refKey,hkey]
   have a':¬es.toList.any (·.refKey)=true:=by rw[a];exact Bool.false_ne_true
   rw[if_neg a']
   exact congrArg some e
theorem nW.look{h:Heap}{x dx C:Addr}{mA:Str→Option Value}(I:nW h x dx C mA):∃od,PySem.W.InstAt h x (PySem.W.instObj C dx) C (some od)∧∀name,PySem.W.lookIn name od=some (mA name):=
 let⟨od,ho,hl⟩:=xi I.ns
 ⟨od,⟨I.obj,rfl,rfl,ho⟩,hl⟩
section
variable {prog:Program}{w:World}{A:Around}{E:Value→Shared→Prop}{s:Shared}{K:PySem.W.Frag}{x dx C f:Addr}{mA:Str→Option Value}{name:Str}{v:Value}
theorem get_map{expr:Bool}{Q:Value→Shared→Prop}(X:K.In s.heap)(I:nW s.heap x dx C mA)(hg:PySem.W.plainGet K C name=true)(hh:PySem.W.hasDictIn K C=true)
 (ha:PySem.W.findIn K (.ref C) name=some none) (hv:mA name=some v) (hv':PySem.W.handedIn v=true) (h:Q v {s with toks:=s.toks+1}):
 wpAny (model prog w) A (getAttr (.ref x) name expr) Q E s:=by
 obtain⟨od,J,hl⟩:=I.look
 exact PySem.W.get_value X J (PySem.W.plainGet_of hg).1 (PySem.W.findObj_own hh ha rfl (by rw[hl,hv])) hv' h
theorem yZ{pl:Sem Bool}{Q:Value×List Value→Shared→Prop}(X:K.In s.heap)(I:nW s.heap x dx C mA)(hg:PySem.W.plainGet K C name=true)
 (hf:PySem.W.findIn K (.ref C) name=some (some (.ref f))) (ht:PySem.W.isFn K (.ref f)=true) (hv:mA name=none) (h:Q (.ref f,[.ref x]) s):
 wpAny (model prog w) A (getMethod (.ref x) name pl) Q E s:=by
 obtain⟨od,J,hl⟩:=I.look
 exact PySem.W.method_fn X J (PySem.W.plainGet_of hg).1 (PySem.W.plainGet_of hg).2 hf (beq_iff_eq.mp ht) (by show(PySem.W.lookIn name od).map (·.isSome)=some false;rw[hl,hv];rfl) h
theorem fT{ns:List Str}{Q:Unit→Shared→Prop}(X:K.In s.heap)(I:nW s.heap x dx C mA)
 (hs:PySem.W.findIn K (.ref C) "__setattr__"=some (some (.builtin "object.__setattr__"))) (hp:PySem.W.plainOver K C=true) (ht:PySem.W.takerIn K C name=some none) (hh:PySem.W.hasDictIn K C=true)
 (hw:PySem.Within mA ns) (hsz:ns.length≤sizeLine)
 (h:∀h',nW h' x dx C (fun y=>if y=name then some v else mA y)→Heap.SameBut dx s.heap h'→Q () {s with heap:=h',toks:=s.toks+2}):
 wpAny (model prog w) A (setAttr (.ref x) name v) Q E s:=by
 obtain⟨od,J,hl⟩:=I.look
 refine PySem.W.set_plain X J hs (PySem.W.osa_open (s:={s with toks:=s.toks+1}) (r:=none) X J hp ht fun b=>?_)
 obtain⟨cd,hc,hd'⟩:=PySem.W.any_some hh
 have hx:s.heap.get? x=some ⟨.ref C,some dx,.plain,#[]⟩:=I.obj
 refine wpAny_bind (wpAny_pure (wpAny_bind (wpAny_bind (wpAny_loadPart hx (wpAny_bind (PySem.W.Looks.here (s:={s with toks:=s.toks+1}) (PySem.W.looks_clsIn X hc) ?_))))))
 rw[hd']
 refine wpAny_pure (a:=some dx) (wpAny_bind (wpAny_pure (wpAny_bind ?_)))
 refine wpAny_nsSet1 (s:={s with toks:=s.toks+1}) I.ns fun h' hn2 hs2=>?_
 obtain⟨oD,esD,epD,hoD,hdD,hcD⟩:=hn2.count (PySem.Within.cons name v hw)
 refine wpAny_bind (wpAny_lookBehind hoD (by rw[hdD];exact pastItsLine_dict (Nat.le_trans hcD (by rw[List.length_cons];omega))) ?_)
 exact wpAny_pure (h _ ⟨(hs2.2 _ (Ne.symm I.ne)).trans I.obj,hn2,I.ne⟩ hs2)
theorem yF{R:Result→Shared→Prop}{vs:List Value}{kw:List (Str×Value)}(X:K.In s.heap)(hm:PySem.W.makesIn K C=true)
 (hi:PySem.W.findIn K (.ref C) "__init__"=some (some (.ref f))) (hf:PySem.W.typeIn K (.ref f)=some (.type "function"))
 (h:codeAny (model prog w) (A.under (.builtin "type.__call__" ⟨.ref C::vs,kw⟩)) (.call (.ref f) ⟨.ref (s.heap.objs.size+1)::vs,kw⟩) (PySem.W.InitBack (s.heap.objs.size+1) R)
   {s with heap:=(s.heap.push PySem.W.emptyDict).push (PySem.W.instObj C s.heap.objs.size)}):
 codeAny (model prog w) A (.call (.ref C) ⟨vs,kw⟩) R s:=by
 obtain⟨hh,g,d,t,os⟩:=s
 exact PySem.W.make_core (PySem.W.makes_of X hm) (PySem.W.looks_findIn X hi) (fun self=>PySem.W.bind_fn X self hf) (.inl rfl) h
end
def fw(f:Str)(v:V):List (Str×V)→List (Str×V)
 | []=>[(f,v)]
 |(g,x)::r=>if g=f then(g,v)::r else(g,x)::fw f v r
theorem nG(f g:Str)(v:V):∀fs:List (Str×V),(fw f v fs).lookup g=if g=f then some v else fs.lookup g
 | []=>by
   show List.lookup g [(f,v)]=_
   by_cases h:g=f
   · have hb:(g==f)=true:=beq_iff_eq.mpr h
     simp only[List.lookup,hb,if_pos h]
   · have hb:(g==f)=false:=beq_eq_false_iff_ne.mpr h
     simp only[List.lookup,hb,if_neg h]
 |(k,x)::r=>by
  have ih:=nG f g v r
  rw[show fw f v ((k,x)::r)=(if k=f then(k,v)::r else(k,x)::fw f v r)from rfl]
  by_cases hk:k=f
  · rw[if_pos hk]
    by_cases h:g=k
    · have hb:(g==k)=true:=beq_iff_eq.mpr h
      simp only[List.lookup,hb,if_pos (h.trans hk)]
    · have hb:(g==k)=false:=beq_eq_false_iff_ne.mpr h
      simp only[List.lookup,hb,if_neg (fun e:g=f=>h (e.trans hk.symm))]
  · rw[if_neg hk]
    by_cases h:g=k
    · have hb:(g==k)=true:=beq_iff_eq.mpr h
      simp only[List.lookup,hb,if_neg (fun e:g=f=>hk (h.symm.trans e))]
    · have hb:(g==k)=false:=beq_eq_false_iff_ne.mpr h
      simp only[List.lookup,hb]
      exact ih
theorem lZ(f:Str)(v:V):∀fs:List (Str×V),f∈(fw f v fs).map (·.1)∧∀g,g∈fs.map (·.1)→g∈(fw f v fs).map (·.1)
 | []=>⟨by simp[fw],fun g h=>by simp at h⟩
 |(k,x)::r=>by
  obtain⟨i1,i2⟩:=lZ f v r
  rw[show fw f v ((k,x)::r)=(if k=f then(k,v)::r else(k,x)::fw f v r)from rfl]
  by_cases hk:k=f
  · rw[if_pos hk]
    subst hk
    exact⟨by simp,fun g h=>by simpa using h⟩
  · rw[if_neg hk]
    refine⟨?_,fun g h=>?_⟩
    · rw[List.map_cons]
      exact List.mem_cons_of_mem _ i1
    · rw[List.map_cons]at h⊢
      rcases List.mem_cons.mp h with e|e
      · exact List.mem_cons.mpr (.inl e)
      · exact List.mem_cons_of_mem _ (i2 g e)
theorem nB(f:Str)(v:V):∀fs:List (Str×V),(fw f v fs).length≤fs.length+1
 | []=>by simp[fw]
 |(k,x)::r=>by
  have ih:=nB f v r
  rw[show fw f v ((k,x)::r)=(if k=f then(k,v)::r else(k,x)::fw f v r)from rfl]
  by_cases hk:k=f
  · rw[if_pos hk,List.length_cons,List.length_cons];omega
  · rw[if_neg hk,List.length_cons,List.length_cons];omega
theorem kE.some_of{v:V}{o:Option Value}(r:kE (some v) o):∃u,o=some u∧RelV v u:=by
 cases o with
 |none=>exact(show False from r).elim
 |some u=>exact⟨u,rfl,r⟩
theorem kE.none_of{o:Option Value}(r:kE none o):o=none:=by
 cases o with
 |none=>rfl
 |some u=>exact(show False from r).elim
theorem w9{v:V}{u:Value}(r:RelV v u):PySem.W.handedIn u=true:=by
 cases v with
 |aA=>cases (show u=Value.none from r);rfl
 |bl b=>cases (show u=Value.bool b from r);rfl
 |int i=>obtain⟨t,e⟩:=(show∃t,u=Value.int i t from r);cases e;rfl
 |str x=>obtain⟨t,e⟩:=(show∃t,u=Value.str x t from r);cases e;rfl
 |nJ b=>obtain⟨t,e⟩:=(show∃t,u=Value.bytes b t from r);cases e;rfl
 |nC b=>obtain⟨t,e⟩:=(show∃t,u=Value.float b t from r);cases e;rfl
 |ref a=>cases (show u=Value.ref a from r);rfl
 |ty n=>cases (show u=Value.type n from r);rfl
section
variable {P:Program}{w:World}{H H':Hp}{h h':Heap}{a C dx:Addr}{fs fs':List (Str×V)}
theorem nc(aH:fS P w H h)(e:H a=some (.ins C dx fs)):∃mA,nW h a dx C mA∧(∀f,kE (fs.lookup f) (mA f))∧PySem.Within mA (fs.map (·.1))∧fs.length≤1000∧H dx=some (.own a):=by
 obtain⟨d,z,ne,ob,mA,n,r,q⟩:=(show cR P w H h a (.ins C dx fs)from aH a _ e)
 exact⟨mA,⟨ob,n,ne⟩,r,q,z,d⟩
end
structure jY(K:PySem.W.Frag)(C:Addr):Prop where
 pg:PySem.W.plainGet K C Str.empty=true
 hd:PySem.W.hasDictIn K C=true
 po:PySem.W.plainOver K C=true
 sa:PySem.W.findIn K (.ref C) "__setattr__"=some (some (.builtin "object.__setattr__"))
theorem jY.get{K:PySem.W.Frag}{C:Addr}(c:jY K C)(f:Str):PySem.W.plainGet K C f=true:=c.pg
def fF(K:PySem.W.Frag)(C:Addr)(f:Str):Prop:=PySem.W.findIn K (.ref C) f=some none
theorem fF.E3{K:PySem.W.Frag}{C:Addr}{f:Str}(n:fF K C f):PySem.W.takerIn K C f=some none:=by
 unfold PySem.W.takerIn
 rw[show PySem.W.findIn K (.ref C) f=some none from n]
 rfl
structure Meth(K:PySem.W.Frag)(C:Addr)(m:Str)(f:Addr):Prop where
 at_:PySem.W.findIn K (.ref C) m=some (some (.ref f))
 fn:PySem.W.isFn K (.ref f)=true
 kp:PySem.W.keepIn K (.ref f)=true
section
variable {X:Cx}{pins:List (Addr×Obj)}{σ:St}{H:Hp}{s:Shared}{a C dx:Addr}{fs:List (Str×V)}{f:Str}{v:V}{A:Around}{E:Value→Shared→Prop}
theorem vW{b:Bool}{Q:Value→Shared→Prop}(I:Inv X pins σ H s)(e:H a=some (.ins C dx fs))(c:jY X.K C)(n:fF X.K C f)(l:fs.lookup f=some v)
 (h:∀u s',Inv X pins σ H s'→RelV v u→Q u s'):wpAny (model X.prog X.w) A (getAttr (.ref a) f b) Q E s:=by
 obtain⟨mA,O,r,_,_,_⟩:=nc I.aH e
 obtain⟨u,hu,ru⟩:=kE.some_of (v:=v) (o:=mA f) (by rw[←l];exact r f)
 exact get_map I.fI O (c.get f) c.hd n hu (w9 ru) (h u _ (I.tok _) ru)
theorem wo{m:Str}{g:Addr}{pl:Sem Bool}{Q:Value×List Value→Shared→Prop}(I:Inv X pins σ H s)(e:H a=some (.ins C dx fs))(c:jY X.K C)(k:Meth X.K C m g)(l:fs.lookup m=none)
 (h:Q (.ref g,[.ref a]) s):wpAny (model X.prog X.w) A (getMethod (.ref a) m pl) Q E s:=by
 obtain⟨mA,O,r,_,_,_⟩:=nc I.aH e
 have hn:mA m=none:=kE.none_of (by rw[←l];exact r m)
 exact yZ I.fI O (c.get m) k.at_ k.fn hn h
theorem vR{y:V}{u:Value}{Q:Unit→Shared→Prop}(I:Inv X pins σ H s)(e:H a=some (.ins C dx fs))(c:jY X.K C)(n:fF X.K C f)(hl:fs.length<1000)(ry:RelV y u)
 (h:∀s',Inv X pins σ (upd H a (.ins C dx (fw f y fs))) s'→Q () s'):wpAny (model X.prog X.w) A (setAttr (.ref a) f u) Q E s:=by
 obtain⟨mA,O,r,wi,_,ho⟩:=nc I.aH e
 have hz:(fs.map (·.1)).length≤sizeLine:=by rw[List.length_map,sizeLine_eq];omega
 refine fT I.fI O c.sa c.po n.E3 c.hd wi hz fun h' O' sb=>h _ ?_
 have hd:∃o,h'.get? dx=some o:=let⟨o,_,_,e',_⟩:=O'.ns;⟨o,e'⟩
 refine I.write (x:=a) (e:=dx) (by rw[e];exact True.intro) (.inr ho) (fun b q hb z=>(sb.2 b hb).trans z) hd ?_
 refine⟨by rw[aB O.ne];exact ho,?_,O.ne,O'.obj,_,O'.ns,fun g=>?_,fun g hg=>?_⟩
 · have:=nB f y fs;omega
 · show kE ((fw f y fs).lookup g) (if g=f then some u else mA g)
   rw[nG]
   by_cases q:g=f
   · rw[if_pos q,if_pos q];exact ry
   · rw[if_neg q,if_neg q];exact r g
 · by_cases q:g=f
   · rw[q];exact(lZ f y fs).1
   · refine(lZ f y fs).2 g (wi g fun z=>hg ?_)
     show(if g=f then some u else mA g)=none
     rw[if_neg q];exact z
theorem Inv.made(I:Inv X pins σ H s):Inv X pins σ (upd (upd H s.heap.objs.size (.own (s.heap.objs.size+1))) (s.heap.objs.size+1) (.ins C s.heap.objs.size []))
 {s with heap:=(s.heap.push PySem.W.emptyDict).push (PySem.W.instObj C s.heap.objs.size)}:=by
 have e1:(s.heap.push PySem.W.emptyDict).get? s.heap.objs.size=some PySem.W.emptyDict:=Heap.get?_push_size s.heap rfl
 have e2:((s.heap.push PySem.W.emptyDict).push (PySem.W.instObj C s.heap.objs.size)).get? (s.heap.objs.size+1)=some (PySem.W.instObj C s.heap.objs.size):=by
  have:=Heap.get?_push_size (s.heap.push PySem.W.emptyDict) (o:=PySem.W.instObj C s.heap.objs.size) rfl
  rwa [Heap.size_push]at this
 have e3:(s.heap.push PySem.W.emptyDict).Ns s.heap.objs.size (fun _=>none):=⟨PySem.W.emptyDict,#[],_,e1,rfl,(fun e he=>absurd he (by simp)),fun _=>rfl⟩
 have I1:=I.laid (a:=s.heap.objs.size) (o:= .own (s.heap.objs.size+1)) (h':=s.heap.push PySem.W.emptyDict) (t':=s.toks) (fun b u q=>Heap.get?_push_of_some _ q) (Nat.le_refl _) ⟨_,e1⟩
 refine I1.laid (a:=s.heap.objs.size+1) (o:= .ins C s.heap.objs.size []) (t':=s.toks) (fun b u q=>Heap.get?_push_of_some _ q) (Nat.le_of_eq (Heap.size_push _ _)) ?_
 have ne:s.heap.objs.size≠s.heap.objs.size+1:=Nat.ne_of_lt (Nat.lt_succ_self _)
 refine⟨by rw[aB ne,aT],Nat.zero_le _,ne,e2,fun _=>none,(Heap.Ns1.of_empty e3).at fun o q=>Heap.get?_push_of_some _ q,fun _=>True.intro,fun y hy=>absurd rfl hy⟩
theorem BI{prog:Program}{w:World}{env:Env}{e:Expr}{f:Str}{pos:Pos}{s:Shared}{Q:Value→Shared→Prop}(hb:attributeBase e f env (eval e env)=eval e env)
 (h:wpAny (model prog w) A (eval e env) (fun o s₁=>wpAny (model prog w) A (getAttr o f true) Q E s₁) E s):wpAny (model prog w) A (eval (.Attribute e f pos) env) Q E s:=
 Attribute_any_ h (by rw[arm_eval_Attribute,hb])
end
def Gk(K:PySem.W.Frag)(ta:TE)(f:Str):TE:=fun σ H Q=>ta σ H fun x H1=>∃a C dx fs v,x= .ref a∧H1 a=some (.ins C dx fs)∧jY K C∧fF K C f∧fs.lookup f=some v∧Q v H1
def GS(K:PySem.W.Frag)(ta tv:TE)(f:Str):TS:=fun D σ H=>tv σ H fun y H1=>ta σ H1 fun x H2=>∃a C dx fs,x= .ref a∧H2 a=some (.ins C dx fs)∧jY K C∧fF K C f∧fs.length<1000∧
 D.nx σ (upd H2 a (.ins C dx (fw f y fs)))
section
variable {X:Cx}{o e value:Expr}{f:Str}{pos pos' tpos:Pos}{ta tv:TE}
theorem Ds(he:PE X e ta)(hb:attributeBase e f X.env (eval e X.env)=eval e X.env):PE X (.Attribute e f pos) (Gk X.K ta f):=by
 intro pins s σ H Q I h
 refine BI hb (bF (he pins s σ H _ I h) fun u s1 ⟨x,H1,I1,rx,a,C,dx,fs,v,ex,ea,c,n,l,q⟩=>?_)
 subst ex
 obtain rfl:u=Value.ref a:=rx
 exact vW I1 ea c n l fun u' s2 I2 ru=>⟨v,H1,I2,ru,q⟩
theorem C_(ha:PE X o ta)(hv:PE X value tv)(hs:swapsWith value (some (.Attribute o f pos')) pos.line X.env=pure false):PS X (.Assign [.Attribute o f pos'] value pos) (GS X.K ta tv f):=by
 intro pins s σ H D I h
 refine plainObj_wpAny_Assign_Attribute (bF (hv pins s σ H _ I h) fun u s1 ⟨y,H1,I1,ry,q⟩=>bF (ha pins s1 σ H1 _ I1 q) fun ov s2 ⟨x,H2,I2,rx,a,C,dx,fs,ex,ea,c,n,l,q2⟩=>?_) hs
 subst ex
 obtain rfl:ov=Value.ref a:=rx
 exact vR I2 ea c n l ry fun s3 I3=>⟨σ,_,I3,q2⟩
end
section
variable {X:Cx}{pins:List (Addr×Obj)}{σ:St}{H:Hp}{s:Shared}{A:Around}{E:Value→Shared→Prop}{Q:Value→Shared→Prop}{c:Value}{b:Bool}
inductive gW(K:PySem.W.Frag)(H:Hp):V→Value→Prop where
 |aA:gW K H .aA (.type "NoneType")
 |bl (x:Bool):gW K H (.bl x) (.type "bool")
 |int (i:Int):gW K H (.int i) (.type "int")
 |str (x:Str):gW K H (.str x) (.type "str")
 |nC (x:UInt64):gW K H (.nC x) (.type "float")
 |lst {a:Addr} {xs:List V} (e:H a=some (.lst xs)):gW K H (.ref a) (.type "list")
 |fo {a:Addr} {o:Obj} {xs:List V} (e:H a=some (.fo o (.lst xs))):gW K H (.ref a) (.type "list")
 |tup {a:Addr} {xs:List V} (e:H a=some (.tup xs)):gW K H (.ref a) (.type "tuple")
 |dK {a:Addr} {kvs:List (Key×V)} (e:H a=some (.dK kvs)):gW K H (.ref a) (.type "dict")
 |dT {a:Addr} {kvs:List (List Key×V)} (e:H a=some (.dT kvs)):gW K H (.ref a) (.type "dict")
 |ins {a C dx:Addr} {fs:List (Str×V)} (e:H a=some (.ins C dx fs)) (cl:jY K C) (ha:PySem.W.findIn K (.ref C) "__class__"=some (some (.builtin "object.__class__")))
   (hn:PySem.W.specialIn K (.builtin "object.__class__") "__get__"=some (some (.builtin "getset_descriptor.__get__"))) (htk:PySem.W.takesIn K (.builtin "object.__class__")=some true)
   (hm:PySem.W.mroIn K C (.type "object")=some true):gW K H (.ref a) (.ref C)
theorem wX{x:V}{u t:Value}(I:Inv X pins σ H s)(rx:RelV x u)(ty:gW X.K H x t)(e:PySem.W.kitOne X.K t c=some b)(h:∀tk,Q (.bool b) {s with toks:=tk}):
 wpAny (model X.prog X.w) A (call (.builtin "isinstance") [u,c]) Q E s:=by
 cases ty with
 |aA=>cases (show u=Value.none from rx);exact PySem.W.kia_one PySem.W.kitx_none I.fI True.intro e (fun z=>nomatch z) h
 |bl y=>cases (show u=Value.bool y from rx);exact PySem.W.kia_one PySem.W.kitx_bool I.fI True.intro e (fun z=>nomatch z) h
 |int i=>obtain⟨t,q⟩:=(show∃t,u=Value.int i t from rx);cases q;exact PySem.W.kia_one PySem.W.kitx_int I.fI True.intro e (fun z=>nomatch z) h
 |str y=>obtain⟨t,q⟩:=(show∃t,u=Value.str y t from rx);cases q;exact PySem.W.kia_one PySem.W.kitx_str I.fI True.intro e (fun z=>nomatch z) h
 |nC y=>obtain⟨t,q⟩:=(show∃t,u=Value.float y t from rx);cases q;exact PySem.W.kia_one PySem.W.kitx_float I.fI True.intro e (fun z=>nomatch z) h
 | @lst a xs ea=>
   cases (show u=Value.ref a from rx)
   obtain⟨_,_,n,_,h1⟩:=(show cR X.prog X.w H s.heap a (.lst xs)from I.aH a _ ea)
   exact PySem.W.kia_one PySem.W.kitx_list I.fI ⟨_,h1,rfl⟩ e (fun z=>nomatch z) h
 | @fo a ob xs ea=>
   cases (show u=Value.ref a from rx)
   obtain⟨_,_,_,n,_,h1⟩:=(show cR X.prog X.w H s.heap a (.fo ob (.lst xs))from I.aH a _ ea)
   exact PySem.W.kia_one PySem.W.kitx_list I.fI ⟨_,h1,rfl⟩ e (fun z=>nomatch z) h
 | @tup a xs ea=>
   cases (show u=Value.ref a from rx)
   obtain⟨_,_,_,p⟩:=(show cR X.prog X.w H s.heap a (.tup xs)from I.aH a _ ea)
   obtain⟨o,h1,h2,_⟩:=p
   exact PySem.W.kia_one PySem.W.kitx_tuple I.fI ⟨o,h1,h2⟩ e (fun z=>nomatch z) h
 | @dK a kvs ea=>
   cases (show u=Value.ref a from rx)
   obtain⟨_,_,vs,_,p⟩:=(show cR X.prog X.w H s.heap a (.dK kvs)from I.aH a _ ea)
   obtain⟨o,es,ep,h1,h2,_⟩:=p
   exact PySem.W.kia_one PySem.W.kitx_dict I.fI ⟨o,h1,h2.1⟩ e (fun z=>nomatch z) h
 | @dT a kvs ea=>
   cases (show u=Value.ref a from rx)
   obtain⟨_,_,xs,_,o,es,ep,h1,h2,_⟩:=(show cR X.prog X.w H s.heap a (.dT kvs)from I.aH a _ ea)
   exact PySem.W.kia_one PySem.W.kitx_dict I.fI ⟨o,h1,h2.1⟩ e (fun z=>nomatch z) h
 | @ins a C dx fs ea cl ha hn htk hm=>
   cases (show u=Value.ref a from rx)
   obtain⟨mA,O,_⟩:=nc I.aH ea
   obtain⟨od,J,_⟩:=O.look
   exact PySem.W.kia_one (PySem.W.kitx_own (cl.get _) cl.hd ha hn htk hm) I.fI J e (fun z=>nomatch z) h
end
end L2
namespace L2
open PySem PySem.Spec PyProof.Rows
structure cq(k:Nat)(A:Around):Prop where
 hd:A.handled=none
 dp:A.depth+3*k+105<recursionLimit
 un:A.units+16*k+200<cLine
theorem cq.mono{j k:Nat}{A:Around}(r:cq k A)(h:j≤k):cq j A:=⟨r.hd,by have:=r.dp;omega,by have:=r.un;omega⟩
theorem cq.deeper{k:Nat}{A:Around}(r:cq (k+1) A)(env:Env):cq k (A.deeper env):=
 ⟨r.hd,by have:=r.dp;show A.depth+1+3*k+105<_;omega,by have:=r.un;show A.units+3+16*k+200<_;omega⟩
theorem vY{A:Around}{C:Addr}{us:List Value}{kw:List (Str×Value)}:(A.under (.builtin "type.__call__" ⟨.ref C::us,kw⟩)).depth=A.depth+1:=by
 first|rfl|simp[Around.under,Code.weight,Code.isCreation,Code.isGuard,Code.isCaller,Code.frames,Code.isFrame,guardIds]
theorem wg{A:Around}{C:Addr}{us:List Value}{kw:List (Str×Value)}:(A.under (.builtin "type.__call__" ⟨.ref C::us,kw⟩)).units=A.units+1:=by
 first|rfl|simp[Around.under,Code.cUnits,Code.frames,Code.isFrame]
theorem cq.make{k:Nat}{A:Around}(r:cq (k+1) A)(C:Addr)(us:List Value)(kw:List (Str×Value)):cq k (A.under (.builtin "type.__call__" ⟨.ref C::us,kw⟩)):=
 ⟨r.hd,by have:=r.dp;rw[vY];omega,by have:=r.un;rw[wg];omega⟩
theorem cq.depth{k:Nat}{A:Around}(r:cq k A):A.depth<recursionLimit:=by have:=r.dp;omega
theorem cq.units{k:Nat}{A:Around}(r:cq k A):A.units+64<cLine:=by have:=r.un;omega
def GX:TA:=fun _ H Q=>Q [] H
def EY(ta:TE)(tr:TA):TA:=fun σ H Q=>ta σ H fun x H1=>tr σ H1 fun xs H2=>Q (x::xs) H2
section
variable {X:Cx}{e:Expr}{es:List Expr}{te:TE}{t:TA}{pos:Pos}
theorem Cz:PA X [] GX:=fun _ _ _ _ H Q I h=>Calls.spliced_nil ⟨[],H,I,.nil,h⟩
theorem Bw(ha:PE X e te)(hr:PA X es t)(hs:starEach (e::es) X.env=(false,eval e X.env)::starEach es X.env:=by rfl):PA X (e::es) (EY te t):=by
 intro pos pins s σ H Q I h
 rw[hs]
 show wpAny _ _ (spliced ((false,eval e X.env)::backTo pos (starEach es X.env))) _ _ s
 refine Calls.spliced_cons (bF (ha pins s σ H _ I h) fun u s1 ⟨x,H1,I1,r1,q1⟩=>?_)
 exact bF (hr pos pins s1 σ H1 _ I1 q1) fun us s2 ⟨xs,H2,I2,r2,q2⟩=>⟨x::xs,H2,I2,.cons r1 r2,q2⟩
def GF(t:TA):TE:=fun σ H Q=>t σ H fun xs H1=>xs.length≤sizeLine∧∀p,H1 p=none→Q (.ref p) (upd H1 p (.tup xs))
def Gh(t:TA):TE:=fun σ H Q=>t σ H fun xs H1=>xs.length≤sizeLine∧∀p,H1 p=none→Q (.ref p) (upd H1 p (.lst xs))
theorem CL{x1}(h:PA X es t):PE X (.Tuple es x1 pos) (GF t):=by
 intro pins s σ H Q I hq
 refine wpAny_Tuple_spliced (bF (h pos pins s σ H _ I hq) fun us s1 ⟨xs,H1,I1,r,z,q⟩=>⟨by rw[←r.length];exact z,?_⟩)
 have hf:H1 s1.heap.objs.size=none:=I1.aH.fresh (Nat.le_refl _)
 refine⟨.ref s1.heap.objs.size,upd H1 s1.heap.objs.size (.tup xs),I1.laid (t':=s1.toks) (fun b u e=>Heap.get?_push_of_some _ e) (Nat.le_refl _) ?_,rfl,q _ hf⟩
 exact⟨z,us,r,⟨_,Heap.get?_push_size _ rfl,rfl,_,rfl⟩⟩
theorem xZ(h:PA X es t):PE X (.List es pos) (Gh t):=by
 intro pins s σ H Q I hq
 refine wpAny_List_spliced (bF (h pos pins s σ H _ I hq) fun us s1 ⟨xs,H1,I1,r,z,q⟩=>⟨by rw[←r.length];exact z,?_⟩)
 have hf:H1 s1.heap.objs.size=none:=I1.aH.fresh (Nat.le_refl _)
 refine⟨.ref s1.heap.objs.size,upd H1 s1.heap.objs.size (.lst xs),I1.laid (t':=s1.toks) (fun b u e=>Heap.get?_push_of_some _ e) (Nat.le_refl _) ?_,rfl,q _ hf⟩
 exact⟨z,us,0,r,Heap.get?_push_size _ rfl⟩
end
abbrev Sp:=List V→Hp→VK→XK→Prop
abbrev nF:=List Env→Hp→Shared→XK→Value→Shared→Prop
structure nR(P:Program)(w:World)(K:PySem.W.Frag)(mg:Str→Option Value)(base:Heap)(A:Around)(outer:List Env)(s:Shared)(H:Hp):Prop where
 frames:A.frames=some outer
 mod:Mod K mg base
 bs:∀b o,base.get? b=some o→s.heap.get? b=some o∧H b=none
 my:base.objs.size≤s.heap.objs.size
 ik:s.heap.FunFrames base outer
 oW:∀b∈kI outer,H b=none
 aH:fS P w H s.heap
 bare:AllBare s.gens
 gt:P.given.tree=none
def CE(outer:List Env)(P:Program)(w:World)(H:Hp)(s:Shared)(Q:VK)(u:Value)(s':Shared):Prop:=
 ∃v H',s'.os=s.os∧AllBare s'.gens∧Un (kI outer) [] H H' s.heap s'.heap∧fS P w H' s'.heap∧RelV v u∧Q v H'
def CR(CX:nF)(outer:List Env)(P:Program)(w:World)(H:Hp)(s:Shared)(Q:VK)(E:XK)(r:Result)(s':Shared):Prop:=
 match r with
 | .ok (.ret u)=>CE outer P w H s Q u s'
 | .ok _=>False
 | .error e=>CX outer H s E e s'
structure ax(P:Program)(w:World)(K:PySem.W.Frag)(mg:Str→Option Value)(base:Heap)(CX:nF)(k:Nat)(f:Addr)(fd:FuncData)(ps:List Str)(sp:Sp):Prop where
 len:∀vs H Q E,sp vs H Q E→vs.length=ps.length
 run:∀(A:Around) (outer:List Env) (s:Shared) (H:Hp) (args:Args) (us:List Value) (vs:List V) (Q:VK) (E:XK),cq k A→nR P w K mg base A outer s H→BindsTo s fd args (ps.zip us)→Vals vs us→sp vs H Q E→
  codeAny (model P w) A (.call (.ref f) args) (CR CX outer P w H s Q E) s
theorem ax.imp{P:Program}{w:World}{K:PySem.W.Frag}{mg:Str→Option Value}{base:Heap}{CX:nF}{k:Nat}{f:Addr}{fd:FuncData}{ps:List Str}{sp sp':Sp}(F:ax P w K mg base CX k f fd ps sp)
 (h:∀vs H Q E,sp' vs H Q E→sp vs H Q E):ax P w K mg base CX k f fd ps sp':=
 ⟨fun vs H Q E q=>F.len vs H Q E (h _ _ _ _ q),fun A outer s H args us vs Q E hr he hb hv hs=>F.run A outer s H args us vs Q E hr he hb hv (h _ _ _ _ hs)⟩
theorem nR.make{P:Program}{w:World}{K:PySem.W.Frag}{mg:Str→Option Value}{base:Heap}{A:Around}{outer:List Env}{s:Shared}{H:Hp}(e:nR P w K mg base A outer s H)(C:Addr)(us:List Value)(kw:List (Str×Value)):
 nR P w K mg base (A.under (.builtin "type.__call__" ⟨.ref C::us,kw⟩)) outer s H:=⟨by first|exact e.frames|(simpa[Around.under,Code.envs,Code.isFrame,pushEnvs]using e.frames),e.mod,e.bs,e.my,e.ik,e.oW,e.aH,e.bare,e.gt⟩
section
variable {X:Cx}{pins:List (Addr×Obj)}{σ:St}{H:Hp}{s s':Shared}
theorem Inv.BZ(I:Inv X pins σ H s):nR X.prog X.w X.K X.mg X.base X.A X.stack s H:=
 ⟨I.ok.frames,I.ok.mod,I.bs,Nat.le_trans I.ok.my I.sz,I.stack,I.pN,I.aH,I.bare,I.ok.gt⟩
theorem Inv.after{Q:VK}{u:Value}(I:Inv X pins σ H s)(h:CE X.stack X.prog X.w H s Q u s'):EP X pins σ Q u s':=by
 obtain⟨v,H',os,bare,un,aH,r,q⟩:=h
 obtain⟨hh,g,d,t,os'⟩:=s'
 obtain rfl:os'=s.os:=os
 exact⟨v,H',I.call (h':=hh) (g':=g) (d':=d) (t':=t) (ch:=[]) un aH bare (fun b z=>absurd z (by simp)),r,q⟩
end
def zS(sp:Sp)(dvs:List V)(E:XK)(t:TA):TE:=fun σ H Q=>t σ H fun vs H1=>sp (vs++dvs) H1 Q E
def z_(C:Addr)(m:Str)(sp:Sp)(dvs:List V)(E:XK)(ta:TE)(t:TA):TE:=fun σ H Q=>ta σ H fun x H1=>∃a dx fs,x= .ref a∧H1 a=some (.ins C dx fs)∧fs.lookup m=none∧
 t σ H1 fun vs H2=>sp (x::(vs++dvs)) H2 Q E
def Ap(C:Addr)(sp:Sp)(dvs:List V)(E:XK)(t:TA):TE:=fun σ H Q=>t σ H fun vs H1=>∀x dx,H1 x=none→H1 dx=none→dx≠x→
 sp (.ref x::(vs++dvs)) (upd (upd H1 dx (.own x)) x (.ins C dx [])) (fun v H2=>v= .aA∧Q (.ref x) H2) E
def Binds(K:PySem.W.Frag)(fd:FuncData)(ps:List Str)(ds:List Value):Prop:=
 ∀(s:Shared) (us:List Value),K.In s.heap→(us++ds).length=ps.length→BindsTo s fd ⟨us,[]⟩ (ps.zip (us++ds))
theorem Binds.all{K:PySem.W.Frag}{fd:FuncData}{ps:List Str}(h:∀us:List Value,us.length=ps.length→bindArgs fd ⟨us,[]⟩=pure (ps.zip us)):Binds K fd ps []:=fun s us _ hl=>by
 rw[List.append_nil]at hl⊢
 exact .of_eq (h us hl)
def Passes(CX:nF)(X:Cx)(E:XK):Prop:=∀(pins:List (Addr×Obj)) (σ:St) (H:Hp) (s:Shared) (e:Value) (s':Shared),Inv X pins σ H s→CX X.stack H s E e s'→X.xe e s'
section
variable {X:Cx}{CX:nF}{k:Nat}{f C:Addr}{fd:FuncData}{ps:List Str}{sp:Sp}{dvs:List V}{ds:List Value}{E:XK}{x m:Str}{p pos apos:Pos}{e o:Expr}{es:List Expr}{ta:TE}{t:TA}
theorem wR{pins:List (Addr×Obj)}{σ:St}{H:Hp}{s:Shared}{Q:VK}{us:List Value}{vs:List V}(F:ax X.prog X.w X.K X.mg X.base CX k f fd ps sp)(hr:cq k X.A)(hb:Binds X.K fd ps ds)(hd:Vals dvs ds)(hx:Passes CX X E)
 (I:Inv X pins σ H s) (r:Vals vs us) (h:sp (vs++dvs) H Q E):wpAny (model X.prog X.w) X.A (call (.ref f) us) (EP X pins σ Q) X.xe s:=by
 have r2:Vals (vs++dvs) (us++ds):=r.append hd
 have hl:(us++ds).length=ps.length:=by rw[←r2.length];exact F.len _ _ _ _ h
 refine wpAny_call (codeAny_mono (F.run X.A X.stack s H ⟨us,[]⟩ (us++ds) (vs++dvs) Q E hr I.BZ (hb s us I.fI hl) r2 h) fun r s' hq=>?_)
 cases r with
 |error e=>exact hx pins σ H s e s' I hq
 |ok fl=>
  cases fl with
  |ret u=>exact I.after hq
  |next=>exact False.elim hq
  |brk=>exact False.elim hq
  |cont=>exact False.elim hq
theorem Bu(F:ax X.prog X.w X.K X.mg X.base CX k f fd ps sp)(hr:cq k X.A)(hg:Gl X x)(hm:X.mg x=some (.ref f))(hk:PySem.W.keepIn X.K (.ref f)=true)(hb:Binds X.K fd ps ds)(hd:Vals dvs ds)(hx:Passes CX X E)
 (ha:PA X (e::es) t) (hdb:(x==("__debug__":Str))=false:=by decide) (he:starEach (e::es) X.env=(false,eval e X.env)::starEach es X.env:=by rfl) (hpl:(backTo pos (starEach es X.env)).any (·.1)=false:=by rfl):
 PE X (.Call (.Name x p) (e::es) [] pos) (zS sp dvs E t):=by
 intro pins s σ H Q I h
 refine wpAny_Call_Name_kw (uT I hg hm ?_ hdb)
 refine PySem.W.callWith_K (h₀:=X.base) I.ok.mod.wI hk (bF (ha pos pins s σ H _ I h) fun us s1 ⟨vs,H1,I1,r,q⟩=>⟨I1.fI,?_⟩) he hpl
 exact wR F hr hb hd hx I1 r q
theorem AK{pl:Sem Bool}(he:PE X o ta)(c:jY X.K C)(hm:Meth X.K C m f)(F:ax X.prog X.w X.K X.mg X.base CX k f fd ps sp)(hr:cq k X.A)(hb:Binds X.K fd ps ds)(hd:Vals dvs ds)(hx:Passes CX X E)(ha:PA X (e::es) t)
 (hst:starEach (e::es) X.env=(false,eval e X.env)::starEach es X.env:=by rfl) (hpl:(backTo pos (starEach es X.env)).any (·.1)=false:=by rfl)
 (ht:eval (.Call (.Attribute o m apos) (e::es) [] pos) X.env=(do
   let ov ←eval o X.env
   standAt apos.atName
   let(f,first) ←holding [ov] (getMethod ov m pl)
   callWith pos f first (backTo pos (starEach (e::es) X.env)) (backToKw pos (keywordEach [] X.env))):=by rfl):
 PE X (.Call (.Attribute o m apos) (e::es) [] pos) (z_ C m sp dvs E ta t):=by
 intro pins s σ H Q I h
 refine PySem.W.methodCall_KW (pl:=pl) (bF (he pins s σ H _ I h) fun u s1 ⟨x,H1,I1,rx,a,dx,fs,ex,ea,l,q⟩=>?_) ht
 subst ex
 obtain rfl:u=Value.ref a:=rx
 refine wo I1 ea c hm l ?_
 refine PySem.W.callWith_K (first:=[.ref a]) (h₀:=X.base) I.ok.mod.wI hm.kp (bF (ha pos pins s1 σ H1 _ I1 q) fun us s2 ⟨vs,H2,I2,r,q2⟩=>⟨I2.fI,?_⟩) hst hpl
 exact wR (us:= .ref a::us) (vs:= .ref a::vs) F hr hb hd hx I2 (.cons rfl r) q2
structure Mk(K:PySem.W.Frag)(C f:Addr):Prop where
 makes:PySem.W.makesIn K C=true
 init:PySem.W.findIn K (.ref C) "__init__"=some (some (.ref f))
 fn:PySem.W.isFn K (.ref f)=true
 kp:PySem.W.keepIn K (.ref C)=true
theorem yV{pins:List (Addr×Obj)}{σ:St}{H:Hp}{s:Shared}{Q:VK}{us:List Value}{vs:List V}(M:Mk X.K C f)(F:ax X.prog X.w X.K X.mg X.base CX k f fd ps sp)(hr:cq (k+1) X.A)(hb:Binds X.K fd ps ds)(hd:Vals dvs ds)
 (hx:Passes CX X E) (I:Inv X pins σ H s) (r:Vals vs us)
 (h:∀x dx,H x=none→H dx=none→dx≠x→sp (.ref x::(vs++dvs)) (upd (upd H dx (.own x)) x (.ins C dx [])) (fun v H2=>v= .aA∧Q (.ref x) H2) E):
 wpAny (model X.prog X.w) X.A (call (.ref C) us) (EP X pins σ Q) X.xe s:=by
 have hq:=h (s.heap.objs.size+1) s.heap.objs.size (I.aH.fresh (Nat.le_succ _)) (I.aH.fresh (Nat.le_refl _)) (Nat.ne_of_lt (Nat.lt_succ_self _))
 have I2:=Inv.made (C:=C) I
 have r2:Vals (V.ref (s.heap.objs.size+1)::(vs++dvs)) (Value.ref (s.heap.objs.size+1)::(us++ds)):= .cons rfl (r.append hd)
 have hl:(Value.ref (s.heap.objs.size+1)::us++ds).length=ps.length:=by
  have e:=r2.length
  rw[F.len _ _ _ _ hq]at e
  exact e.symm
 refine wpAny_call (yF (f:=f) I.fI M.makes M.init (beq_iff_eq.mp M.fn) (codeAny_mono (F.run _ X.stack _ _ ⟨Value.ref (s.heap.objs.size+1)::us,[]⟩ (Value.ref (s.heap.objs.size+1)::(us++ds)) _ _ E (hr.make C us [])
  (I2.BZ.make C us []) (hb _ (Value.ref (s.heap.objs.size+1)::us) I2.fI hl) r2 hq) fun r s' hq'=>?_))
 cases r with
 |error e=>exact hx pins σ _ _ e s' I2 hq'
 |ok fl=>
  cases fl with
  |ret u=>
   obtain⟨v,H',I3,rv,ev,q3⟩:=I2.after hq'
   subst ev
   exact⟨rv,⟨V.ref (s.heap.objs.size+1),H',I3,rfl,q3⟩⟩
  |next=>exact False.elim hq'
  |brk=>exact False.elim hq'
  |cont=>exact False.elim hq'
theorem BJ(M:Mk X.K C f)(F:ax X.prog X.w X.K X.mg X.base CX k f fd ps sp)(hr:cq (k+1) X.A)(hg:Gl X x)(hm:X.mg x=some (.ref C))(hb:Binds X.K fd ps ds)(hd:Vals dvs ds)(hx:Passes CX X E)
 (ha:PA X (e::es) t) (hdb:(x==("__debug__":Str))=false:=by decide) (he:starEach (e::es) X.env=(false,eval e X.env)::starEach es X.env:=by rfl) (hpl:(backTo pos (starEach es X.env)).any (·.1)=false:=by rfl):
 PE X (.Call (.Name x p) (e::es) [] pos) (Ap C sp dvs E t):=by
 intro pins s σ H Q I h
 refine wpAny_Call_Name_kw (uT I hg hm ?_ hdb)
 refine PySem.W.callWith_K (h₀:=X.base) I.ok.mod.wI M.kp (bF (ha pos pins s σ H _ I h) fun us s1 ⟨vs,H1,I1,r,q⟩=>⟨I1.fI,?_⟩) he hpl
 exact yV M F hr hb hd hx I1 r q
end
section
variable {X:Cx}{CX:nF}{k:Nat}{f C:Addr}{fd:FuncData}{ps ks:List Str}{sp:Sp}{E:XK}{x m:Str}{p pos apos kpos:Pos}{e o:Expr}{es:List Expr}{kws:List Keyword}{te ta:TE}{t tk:TA}{nm:Option Str}
variable {g:List Value→List Value→List Value}{gV:List V→List V→List V}
end
structure bf(N P:List Str)(sc:Scope):Prop where
 kind:sc.kind= .function
 co:sc.isCoroutine=false
 gen:sc.isGenerator=false
 nd:N.Nodup
 pre:N.take P.length=P
 par:∀x∈P,sc.names.lookup x=some .local∨sc.names.lookup x=some .cell
 DU:∀y∈sc.names,y.2≠ .free
theorem qu{kindOf:Str→Option NameKind}{x:Str}:∀ {binds:List (Str×Value)} {m:Str→Option Value},(∀v,(x,v)∉binds)→bindL kindOf binds m x=m x
 | [],_,_=>rfl
 |(n,v)::r,m,h=>by
  unfold bindL
  rw[qu fun w hw=>h w (List.mem_cons_of_mem _ hw)]
  split
  · have:x≠n:=by rintro rfl;exact h v List.mem_cons_self
    simp[this]
  · rfl
theorem qG{kindOf:Str→Option NameKind}{x:Str}:∀ {binds:List (Str×Value)} {m:Str→Option Value},(∀v,(x,v)∉binds)→bindC kindOf binds m x=m x
 | [],_,_=>rfl
 |(n,v)::r,m,h=>by
  unfold bindC
  rw[qG fun w hw=>h w (List.mem_cons_of_mem _ hw)]
  split
  · rfl
  · have:x≠n:=by rintro rfl;exact h v List.mem_cons_self
    simp[this]
theorem qD{kindOf:Str→Option NameKind}{x:Str}{v:Value}:∀ {P:List Str} {vs:List Value} {i:Nat} {m:Str→Option Value},P.Nodup→P[i]?=some x→vs[i]?=some v→kindOf x=some .local→
 bindL kindOf (P.zip vs) m x=some v
 | [],_,_,_,_,h,_,_=>by simp at h
 |_::_,[],_,_,_,_,h,_=>by simp at h
 |p::P,w::vs,0,m,nd,h1,h2,hk=>by
  simp at h1 h2;subst h1;subst h2
  show bindL kindOf ((p,w)::P.zip vs) m p=_
  unfold bindL
  rw[qu fun v hv=>(List.nodup_cons.mp nd).1 (List.of_mem_zip hv).1,if_pos hk]
  simp
 |p::P,w::vs,i+1,m,nd,h1,h2,hk=>by
  show bindL kindOf ((p,w)::P.zip vs) m x=_
  unfold bindL
  exact qD (i:=i) (List.nodup_cons.mp nd).2 (by simpa using h1) (by simpa using h2) hk
theorem qi{kindOf:Str→Option NameKind}{x:Str}{v:Value}:∀ {P:List Str} {vs:List Value} {i:Nat} {m:Str→Option Value},P.Nodup→P[i]?=some x→vs[i]?=some v→kindOf x≠some .local→
 bindC kindOf (P.zip vs) m x=some v
 | [],_,_,_,_,h,_,_=>by simp at h
 |_::_,[],_,_,_,_,h,_=>by simp at h
 |p::P,w::vs,0,m,nd,h1,h2,hk=>by
  simp at h1 h2;subst h1;subst h2
  show bindC kindOf ((p,w)::P.zip vs) m p=_
  unfold bindC
  rw[qG fun v hv=>(List.nodup_cons.mp nd).1 (List.of_mem_zip hv).1,if_neg hk]
  simp
 |p::P,w::vs,i+1,m,nd,h1,h2,hk=>by
  show bindC kindOf ((p,w)::P.zip vs) m x=_
  unfold bindC
  exact qi (i:=i) (List.nodup_cons.mp nd).2 (by simpa using h1) (by simpa using h2) hk
def start(N:List Str)(vs:List V):St:=vs.map some++List.replicate (N.length-vs.length) none
def lG(CX:nF)(P:Program)(w:World)(K:PySem.W.Frag)(mg:Str→Option Value)(base:Heap)(N:List Str)(qual:Str)(scope:Scope)(f:Addr)(cd:Value)(A:Around)(outer:List Env)(s:Shared)(H:Hp)(E:XK):Cx where
 prog:=P
 w:=w
 K:=K
 mg:=mg
 base:=base
 A:=A.deeper (envOfC qual scope s.heap.objs.size f cd)
 N:=N
 s₀:=s
 H₀:=H
 env:=envOfC qual scope s.heap.objs.size f cd
 outer:=outer
 stack:=envOfC qual scope s.heap.objs.size f cd::outer
 ex:=[]
 calm:=true
 fn:=fun _=>true
 pn:=[]
 xe:=fun e s'=>wpAny (model P w) (A.deeper (envOfC qual scope s.heap.objs.size f cd)) (leaving (envOfC qual scope s.heap.objs.size f cd) e) (fun _ s''=>CX outer H s E e s'') (fun e' s''=>CX outer H s E e' s'') s'
theorem tw{sc:Scope}{n:Nat}{x:Str}(h:sc.names.lookup x=some .cell):∃c,(cellsFrom n sc.names []).lookup x=some c:=by
 have q:=PySem.W.cellsFrom_some sc.names n [] (.inl h)
 exact Option.isSome_iff_exists.mp q
theorem wV{CX:nF}{P:Program}{w:World}{K:PySem.W.Frag}{mg:Str→Option Value}{base:Heap}{N ps:List Str}{qual:Str}{scope:Scope}{f:Addr}{cd:Value}{A:Around}{outer:List Env}{s s1:Shared}{H:Hp}{E:XK}{us:List Value}{vs:List V}
 (S:bf N ps scope) (hd:A.handled=none) (e0:nR P w K mg base A outer s H) (hl:vs.length=ps.length) (r:Vals vs us)
 (x:InCallC s s.heap.objs.size (bindL (envOfC qual scope s.heap.objs.size f cd).kindOf (ps.zip us) fun _=>none) (cellsFrom (s.heap.objs.size+1) scope.names []) (bindC (envOfC qual scope s.heap.objs.size f cd).kindOf (ps.zip us) fun _=>none) s1):
 Inv (lG CX P w K mg base N qual scope f cd A outer s H E) [] (start N vs) H s1:=by
 have hpl:ps.length≤N.length:=by have:=congrArg List.length S.pre;rw[List.length_take]at this;omega
 obtain⟨h1,tk,rfl,hk⟩:=x.done
 have noA:∀b:Addr,b∉(lG CX P w K mg base N qual scope f cd A outer s H E).ex:=fun b z=>absurd (show b∈([]:List Addr)from z) (by simp)
 refine⟨⟨e0.mod,S.kind,rfl,rfl,Nat.le_refl _,fun y z c h1 h2=>?_,fun y hy=>?_,fun y c _ h=>?_,fun _=>hd,Around.frames_deeper e0.frames,.inr ⟨rfl,rfl⟩,fun b z=>absurd z (noA b),e0.bs,e0.my,fun b _ _=>noA b,fun b z=>absurd z (noA b),e0.ik,e0.oW,e0.gt⟩,
  rfl,e0.bare,Un.kept hk,⟨_,x.toInCall.ns,fun i y v h1 h2 h3=>?_⟩,fun y c h=>⟨_,x.cell y c h⟩,e0.aH.fresh (Nat.le_refl _),fun y c h=>?_,fun p hp=>absurd (show p∈([]:List (Addr×Obj))from hp) (by simp),e0.aH.kept hk,?_⟩
 · exact name_of_addr x.apart (PySem.mem_of_lookup h1) (PySem.mem_of_lookup h2)
 · have hy:scope.names.lookup y=some .cell∨scope.names.lookup y=some .free:=hy
   rcases hy with hy|hy
   · exact tw hy
   · exact absurd rfl (S.DU _ (PySem.mem_of_lookup hy))
 · exact Nat.le_of_lt (x.above y c (PySem.mem_of_lookup h))
 · have hi:i<vs.length:=by
    unfold start at h2
    by_cases hi:i<vs.length
    · exact hi
    · rw[List.getElem?_append_right (by simpa using hi)]at h2
      rw[List.getElem?_replicate]at h2
      split at h2<;>cases h2
   have ha:vs[i]?=some v:=by
    unfold start at h2
    rw[List.getElem?_append_left (by simpa using hi),List.getElem?_map]at h2
    cases e:vs[i]? with
    |none=>rw[e]at h2;cases h2
    |some a=>rw[e]at h2;cases h2;rfl
   obtain⟨u,hu,rv⟩:=r.get ha
   have hp:ps[i]?=some y:=by
    rw[←S.pre,List.getElem?_take_of_lt (by omega)];exact h1
   have ndP:ps.Nodup:=by rw[←S.pre];exact S.nd.sublist (List.take_sublist _ _)
   refine⟨u,rv,?_⟩
   rcases S.par y (List.mem_of_getElem? hp)with k|k
   · exact .inl ⟨k,qD ndP hp hu k⟩
   · obtain⟨c,e⟩:=tw (n:=s.heap.objs.size+1) k
     refine .inr ⟨.inl k,c,e,?_⟩
     have q:=x.cell y c e
     rw[qi ndP hp hu (by show scope.names.lookup y≠_;rw[k];decide)]at q
     exact q
 · exact e0.aH.fresh (Nat.le_of_lt (x.above y c (PySem.mem_of_lookup h)))
 · unfold start
   show _=N.length
   rw[List.length_append,List.length_map,List.length_replicate]
   omega
theorem zJ{CX:nF}{P:Program}{w:World}{K:PySem.W.Frag}{mg:Str→Option Value}{base:Heap}{k:Nat}{f:Addr}{name qual:Str}{params:Arguments}{body:List Stmt}{scope:Scope}{dV kV doc pm cdv ct oc:Value}{an od:Option Addr}
 {osl:Array (Option Value)} {N ps:List Str} {sp:Sp} (lk:K.lookup f=some ⟨oc,od,.func (PySem.W.fnOf name qual params body scope dV kV doc pm an cdv ct),osl⟩) (hcd:PySem.W.codeIn K cdv qual=true) (S:bf N ps scope)
 (len:∀vs H Q E,sp vs H Q E→vs.length=ps.length)
 (hbody:∀(A:Around) (outer:List Env) (s:Shared) (H:Hp) (vs:List V) (Q:VK) (E:XK),cq k (A.deeper (envOfC qual scope s.heap.objs.size f cdv))→sp vs H Q E→
   ∃t,fG (lG CX P w K mg base N qual scope f cdv A outer s H E) body t∧t {nx:=fun _ H'=>Q .aA H',rt:=Q} (start N vs) H):
 ax P w K mg base CX (k+1) f (PySem.W.fnOf name qual params body scope dV kV doc pm an cdv ct) ps sp:=by
 refine⟨len,fun A outer s H args us vs Q E hr e0 hb r hsp=>?_⟩
 have hl:=len _ _ _ _ hsp
 have KX:K.In s.heap:=e0.mod.wI.keeps fun b o e=>(e0.bs b o e).1
 have lim:s.heap.NoLimit:=e0.mod.nolimit.keeps fun b o e=>(e0.bs b o e).1
 have hkind:∀y∈ps.zip us,scope.names.lookup y.1=some .local∨(scope.names.lookup y.1=some .cell∧((cellsFrom (s.heap.objs.size+1) scope.names []).lookup y.1).isSome=true):=fun⟨n,v⟩ hy=>by
  rcases S.par n (List.of_mem_zip hy).1 with q|q
  · exact .inl q
  · exact .inr ⟨q,PySem.W.cellsFrom_some _ _ _ (.inl q)⟩
 refine codeAny_call_function hr.depth (KX _ _ lk) rfl S.co S.gen rfl (PySem.W.codeRec_of KX hcd) (hb _ _ _ _ ?_)
 refine wpAny_newFunctionEnv_cells S.kind hkind fun env he s1 x=>?_
 subst he
 refine⟨lim.keeps x.toInCall.keep,codeAny_func ?_⟩
 obtain⟨t,ht,hq⟩:=hbody A outer s H vs Q E (hr.deeper _) hsp
 have I:Inv (lG CX P w K mg base N qual scope f cdv A outer s H E) [] (start N vs) H s1:=wV S hr.hd e0 hl r x
 refine wpAny_mono (ht [] s1 (start N vs) H _ I hq) (fun fl s' hs=>?_) fun e s' hs=>hs
 have fin:∀ {σ':St} {H':Hp} {v:V} {u:Value},Inv (lG CX P w K mg base N qual scope f cdv A outer s H E) [] σ' H' s'→RelV v u→Q v H'→CE outer P w H s Q u s':=
  fun{σ' H' v u} J rv q=>⟨v,H',J.os,J.bare,J.base,J.aH,rv,q⟩
 cases fl with
 |ret u=>
  obtain⟨v,σ',H',J,rv,q⟩:=hs
  exact fin J rv q
 |next=>
  obtain⟨σ',H',J,q⟩:=hs
  exact fin (v:=V.aA) (u:=Value.none) J rfl q
 |brk=>
  obtain⟨_,_,_,q⟩:=hs
  exact False.elim q
 |cont=>
  obtain⟨_,_,_,q⟩:=hs
  exact False.elim q
end L2
namespace L2
open PySem PySem.Spec PyProof.Rows
section
variable {X:Cx}{x:Str}{p pos:Pos}{e:Expr}{es:List Expr}{t:TA}{id T:String}{r:List V→Hp→VK→Prop}
def Cd(r:List V→Hp→VK→Prop)(t:TA):TE:=fun σ H Q=>t σ H fun vs H1=>r vs H1 Q
theorem zg(hc:bO X (.builtin id) r)(hg:Gl X x)(hm:X.mg x=none)(hv:bootBuiltins x=some (.builtin id))(ha:PA X (e::es) t)(hn:x≠"__name__":=by decide)(hdb:(x==("__debug__":Str))=false:=by decide)
 (he:starEach (e::es) X.env=(false,eval e X.env)::starEach es X.env:=by rfl) (hpl:(backTo pos (starEach es X.env)).any (·.1)=false:=by rfl):PE X (.Call (.Name x p) (e::es) [] pos) (Cd r t):=by
 intro pins s σ H Q I h
 refine wpAny_Call_Name_kw (jR I hg hm hv ?_ hn hdb)
 exact PyProof.Rows.callWith_builtin1 (bF (ha pos pins s σ H _ I h) fun us s1 ⟨vs,H1,I1,r1,q1⟩=>hc pins s1 σ H1 vs us Q I1 r1 q1) he hpl
theorem yp(hc:bO X (.type T) r)(hg:Gl X x)(hm:X.mg x=none)(hv:bootBuiltins x=some (.type T))(ha:PA X (e::es) t)(hn:x≠"__name__":=by decide)(hdb:(x==("__debug__":Str))=false:=by decide)
 (he:starEach (e::es) X.env=(false,eval e X.env)::starEach es X.env:=by rfl) (hpl:(backTo pos (starEach es X.env)).any (·.1)=false:=by rfl):PE X (.Call (.Name x p) (e::es) [] pos) (Cd r t):=by
 intro pins s σ H Q I h
 refine wpAny_Call_Name_kw (jR I hg hm hv ?_ hn hdb)
 exact PyProof.Rows.callWith_type1 (bF (ha pos pins s σ H _ I h) fun us s1 ⟨vs,H1,I1,r1,q1⟩=>hc pins s1 σ H1 vs us Q I1 r1 q1) he hpl
end
end L2
namespace HT
open PySem PyProof.Rows
section
open PySem.SeqAt
open PySem.AutoSeq1 (wpAny_loadPart')
open PySem.MeetsSeq PySem.MeetsSeq2 PySem.MeetsSeq3
end
section
variable {prog:Program}{w:World}{A:Around}{E:Value→Shared→Prop}{s:Shared}
theorem Bz{t b:Addr}{vs ws:List Value}{Q:Value→Shared→Prop}(ht:IsTup s.heap t vs.toArray)(hb:IsTup s.heap b ws.toArray)(hv:vs≠ [])
 (h1:ws=[]→Q (.ref t) s) (h2:ws≠ []→Q (.ref s.heap.objs.size) {s with heap:=s.heap.push {cls:= .type "tuple",data:= .seq (vs++ws).toArray}})
 (hsz:vs.length+ws.length≤sizeLine):wpAny (model prog w) A (binaryOp .Add (.ref t) (.ref b)) Q E s:=by
 obtain⟨⟨cls,dd,data,sl⟩,ho,hc,n,hd⟩:=id ht
 obtain⟨⟨cls2,dd2,data2,sl2⟩,ho2,hc2,n2,hd2⟩:=id hb
 simp only at hc hd hc2 hd2
 subst hc hd hc2 hd2
 have e:vs.toArray++ws.toArray=(vs++ws).toArray:=by simp
 by_cases hw:ws=[]
 · exact concat_meets ⟨_,ho,rfl⟩ ⟨_,ho2,rfl⟩ noFill_tuple_add seq_tuple_add PySem.F.slot_tuple_add PySem.F.entry_tuple_add (PySem.F.args_tuple_add_2 _ _)
    (tuple_addW1 t b vs.toArray ws.toArray n n2 dd dd2 sl sl2 (by simpa using hv) (by simp[hw])) ⟨ho,ho2,h1 hw⟩
 · refine concat_meets ⟨_,ho,rfl⟩ ⟨_,ho2,rfl⟩ noFill_tuple_add seq_tuple_add PySem.F.slot_tuple_add PySem.F.entry_tuple_add (PySem.F.args_tuple_add_2 _ _)
    (tuple_addW2 t b vs.toArray ws.toArray n n2 dd dd2 sl sl2 (by simpa using hv) (by simpa using hw) (by rw[List.size_toArray,List.size_toArray];exact hsz)) ⟨ho,ho2,?_⟩
   rw[e]
   exact h2 hw
def bz(n d:Nat):Option Int→Nat
 |none=>d
 |some v=>if v<0 then(v+(n:Int)).toNat else min v.toNat n
theorem zF(n d:Nat):bz n d none=d:=rfl
theorem A8(n d k:Nat):bz n d (some (k:Int))=min k n:=by
 show(if(k:Int)<0 then((k:Int)+(n:Int)).toNat else min (k:Int).toNat n)=min k n
 rw[if_neg (by omega),Int.toNat_natCast]
theorem DH(n d:Nat)(hd:d≤n)(o:Option Int):bz n d o≤n:=by
 cases o with
 |none=>exact hd
 |some v=>
  show(if v<0 then(v+(n:Int)).toNat else min v.toNat n)≤n
  by_cases hv:v<0
  · rw[if_pos hv];omega
  · rw[if_neg hv];exact Nat.min_le_right _ _
theorem vi(v:Int)(n d:Nat):(if v<0 then max (v+(n:Int)) 0 else min v (n:Int))=((bz n d (some v):Nat):Int):=by
 show(if v<0 then max (v+(n:Int)) 0 else min v (n:Int))=(((if v<0 then(v+(n:Int)).toNat else min v.toNat n):Nat):Int)
 by_cases hv:v<0
 · simp only[if_pos hv];omega
 · simp only[if_neg hv];omega
theorem vT(lo hi:Option Int)(n:Nat):Builtin.Slice.sliceAdjust lo hi 1 (n:Int)=(((bz n 0 lo:Nat):Int),((bz n n hi:Nat):Int)):=by
 have h1:¬((1:Int)<0):=by omega
 unfold Builtin.Slice.sliceAdjust
 simp only[h1,if_false]
 refine Prod.ext ?_ ?_
 · cases lo with
   |none=>rfl
   |some v=>exact vi v n 0
 · cases hi with
   |none=>rfl
   |some v=>exact vi v n n
theorem vG(i j:Nat):Builtin.Slice.slicePlaces (i:Int) (j:Int) 1=j-i:=by
 unfold Builtin.Slice.slicePlaces
 have h1:(1:Int)>0:=by omega
 simp only[h1,if_true,Int.ediv_one]
 split<;>omega
theorem oM{v:Value}{o:Option Int}{Q:Option Int→Shared→Prop}(p:IsPart v o)(h:Q o s):wpAny (model prog w) A (Builtin.Slice.slicePartIndex v) Q E s:=by
 cases p with
 |none=>exact slicePart_none h
 |int i t=>exact slicePart_int h
theorem ke{sl:Addr}{vl vu:Value}{lo hi:Option Int}{n:Nat}{Q:Int×Int×Nat→Shared→Prop}(hs:s.heap.IsSliceOf sl vl vu .none)(pl:IsPart vl lo)(pu:IsPart vu hi)
 (h:Q (((bz n 0 lo:Nat):Int),1,bz n n hi-bz n 0 lo) s):wpAny (model prog w) A (Builtin.Slice.sliceApplied (.ref sl) (pure (n:Int))) Q E s:=by
 obtain⟨os,hos,hcs,hds⟩:=id hs
 unfold Builtin.Slice.sliceApplied Builtin.Slice.sliceFields
 refine wpAny_bind (wpAny_bind (wpAny_field hos hds (x:=vl) rfl (wpAny_bind (wpAny_field hos hds (x:=vu) rfl (wpAny_bind (wpAny_field hos hds (x:= .none) rfl (wpAny_pure ?_)))))))
 refine wpAny_bind (slicePart_none ?_)
 show wpAny _ _ (if((1:Int)==0)=true then _ else _) _ _ s
 rw[if_neg (by decide)]
 refine wpAny_bind (oM pl (wpAny_bind (oM pu (wpAny_bind (wpAny_pure ?_)))))
 show wpAny _ _ (match Builtin.Slice.sliceAdjust lo hi 1 (n:Int)with|(lo,hi)=>pure (lo,(1:Int),Builtin.Slice.slicePlaces lo hi 1)) _ _ s
 rw[vT lo hi n]
 show wpAny _ _ (pure (((bz n 0 lo:Nat):Int),(1:Int),Builtin.Slice.slicePlaces ((bz n 0 lo:Nat):Int) ((bz n n hi:Nat):Int) 1)) _ _ s
 rw[vG]
 exact wpAny_pure h
theorem zf(xs:Array Value)(i k:Nat):((List.range k).filterMap fun(m:Nat)=>xs[((i:Int)+(m:Int)*1).toNat]?).toArray=((xs.toList.drop i).take k).toArray:=by
 have e:(fun(m:Nat)=>xs[((i:Int)+(m:Int)*1).toNat]?)=fun m=>xs[i+m]?:=by
  funext m
  have:((i:Int)+(m:Int)*1).toNat=i+m:=by omega
  rw[this]
 rw[e]
 have:=pick_run xs i k
 rw[List.filterMap_map]at this
 have e2:((fun x=>xs[x]?)∘fun x=>i+x)=fun m=>xs[i+m]?:=rfl
 rw[e2]at this
 rw[this]
theorem nk{t sl:Addr}{items:Array Value}{vl vu:Value}{lo hi:Option Int}{Q:Value→Shared→Prop}(ht:IsTup s.heap t items)(hs:s.heap.IsSliceOf sl vl vu .none)(pl:IsPart vl lo)(pu:IsPart vu hi)
 (hw:¬(bz items.size 0 lo=0∧bz items.size items.size hi=items.size))
 (h:Q (.ref s.heap.objs.size) {s with heap:=s.heap.push {cls:= .type "tuple",data:= .seq ((items.toList.drop (bz items.size 0 lo)).take (bz items.size items.size hi-bz items.size 0 lo)).toArray}})
 (hsz:items.size≤sizeLine):wpAny (model prog w) A (getItem (.ref t) (.ref sl)) Q E s:=by
 have htake:sizeOk (.seq ((items.toList.drop (bz items.size 0 lo)).take (bz items.size items.size hi-bz items.size 0 lo)).toArray):=by
  show((items.toList.drop (bz items.size 0 lo)).take (bz items.size items.size hi-bz items.size 0 lo)).toArray.size≤sizeLine
  rw[List.size_toArray,List.length_take,List.length_drop,Array.length_toList]
  omega
 have hj:bz items.size items.size hi≤items.size:=DH _ _ (Nat.le_refl _) hi
 obtain⟨os,hos,hcs,hds⟩:=id hs
 have hTs:s.TypeIs (.ref sl) "slice":=⟨os,hos,hcs⟩
 unfold getItem
 try with_reducible refine wpAny_holding ?_
 first|refine wpAny_bind (wpAny_pure ?_)|skip
 refine wpAny_bind (wpAny_sequenceKey ht.typeIs (by decide) ?_)
 refine wpAny_bind (wpAny_callSpecial?_slot (name:=Str.ofString "__getitem__") ht.typeIs PyProof.Rows.slot_tuple_getitem
  (wpAny_call_entry PyProof.Rows.slot_tuple_getitem ht.typeIs entry_tuple_getitem ?_ (args_tuple_getitem _ _)))
 show wpAny _ _ (Builtin.Tuple.tupleItemsOf (.ref t) >>= _) _ _ s
 refine wpAny_bind (tupleItemsOf_ ht ?_)
 refine wpAny_bind (wpAny_typeOf hTs ?_)
 rw[if_pos (by decide)]
 refine wpAny_bind (ke hs pl pu ?_)
 have hno:¬((((bz items.size 0 lo:Nat):Int)==0&&(1:Int)==1&&(bz items.size items.size hi-bz items.size 0 lo)==items.size)=true):=by
  intro q
  rw[Bool.and_eq_true,Bool.and_eq_true]at q
  have q1:((bz items.size 0 lo:Nat):Int)=0:=eq_of_beq q.1.1
  have q2:bz items.size items.size hi-bz items.size 0 lo=items.size:=eq_of_beq q.2
  exact hw ⟨by omega,by omega⟩
 show wpAny _ _ (if(((bz items.size 0 lo:Nat):Int)==0&&(1:Int)==1&&(bz items.size items.size hi-bz items.size 0 lo)==items.size)=true then _ else _) _ _ s
 rw[if_neg hno,zf]
 first
  |exact wpAny_bind (m:=Builtin.Tuple.tupleExact _) (wpAny_newObj_type (wpAny_pure ⟨_,rfl,wpAny_pure h⟩) htake)
  |exact wpAny_bind (m:=Builtin.Tuple.tupleExact _) (wpAny_newObj_type (wpAny_bind (wpAny_pure (wpAny_pure ⟨_,rfl,wpAny_pure h⟩))) htake)
  |exact wpAny_bind (wpAny_bind (m:=Builtin.Tuple.tupleExact _) (wpAny_newObj_type (wpAny_pure (wpAny_pure ⟨_,rfl,wpAny_pure h⟩)) htake))
  |exact wpAny_bind (wpAny_bind (m:=Builtin.Tuple.tupleExact _) (wpAny_newObj_type (wpAny_pure ⟨_,rfl,wpAny_pure h⟩) htake))
end
end HT
namespace L2
open PySem PySem.Spec PyProof.Rows
abbrev TO:=St→Hp→(Option Int→Hp→Prop)→Prop
def PO(X:Cx)(e:Option Expr)(t:TO):Prop:=
 ∀(pins:List (Addr×Obj)) (s:Shared) (σ:St) (H:Hp) (Q:Option Int→Hp→Prop),Inv X pins σ H s→t σ H Q→
  wpAny (model X.prog X.w) X.A (evalPart e X.env) (fun u s'=>∃o H',Inv X pins σ H' s'∧IsPart u o∧Q o H') X.xe s
def AI:TO:=fun _ H Q=>Q none H
def EE(t:TE):TO:=fun σ H Q=>t σ H fun x H1=>∃i,x= .int i∧Q (some i) H1
section
variable {X:Cx}{e:Expr}{te:TE}{lo hi:Option Expr}{tl th:TO}{pos p2:Pos}
theorem AN:PO X none AI:=by
 intro pins s σ H Q I h
 rw[evalPart_none]
 exact wpAny_pure ⟨none,H,I,.none,h⟩
theorem AZ(h:PE X e te):PO X (some e) (EE te):=by
 intro pins s σ H Q I hw
 rw[evalPart_some]
 refine bF (h pins s σ H _ I hw) fun u s1 ⟨x,H1,I1,r1,q1⟩=>?_
 obtain⟨i,rfl,q⟩:=q1
 obtain⟨t,rfl⟩:=r1
 exact⟨some i,H1,I1,.int i t,q⟩
def yq(X:Cx)(r:V→Option Int→Option Int→Hp→VK→Prop):Prop:=
 ∀(pins:List (Addr×Obj)) (s:Shared) (σ:St) (H:Hp) (x:V) (v vl vu:Value) (lo hi:Option Int) (sl:Addr) (Q:VK),Inv X pins σ H s→RelV x v→s.heap.IsSliceOf sl vl vu .none→IsPart vl lo→IsPart vu hi→r x lo hi H Q→
  ∃T id,typeLookup (.type T) "__getitem__"=pure (some (.builtin id))∧s.TypeIs v T∧wpAny (model X.prog X.w) X.A (getItem v (.ref sl)) (EP X pins σ Q) X.xe s
def Hq(r:V→Option Int→Option Int→Hp→VK→Prop)(te:TE)(tl th:TO):TE:=fun σ H Q=>te σ H fun x H1=>tl σ H1 fun l H2=>th σ H2 fun u H3=>r x l u H3 Q
theorem zj{r:V→Option Int→Option Int→Hp→VK→Prop}(hr:yq X r)(he:PE X e te)(hl:PO X lo tl)(hu:PO X hi th):PE X (.Subscript e (.Slice lo hi none p2) pos) (Hq r te tl th):=by
 intro pins s σ H Q I h
 refine Subscript_ (bF (he pins s σ H _ I h) fun v s1 ⟨x,H1,I1,r1,q1⟩=>?_)
 refine wpAny_Slice (bF (hl pins s1 σ H1 _ I1 q1) fun vl s2 ⟨l,H2,I2,pl,q2⟩=>bF (hu pins s2 σ H2 _ I2 q2) fun vu s3 ⟨u,H3,I3,pu,q3⟩=>?_)
 rw[evalPart_none]
 refine wpAny_pure ?_
 have I4:Inv X pins σ H3 {s3 with heap:=s3.heap.push {cls:= .type "slice",data:= .fields #[vl,vu,.none]}}:=I3.kept (t':=s3.toks) fun b ob q=>Heap.get?_push_of_some _ q
 obtain⟨T,id,hT,ht,hg⟩:=hr pins {s3 with heap:=s3.heap.push {cls:= .type "slice",data:= .fields #[vl,vu,.none]}} σ H3 x v vl vu l u s3.heap.objs.size Q I4 r1 (Heap.IsSliceOf.new ..) pl pu q3
 show wpAny (model X.prog X.w) X.A (subscriptTail e (.Slice lo hi none p2) v (.ref s3.heap.objs.size)) (EP X pins σ Q) X.xe {s3 with heap:=s3.heap.push {cls:= .type "slice",data:= .fields #[vl,vu,.none]}}
 exact tail_any (ops:=[.ref s3.heap.objs.size,v]) ht hT hg (by with_unfolding_all rfl)
def kX(xs:List V)(lo hi:Option Int):List V:=(xs.drop (HT.bz xs.length 0 lo)).take (HT.bz xs.length xs.length hi-HT.bz xs.length 0 lo)
theorem ny(xs:List V)(lo hi:Option Int):(kX xs lo hi).length≤xs.length:=by
 unfold kX
 rw[List.length_take,List.length_drop]
 omega
def Gq(K:PySem.W.Frag):V→Option Int→Option Int→Hp→VK→Prop:=fun x lo hi H Q=>∃a xs,x= .ref a∧gs K H a xs∧
 ¬(HT.bz xs.length 0 lo=0∧HT.bz xs.length xs.length hi=xs.length)∧∀p,H p=none→Q (.ref p) (upd H p (.tup (kX xs lo hi)))
theorem C4:yq X (Gq X.K):=by
 intro pins s σ H x v vl vu lo hi sl Q I rx hs pl pu h
 obtain⟨a,xs,rfl,hx,hw,q⟩:=h
 cases rx
 obtain⟨its,r,ht,hz⟩:=I.tuple hx
 have hlen:its.toArray.size=xs.length:=by rw[List.size_toArray];exact r.length.symm
 refine⟨"tuple",_,PyProof.Rows.slot_tuple_getitem.lookup,ht.typeIs,?_⟩
 refine HT.nk ht hs pl pu (by rw[hlen];exact hw) ?_ (by rw[hlen];exact hz)
 rw[hlen]
 refine⟨.ref s.heap.objs.size,_,I.laid (t':=s.toks) (o:= .tup (kX xs lo hi)) (fun b ob q=>Heap.get?_push_of_some _ q) (Nat.le_refl _) ?_,rfl,q _ (I.aH.fresh (Nat.le_refl _))⟩
 exact⟨Nat.le_trans (ny xs lo hi) hz,_,(r.drop (HT.bz xs.length 0 lo)).take (HT.bz xs.length xs.length hi-HT.bz xs.length 0 lo),IsTup.new _ _⟩
def Fd(K:PySem.W.Frag):R2:=fun x y H Q=>∃a b xs ys,x= .ref a∧y= .ref b∧gs K H a xs∧gs K H b ys∧xs≠ []∧xs.length+ys.length≤sizeLine∧
 (ys=[]→Q (.ref a) H)∧(ys≠ []→∀p,H p=none→Q (.ref p) (upd H p (.tup (xs++ys))))
theorem Vals.mY{xs:List V}{us:List Value}(r:Vals xs us):us=[]↔xs=[]:=by
 cases r with
 |nil=>simp
 |cons _ _=>simp
theorem AO:bG X (binaryOp .Add) (Fd X.K):=by
 intro pins s σ H x y v u Q I rx ry h
 obtain⟨a,b,xs,ys,rfl,rfl,ha,hb,hx,hz,q1,q2⟩:=h
 cases rx
 cases ry
 obtain⟨its,r1,p1,_⟩:=I.tuple ha
 obtain⟨its2,r2,p2,_⟩:=I.tuple hb
 refine HT.Bz p1 p2 (fun z=>hx (r1.mY.mp z)) (fun z=>⟨.ref a,H,I,rfl,q1 (r2.mY.mp z)⟩) (fun z=>?_) (by rw[←r1.length,←r2.length];exact hz)
 refine⟨.ref s.heap.objs.size,_,I.laid (t':=s.toks) (o:= .tup (xs++ys)) (fun b ob q=>Heap.get?_push_of_some _ q) (Nat.le_refl _) ?_,rfl,q2 (fun w=>z (r2.mY.mpr w)) _ (I.aH.fresh (Nat.le_refl _))⟩
 exact⟨by rw[List.length_append];exact hz,_,r1.append r2,IsTup.new _ _⟩
end
end L2
namespace L2
open PySem PySem.Spec PyProof.Rows
def jx(n:Nat)(i:Int):Option Nat:=if 0≤i then(if i<n then some i.toNat else none)else if-(n:Int)≤i then some (i+n).toNat else none
def eP{α:Type}(xs:List α)(i:Int):Option α:=(jx xs.length i).bind fun j=>xs[j]?
theorem uI{n:Nat}{i:Int}{j:Nat}(h:jx n i=some j):seqIndex? i n=some j∧j<n∧ -(n:Int)≤i∧i<n:=by
 unfold jx at h
 by_cases h0:0≤i
 · rw[if_pos h0]at h
   by_cases h1:i<n
   · rw[if_pos h1]at h
     have e:i.toNat=j:=Option.some.inj h
     exact⟨by rw[seqIndex_of h0 h1,e],by omega,by omega,h1⟩
   · rw[if_neg h1]at h;cases h
 · rw[if_neg h0]at h
   by_cases h1: -(n:Int)≤i
   · rw[if_pos h1]at h
     have e:(i+n).toNat=j:=Option.some.inj h
     exact⟨by rw[seqIndex_neg (by omega) h1,e],by omega,h1,by omega⟩
   · rw[if_neg h1]at h;cases h
theorem pU{α:Type}{xs:List α}{i:Int}{v:α}(h:eP xs i=some v):∃j,seqIndex? i xs.length=some j∧xs[j]?=some v∧j<xs.length∧ -(xs.length:Int)≤i∧i<xs.length:=by
 unfold eP at h
 cases e:jx xs.length i with
 |none=>rw[e]at h;cases h
 |some j=>
  rw[e]at h
  obtain⟨h1,h2,h3,h4⟩:=uI e
  exact⟨j,h1,h,h2,h3,h4⟩
theorem h8{α:Type}{xs:List α}{j:Nat}{v:α}(h:xs[j]?=some v):eP xs (j:Int)=some v:=by
 have hj:j<xs.length:=(List.getElem?_eq_some_iff.mp h).1
 have e:jx xs.length (j:Int)=some j:=by
  unfold jx
  rw[if_pos (by omega),if_pos (by omega)];simp
 unfold eP;rw[e];exact h
def mR(b:Expr):Prop:=∀o i,subscripted b false o i=operate [o,i] (getItem o i)
def Ao(X:Cx)(r:R2):Prop:=
 ∀(value slice:Expr) (pins:List (Addr×Obj)) (s:Shared) (σ:St) (H:Hp) (x y:V) (v u:Value) (Q:VK),Inv X pins σ H s→RelV x v→RelV y u→r x y H Q→
  subscripted slice false v u=operate [v,u] (getItem v u)→wpAny (model X.prog X.w) X.A (subscriptTail value slice v u) (EP X pins σ Q) X.xe s
def DN(X:Cx)(id:String)(r:V→List V→Hp→VK→Prop):Prop:=
 ∀(pins:List (Addr×Obj)) (s:Shared) (σ:St) (H:Hp) (x:V) (xs:List V) (v:Value) (us:List Value) (Q:VK),Inv X pins σ H s→RelV x v→Vals xs us→r x xs H Q→
  wpAny (model X.prog X.w) X.A (call (.builtin id) (v::us)) (EP X pins σ Q) X.xe s
section
variable {X:Cx}{a b:Expr}{ta tb:TE}{pos:Pos}
theorem EL{r:R2}(hr:Ao X r)(ha:PE X a ta)(hb:PE X b tb)(hs:mR b):PE X (.Subscript a b pos) (yh r ta tb):=by
 intro pins s σ H Q I h
 exact Subscript_ (yr ha hb I h fun v u s2 x y H2 I2 rx ry q=>hr a b pins s2 σ H2 x y v u Q I2 rx ry q (hs _ _))
def GI(K:PySem.W.Frag):R2:=fun x y H Q=>∃p xs i v,x= .ref p∧y= .int i∧ji K H p xs∧eP xs i=some v∧Q v H
def GG(K:PySem.W.Frag):R2:=fun x y H Q=>∃p xs i v,x= .ref p∧y= .int i∧gs K H p xs∧eP xs i=some v∧Q v H
theorem uV:Ao X (GI X.K):=by
 intro value slice pins s σ H x y v u Q I rx ry h hs
 obtain⟨p,xs,i,z,rfl,rfl,hq,he,q⟩:=h
 cases rx
 obtain⟨t,rfl⟩:=ry
 obtain⟨its,r,pl,hz⟩:=I.list hq
 obtain⟨j,h1,h2,h3,h4,h5⟩:=pU he
 obtain⟨w,ew,rw'⟩:=r.get h2
 have hl:=r.length
 have hn:=mr
 have fin:EP X pins σ Q w s:=⟨z,H,I,rw',q⟩
 by_cases h0:0≤i
 · have hj:i.toNat=j:=by
    rw[seqIndex_of h0 h5]at h1
    exact Option.some.inj h1
   exact item_listR pl.isList h0 (by omega) (by rw[hj];simpa using ew) fin hs
 · have hj:(i+(its.toArray.size:Int)).toNat=j:=by
    rw[seqIndex_neg (by omega) h4]at h1
    rw[List.size_toArray,←hl]
    exact Option.some.inj h1
   exact subscriptTail_builtinR (x:=w) pl.isList.typeIs slot_list_getitem.lookup
    (wpAny_getItem_list_neg (Q:=fun r s'=>r=w∧EP X pins σ Q r s') pl.isList (by omega) (by rw[List.size_toArray]<;>omega) (by omega) (by rw[hj];simpa using ew) ⟨rfl,fin⟩) hs
theorem Ci:Ao X (GG X.K):=by
 intro value slice pins s σ H x y v u Q I rx ry h hs
 obtain⟨p,xs,i,z,rfl,rfl,hq,he,q⟩:=h
 cases rx
 obtain⟨t,rfl⟩:=ry
 obtain⟨its,r,pl,hz⟩:=I.tuple hq
 obtain⟨j,h1,h2,h3,h4,h5⟩:=pU he
 obtain⟨w,ew,rw'⟩:=r.get h2
 have hl:=r.length
 have hn:=mr
 have fin:EP X pins σ Q w s:=⟨z,H,I,rw',q⟩
 exact subscriptTail_builtinR (x:=w) pl.typeIs slot_tuple_getitem.lookup
  (getItem_tuple (j:=j) (Q:=fun r s'=>r=w∧EP X pins σ Q r s') pl (by omega) (by omega) (by rw[List.size_toArray,←hl];exact h1) (by simpa using ew) ⟨rfl,fin⟩) hs
theorem wx(its:List Value)(n j:Nat)(u:Value):Obj.mapSeq (·.setIfInBounds j u) {cls:= .type "list",data:= .seq its.toArray n}= {cls:= .type "list",data:= .seq (its.set j u).toArray n}:=by
 simp[Obj.mapSeq]
theorem Inv.lst{pins:List (Addr×Obj)}{σ:St}{H:Hp}{s:Shared}{p:Addr}{xs:List V}(I:Inv X pins σ H s)(h:H p=some (.lst xs)):
 ∃(its:List Value) (n:Nat),Vals xs its∧s.heap.get? p=some {cls:= .type "list",data:= .seq its.toArray n}∧xs.length≤sizeLine:=by
 obtain⟨z,its,n,r,e⟩:=I.aH p _ h
 exact⟨its,n,r,e,z⟩
theorem Inv.Eg{pins:List (Addr×Obj)}{σ:St}{H:Hp}{s:Shared}{p:Addr}{xs ys:List V}{its its':List Value}{n n':Nat}{f:Obj→Obj}(I:Inv X pins σ H s)(h:H p=some (.lst xs))
 (ho:s.heap.get? p=some {cls:= .type "list",data:= .seq its.toArray n}) (hf:f {cls:= .type "list",data:= .seq its.toArray n}= {cls:= .type "list",data:= .seq its'.toArray n'}) (r:Vals ys its') (hz:ys.length≤sizeLine) (t:Nat):
 Inv X pins σ (upd H p (.lst ys)) {s with heap:=s.heap.update p f,toks:=t}:=by
 have e:(s.heap.update p f).get? p=some {cls:= .type "list",data:= .seq its'.toArray n'}:=by
  rw[Heap.get?_update_self f ho (by rw[hf]<;>rfl),hf]
 refine I.write (x:=p) (e:=p) (by rw[h];trivial) (.inl rfl) (fun b u hb q=>(Heap.get?_update_other _ _ (Ne.symm hb)).trans q) ⟨_,e⟩ ?_
 exact⟨hz,its',n',r,e⟩
def rq:V→V→V→Hp→(Hp→Prop)→Prop:=fun o i v H Q=>∃p xs k j,o= .ref p∧i= .int k∧H p=some (.lst xs)∧jx xs.length k=some j∧Q (upd H p (.lst (xs.set j v)))
theorem set_list:DC X rq:=by
 intro pins s σ H o i v ov iv u Q I ro ri rv h
 obtain⟨p,xs,k,j,rfl,rfl,hp,hj,q⟩:=h
 cases ro
 obtain⟨t,rfl⟩:=ri
 obtain⟨its,n,r,ho,hz⟩:=I.lst hp
 obtain⟨h1,h2,h3,h4⟩:=uI hj
 have hl:=r.length
 have hn:=mr
 have I':Inv X pins σ (upd H p (.lst (xs.set j v))) {s with heap:=s.heap.update p (Obj.mapSeq (·.setIfInBounds j u))}:=
  I.Eg hp ho (wx its n j u) (r.set rv j) (by rw[List.length_set];exact hz) s.toks
 by_cases h0:0≤k
 · have hk:k.toNat=j:=by
    rw[seqIndex_of h0 h4]at h1
    exact Option.some.inj h1
   exact PySem.W.ki_setAt ho h0 (by omega) (by rw[List.size_toArray,←hl];exact h4) (by rw[hk];exact⟨_,I',q⟩)
 · have hk:(k+(its.toArray.size:Int)).toNat=j:=by
    rw[seqIndex_neg (by omega) h3]at h1
    rw[List.size_toArray,←hl]
    exact Option.some.inj h1
   exact PySem.W.ki_setBack ho (by omega) (by rw[List.size_toArray,←hl];exact h3) (by omega) (by rw[hk];exact⟨_,I',q⟩)
theorem tY(lo hi:Option Int)(n:Nat):(sliceBounds lo hi none n).1=((HT.bz n 0 lo:Nat):Int)∧(sliceBounds lo hi none n).2.1=((HT.bz n n hi:Nat):Int)∧(sliceBounds lo hi none n).2.2=1:=by
 refine⟨?_,?_,rfl⟩
 · cases lo with
   |none=>simp[sliceBounds,HT.bz]
   |some i=>
    simp only[sliceBounds,HT.bz,Option.getD_none,show(1:Int)>0 by decide,if_true]
    by_cases h:i<0
    · simp only[h,if_true]<;>omega
    · simp only[h,if_false]<;>omega
 · cases hi with
   |none=>simp[sliceBounds,HT.bz]
   |some i=>
    simp only[sliceBounds,HT.bz,Option.getD_none,show(1:Int)>0 by decide,if_true]
    by_cases h:i<0
    · simp only[h,if_true]<;>omega
    · simp only[h,if_false]<;>omega
theorem qV(its:List Value)(lo hi:Option Int):slicePick its.toArray lo hi none=((its.drop (HT.bz its.length 0 lo)).take (HT.bz its.length its.length hi-HT.bz its.length 0 lo)).toArray:=by
 obtain⟨h1,h2,h3⟩:=tY lo hi its.toArray.size
 unfold slicePick
 rw[h1,h2,h3]
 simp only[sliceRange_one,pick_run,List.size_toArray]<;>rfl
def Gs(K:PySem.W.Frag):V→Option Int→Option Int→Hp→VK→Prop:=fun x lo hi H Q=>∃a xs,x= .ref a∧ji K H a xs∧∀p,H p=none→Q (.ref p) (upd H p (.lst (kX xs lo hi)))
theorem vf:yq X (Gs X.K):=by
 intro pins s σ H x v vl vu lo hi sl Q I rx hs pl pu h
 obtain⟨a,xs,rfl,hx,q⟩:=h
 cases rx
 obtain⟨its,r,ht,hz⟩:=I.list hx
 have hlen:=r.length
 refine⟨"list",_,slot_list_getitem.lookup,ht.isList.typeIs,?_⟩
 refine wpAny_getItem_list_slice ht.isList hs pl pu .none (by simp) ?_ (by rw[List.size_toArray]<;>omega)
 rw[qV,←hlen]
 refine⟨.ref s.heap.objs.size,_,I.laid (t':=s.toks) (o:= .lst (kX xs lo hi)) (fun b ob q=>Heap.get?_push_of_some _ q) (Nat.le_refl _) ?_,rfl,q _ (I.aH.fresh (Nat.le_refl _))⟩
 exact⟨Nat.le_trans (ny xs lo hi) hz,_,0,(r.drop (HT.bz xs.length 0 lo)).take (HT.bz xs.length xs.length hi-HT.bz xs.length 0 lo),Heap.get?_push_size _ rfl⟩
theorem sI:bO X (.builtin "len") (fun xs H Q=>∃p ys,xs=[.ref p]∧(ji X.K H p ys∨gs X.K H p ys)∧Q (.int ys.length) H):=by
 intro pins s σ H xs us Q I r h
 obtain⟨p,ys,rfl,hq,q⟩:=h
 obtain⟨u,rfl,rx⟩:=vals1 r
 cases rx
 have hn:=mr
 rcases hq with hq|hq
 · obtain⟨its,r',pl,hz⟩:=I.list hq
   have hlen:=r'.length
   exact Calls.call_len_list pl.isList (by simp only[List.size_toArray]<;>omega) ⟨.int ys.length,H,I.tok _,⟨s.toks+1,by rw[List.size_toArray,hlen]⟩,q⟩
 · obtain⟨its,r',pl,hz⟩:=I.tuple hq
   have hlen:=r'.length
   exact len_tuple pl (by simp only[List.size_toArray]<;>omega) ⟨.int ys.length,H,I.tok _,⟨s.toks+1,by rw[List.size_toArray,hlen]⟩,q⟩
theorem rY:bO X (.builtin "len") (fun xs H Q=>∃z,xs=[.str z]∧z.length≤sizeLine∧Q (.int z.length) H):=by
 intro pins s σ H xs us Q I r h
 obtain⟨z,rfl,hz,q⟩:=h
 obtain⟨u,rfl,t,rfl⟩:=vals1 r
 have hn:=mr
 exact len_str (by omega) ⟨.int z.length,H,I.tok _,⟨_,rfl⟩,q⟩
theorem mn:bO X (.type "list") (fun xs H Q=>∃p ys,xs=[.ref p]∧(ji X.K H p ys∨gs X.K H p ys)∧∀l,H l=none→Q (.ref l) (upd H l (.lst ys))):=by
 intro pins s σ H xs us Q I r h
 obtain⟨p,ys,rfl,hq,q⟩:=h
 obtain⟨u,rfl,rx⟩:=vals1 r
 cases rx
 have fin:∀(its:List Value),Vals ys its→ys.length≤sizeLine→∀(h':Heap) (c':Nat),(∀b o',s.heap.get? b=some o'→h'.get? b=some o')→
  h'.get? s.heap.objs.size=some {cls:= .type "list",dict:=none,data:= .seq its.toArray c',slots:= #[]}→EP X pins σ Q (.ref s.heap.objs.size) {s with heap:=h'}:=fun its r' hz h' c' kp e=>
  ⟨.ref s.heap.objs.size,_,I.laid (t':=s.toks) kp (Nat.le_refl _) (show cR X.prog X.w _ h' _ (.lst ys)from⟨hz,its,c',r',e⟩),rfl,q _ (I.aH.fresh (Nat.le_refl _))⟩
 rcases hq with hq|hq
 · obtain⟨its,r',pl,hz⟩:=I.list hq
   have hlen:=r'.length
   obtain⟨o,ho,hc,n,hd⟩:=pl.isList
   exact call_list_seq p (.inl rfl) ho hc hd (fun h' c' kp e=>fin its r' hz h' c' kp e) (by simp only[List.size_toArray]<;>omega)
 · obtain⟨its,r',pl,hz⟩:=I.tuple hq
   have hlen:=r'.length
   obtain⟨o,ho,hc,n,hd⟩:=pl
   exact call_list_seq p (.inr rfl) ho hc hd (fun h' c' kp e=>fin its r' hz h' c' kp e) (by simp only[List.size_toArray]<;>omega)
theorem qW:bO X (.type "tuple") (fun xs H Q=>∃p ys,xs=[.ref p]∧((ji X.K H p ys∧∀l,H l=none→Q (.ref l) (upd H l (.tup ys)))∨(gs X.K H p ys∧Q (.ref p) H))):=by
 intro pins s σ H xs us Q I r h
 obtain⟨p,ys,rfl,h⟩:=h
 obtain⟨u,rfl,rx⟩:=vals1 r
 cases rx
 rcases h with⟨hq,q⟩|⟨hq,q⟩
 · obtain⟨its,r',pl,hz⟩:=I.list hq
   have hlen:=r'.length
   refine call_tuple_list pl.isList (fun h' kp=>?_) (by simp only[List.size_toArray]<;>omega)
   have I1:Inv X pins σ H {s with heap:=h'}:=I.kept (t':=s.toks) kp
   have I2:Inv X pins σ (upd H h'.objs.size (.tup ys)) {s with heap:=h'.push {cls:= .type "tuple",data:= .seq its.toArray}}:=
    I1.laid (t':=s.toks) (fun b o e=>Heap.get?_push_of_some _ e) (Nat.le_refl _) (show cR X.prog X.w _ _ _ (.tup ys)from⟨hz,its,r',IsTup.new _ _⟩)
   exact⟨.ref h'.objs.size,_,I2,rfl,q _ (I1.aH.fresh (Nat.le_refl _))⟩
 · obtain⟨its,r',pl,hz⟩:=I.tuple hq
   exact call_tuple_same pl ⟨.ref p,H,I,rfl,q⟩
def Di(K:PySem.W.Frag)(T:String)(x:V)(H:Hp):Prop:=match x with
 | .str _=>T="str"
 | .int _=>T="int"
 | .ref p=>(T="list"∧∃xs,ji K H p xs)∨(T="tuple"∧∃o,K.lookup p=some o∧o.cls= .type "tuple"∧o.dict=none)∨
    (T="dict"∧((∃kvs,H p=some (.dK kvs))∨∃kvs,H p=some (.dT kvs)))∨(T="set"∧∃S n,H p=some (.set S n))
 |_=>False
theorem xC{pins:List (Addr×Obj)}{σ:St}{H:Hp}{s:Shared}{T:String}{x:V}{v:Value}(I:Inv X pins σ H s)(r:RelV x v)(ty:Di X.K T x H):
 s.TypeIs v T∧∀a,v= .ref a→∃ob,s.heap.get? a=some ob∧ob.dict=none:=by
 cases x with
 |str z=>
  obtain⟨t,rfl⟩:=r
  cases (show T="str" from ty)
  exact⟨typeIs_str s z t,fun _ e=>nomatch e⟩
 |int i=>
  obtain⟨t,rfl⟩:=r
  cases (show T="int" from ty)
  exact⟨typeIs_int s i t,fun _ e=>nomatch e⟩
 |ref p=>
  cases r
  rcases ty with⟨rfl,xs,hq⟩|⟨rfl,o,hk,hc,hd⟩|⟨rfl,hk⟩|⟨rfl,S,n,hk⟩
  · obtain⟨its,_,pl,_⟩:=I.list hq
    refine⟨pl.isList.typeIs,fun a e=>?_⟩
    cases e
    obtain⟨o,n,e,c,hd,_⟩:=pl
    exact⟨o,e,hd⟩
  · refine⟨⟨o,I.fI p o hk,hc⟩,fun a e=>?_⟩
    cases e
    exact⟨o,I.fI _ o hk,hd⟩
  · have z:∃o,s.heap.get? p=some o∧o.ExactDict:=by
     rcases hk with⟨kvs,hk⟩|⟨kvs,hk⟩
     · obtain⟨_,_,_,_,o,_,_,e,ex,_⟩:=I.aH p _ hk
       exact⟨o,e,ex⟩
     · obtain⟨_,_,_,_,o,_,_,e,ex,_⟩:=I.aH p _ hk
       exact⟨o,e,ex⟩
    obtain⟨o,e,ex⟩:=z
    refine⟨⟨o,e,ex.1⟩,fun a e2=>?_⟩
    cases e2
    exact⟨o,e,ex.2.1⟩
  · obtain⟨o,_,_,_,e,ex,_⟩:=I.aH p _ hk
    refine⟨⟨o,e,ex.1⟩,fun a e2=>?_⟩
    cases e2
    exact⟨o,e,ex.2.1⟩
 |_=>exact False.elim ty
def Dw(K:PySem.W.Frag)(T:String)(r:V→List V→Hp→VK→Prop)(to:TE):TE:=fun σ H Q=>to σ H fun x H1=>Di K T x H1∧r x [] H1 Q
def Gf(K:PySem.W.Frag)(T:String)(r:V→List V→Hp→VK→Prop)(to:TE)(t:TA):TE:=fun σ H Q=>to σ H fun x H1=>Di K T x H1∧t σ H1 fun xs H2=>r x xs H2 Q
variable {o e:Expr}{es:List Expr}{to:TE}{t:TA}{name:Str}{apos cpos:Pos}{T id:String}{r:V→List V→Hp→VK→Prop}
theorem CB(pa:PlainAttrs T)(slot:Slot T name id)(hty:typeOf (.builtin id)=pure (.type "method_descriptor"))(hm:DN X id r)(ho:PE X o to)
 (hbase:attributeBase o name X.env (eval o X.env)=eval o X.env:=by rfl) (hline:(apos.endLine==cpos.line)=true:=by rfl):PE X (.Call (.Attribute o name apos) [] [] cpos) (Dw X.K T r to):=by
 intro pins s σ H Q I h
 refine wpAny_Call_method0_late hbase hline (bF (ho pins s σ H _ I h) fun v s1 ⟨x,H1,I1,r1,ty,q1⟩=>?_)
 obtain⟨h1,h2⟩:=xC I1 r1 ty
 exact⟨T,id,pa,slot,hty,h1,h2,Calls.callWith_builtin rfl (PySem.evalArgs_none (hm pins s1 σ H1 x [] v [] Q I1 r1 .nil q1))⟩
theorem Fu(pa:PlainAttrs T)(slot:Slot T name id)(hty:typeOf (.builtin id)=pure (.type "method_descriptor"))(hm:DN X id r)(ho:PE X o to)(ha:PA X (e::es) t)
 (hbase:attributeBase o name X.env (eval o X.env)=eval o X.env:=by rfl)
 (hfew:((backTo cpos (starEach (e::es) X.env)).all (fun x=> !x.1)&&(backToKw cpos (keywordEach [] X.env)).all (fun x=>x.1.isSome)
   &&decide ((e::es).length+([]:List Keyword).length+(if([]:List Keyword).isEmpty then 0 else 1)<30))=true:=by rfl)
 (hline:(apos.endLine==cpos.line)=true:=by rfl) (hs:starEach (e::es) X.env=(false,eval e X.env)::starEach es X.env:=by rfl) (hplain:(backTo cpos (starEach es X.env)).any (·.1)=false:=by rfl):
 PE X (.Call (.Attribute o name apos) (e::es) [] cpos) (Gf X.K T r to t):=by
 intro pins s σ H Q I h
 refine wpAny_Call_method_late hbase hfew hline rfl (bF (ho pins s σ H _ I h) fun v s1 ⟨x,H1,I1,r1,ty,q1⟩=>?_)
 obtain⟨h1,h2⟩:=xC I1 r1 ty
 refine⟨T,id,pa,slot,hty,h1,h2,?_⟩
 have hA:=ha cpos pins s1 σ H1 _ I1 q1
 rw[hs]at hA⊢
 refine Calls.callWith_builtin (by show(false||(backTo cpos (starEach es X.env)).any (·.1))=false;rw[hplain]<;>rfl) (Calls.evalArgs_plain ?_)
 exact bF hA fun us s2 ⟨vs,H2,I2,r2,q2⟩=>hm pins s2 σ H2 x vs v us Q I2 r1 r2 q2
/-xs.append(e),list.index on a module's tuple .. are DN facts of 06m-/
end
end L2
namespace L2
open PySem PySem.Spec PyProof.Rows
def FT(X:Cx)(id:String)(r:V→List V→Hp→VK→Prop):Prop:=
 ∀(pins:List (Addr×Obj)) (s:Shared) (σ:St) (H:Hp) (x:V) (xs:List V) (v:Value) (us:List Value) (Q:VK),Inv X pins σ H s→RelV x v→Vals xs us→r x xs H Q→
  wpAny (model X.prog X.w) X.A (call (.builtin id) (v::us)) (EP X pins σ Q) X.xe s
theorem Vals.one:∀ {x:V} {us:List Value},Vals [x] us→∃u,us=[u]∧RelV x u
 |_,_,.cons r .nil=>⟨_,rfl,r⟩
theorem Vals.zero:∀ {us:List Value},Vals [] us→us=[]
 |_,.nil=>rfl
theorem Vals.rep{xs:List V}{us:List Value}(h:Vals xs us):∀k:Nat,Vals (List.replicate k xs).flatten (List.replicate k us).flatten
 |0=> .nil
 |k+1=>by
  rw[List.replicate_succ,List.replicate_succ,List.flatten_cons,List.flatten_cons]
  exact Vals.append h (Vals.rep h k)
theorem foldl_rep(its:List Value):∀(k:Nat) (acc:List Value),
 List.foldl (fun x1 x2=>x1++x2) acc.toArray (List.replicate k its.toArray)=(acc++(List.replicate k its).flatten).toArray
 |0,acc=>by simp
 |k+1,acc=>by
  have e:acc.toArray++its.toArray=(acc++its).toArray:=by simp
  have e2:(acc++its)++(List.replicate k its).flatten=acc++(List.replicate (k+1) its).flatten:=by
   rw[List.replicate_succ,List.flatten_cons,List.append_assoc]
  rw[←e2,←foldl_rep its k (acc++its),←e,List.replicate_succ,List.foldl_cons]
section
variable {X:Cx}{pins:List (Addr×Obj)}{σ:St}{H:Hp}{s:Shared}{l b:Addr}{xs ys zs:List V}
theorem Inv.C1{its its':List Value}{n:Nat}{f:Array Value→Array Value}{t':Nat}(I:Inv X pins σ H s)(hH:H l=some (.lst xs))
 (e:s.heap.get? l=some {cls:= .type "list",data:= .seq its.toArray n}) (hf:f its.toArray=its'.toArray) (hv:Vals ys its') (hz:ys.length≤sizeLine):
 Inv X pins σ (upd H l (.lst ys)) {s with heap:=s.heap.update l (Obj.mapSeq f),toks:=t'}:=by
 have q:=PySem.IsL.update e f
 rw[hf]at q
 refine I.write (x:=l) (e:=l) (by rw[hH];exact trivial) (.inl rfl) (fun b' u hb hu=>(Heap.get?_update_other s.heap (Obj.mapSeq f) (Ne.symm hb)).trans hu) ⟨_,q⟩ ?_
 exact⟨hz,its',_,hv,q⟩
theorem Inv.yv{its:List Value}{t':Nat}(I:Inv X pins σ H s)(hv:Vals ys its)(hz:ys.length≤sizeLine):
 Inv X pins σ (upd H s.heap.objs.size (.lst ys)) {s with heap:=s.heap.push {cls:= .type "list",data:= .seq its.toArray},toks:=t'}:=
 I.laid (fun _ _ q=>Heap.get?_push_of_some _ q) (Nat.le_refl _) ⟨hz,its,0,hv,Heap.get?_push_size _ rfl⟩
theorem Inv.fresh(I:Inv X pins σ H s):H s.heap.objs.size=none:=I.aH.fresh (Nat.le_refl _)
theorem Inv.Ee(I:Inv X pins σ H s)(hH:H l=some (.lst xs)):xs.length≤sizeLine∧∃(its:List Value) (n:Nat),Vals xs its∧xs.length=its.length∧s.heap.get? l=some {cls:= .type "list",data:= .seq its.toArray n}:=by
 obtain⟨z,its,n,r,e⟩:=I.aH l _ hH
 exact⟨z,its,n,r,r.length,e⟩
theorem yD{n:Nat}(h:n≤sizeLine):Builtin.List.listTooLong n=false:=by
 unfold Builtin.List.listTooLong
 exact decide_eq_false (by omega)
end
section
variable {X:Cx}
def uQ:V→List V→Hp→VK→Prop:=fun x vs H Q=>∃l xs y,x= .ref l∧vs=[y]∧H l=some (.lst xs)∧xs.length<sizeLine∧Q .aA (upd H l (.lst (xs++[y])))
theorem qr:FT X "list.append" uQ:=by
 intro pins s σ H x vs v us Q I rx rv h
 obtain⟨l,xs,y,rfl,rfl,hH,hz,q⟩:=h
 cases rx
 obtain⟨u,rfl,ru⟩:=rv.one
 obtain⟨z,its,n,r,hl,e⟩:=I.Ee hH
 refine call_meets F.slot_list_append ⟨_,e,rfl⟩ F.entry_list_append (F.args_list_append_2 _ _) (PySem.list_append l its.toArray n u (by rw[List.size_toArray];omega)) ⟨e,?_⟩
 refine⟨.aA,_,I.C1 (its':=its++[u]) hH e (by simp) (r.append (.cons ru .nil)) ?_,rfl,q⟩
 rw[List.length_append,List.length_singleton]
 omega
def xk:V→List V→Hp→VK→Prop:=fun x vs H Q=>∃l xs,x= .ref l∧vs=[]∧H l=some (.lst xs)∧Q .aA (upd H l (.lst []))
theorem yU:FT X "list.clear" xk:=by
 intro pins s σ H x vs v us Q I rx rv h
 obtain⟨l,xs,rfl,rfl,hH,q⟩:=h
 cases rx
 have hus:=rv.zero
 subst hus
 obtain⟨z,its,n,r,hl,e⟩:=I.Ee hH
 refine call_meets F.slot_list_clear ⟨_,e,rfl⟩ F.entry_list_clear (F.args_list_clear_1 _) (AutoSeq1.list_clear_list_0 l its.toArray n (by rw[List.size_toArray];omega)) ⟨e,?_⟩
 exact⟨.aA,_,I.C1 (its':=[]) (ys:=[]) hH e rfl .nil (Nat.zero_le _),rfl,q⟩
theorem len_rep{α:Type}(xs:List α)(k:Nat):(List.replicate k xs).flatten.length=k*xs.length:=by
 induction k with
 |zero=>simp
 |succ k ih=>rw[List.replicate_succ,List.flatten_cons,List.length_append,ih,Nat.succ_mul,Nat.add_comm]
end
section
variable {prog:Program}{w:World}{A:Around}{E:Value→Shared→Prop}{s:Shared}
set_option maxRecDepth 100000 in
end
section
variable {X:Cx}
end
end L2
namespace Att
open PySem PySem.W PySem.Calls PyProof.Rows
theorem pd{P:Params}{h:Heap}:∀(ns:List Int) (vs:List Value),WellAll P h vs (ns.map WData.int)→IntsAre vs ns:=by
 intro ns
 induction ns with
 |nil=>
  intro vs w
  rw[List.map_nil]at w
  cases w
  exact .nil
 |cons n ns ih=>
  intro vs w
  rw[List.map_cons]at w
  cases w with
  |cons a b=>
   cases a
   exact .cons _ _ (ih _ b)
theorem xv{l:OpenLaw}{n:Nat}(hn:l.most=some n){P:Params}{h:Heap}{args:List WData}{vals:List Value}
 (hpre:l.row.toRowW.claim.pre args=true) (hwl:WellAll P h vals args):
 ∃a vs ns,vals=[Value.ref a]∧args=[WData.list (ns.map WData.int)]∧h.get? a=some {cls:= .type "list",data:= .seq vs.toArray}∧IntsAre vs ns∧ns.length≤n:=by
 have hsh:WShape.hasAll [] args [.list .int]=true:=(pre_splitW hpre).1
 have hc:l.pre.holds [] {args:=args}=true:=(pre_splitW hpre).2
 obtain⟨d,r,rfl,h1,h2⟩:=hasAllW_cons hsh
 obtain rfl:=hasAllW_nil h2
 obtain⟨xs,rfl,h3⟩:=hasW_list h1
 obtain⟨ns,rfl⟩:=items_int h3
 have hlen:ns.length≤n:=by
  unfold OpenLaw.pre at hc
  have h4:(WTm.not (.lt (.lit (.int (n:Int))) (.len (.arg 0)))).holds [] {args:=[.list (ns.map .int)]}=true:=by
   have h4:=(holds_andW hc).1
   rw[hn]at h4
   exact h4
  have h5:=condW_of h4 (w_not (w_lt w_lit (w_len_list (w_arg rfl))))
  rw[List.length_map]at h5
  refine Nat.le_of_not_lt fun q=>?_
  have q':(n:Int)<((ns.length:Nat):Int):=by omega
  first
   |(rw[decide_eq_true q']at h5;exact absurd h5 (by decide))
   |(simp at h5;omega)
 cases hwl with
 |cons w1 w2=>
  cases w2
  cases w1 with
  |list ho hall=>exact⟨_,_,ns,rfl,rfl,ho,pd ns _ hall,hlen⟩
theorem xY(l:OpenLaw)(args:List WData):l.row.toRowW.claim.post args (.bool true) args=true:=
 postW_of (r:=l.row.toRowW) (X:=(true==true))
  (show WShape.has [] (.bool true) .bool=true by first|rfl|decide|simp[WShape.has,WShape.arms,WShape.armsAll])
  (show(WTm.eq .res (.lit (.bool true))).value [] {args:=args,res:=some (.bool true),after:=args}=some (.bool (true==true))from w_eq_bool (w_res rfl) w_lit) rfl
theorem uF{l:OpenLaw}{n:Nat}{q:Program}{loose:List Str}{XP:(Str→Option Value)→Heap→Prop}{YP:World→Heap→Prop}{d:DefRec}
 (hn:l.most=some n) (hdf:d.params.defaults=[])
 (call:∀(w:World) (s₀ s₁:Shared) (mg mb:Str→Option Value) (fa:Addr) (o:Obj) (pm cd doc:Value) (a:Addr) (vs:List Value) (ns:List Int),
   Ground q loose [] XP w s₀ mg mb s₁.heap→YP w s₁.heap→
   s₁.heap.get? fa=some o→o.data= .func (docDef d.name d.params d.body d.scope pm cd doc)→s₁.heap.CodeRec cd d.name→mg d.name=some (.ref fa)→
   s₁.heap.get? a=some {cls:= .type "list",data:= .seq vs.toArray}→IntsAre vs ns→ns.length≤n→s₁.gens= #[]→
   codeAny (model l.prog w) callerA (.call (.ref fa) ⟨[.ref a],[]⟩) (fun r s'=>r= .ok (.ret (.bool true))∧OldK s₁.heap s'.heap∧s'.os=s₁.os∧AllBare s'.gens) s₁):
 WalkO q loose XP YP l.row.toRowW d [] (fun f vs=>PySem.call f vs):=by
 intro w s₀ s₁ mg mb G Y fa o pm cd doc dV kV ho hd hcd hD hmg hg args vals as hpre hlay hrd hwl hlo
 obtain rfl:dV= .none:=Dflts.none hD hdf
 obtain rfl:kV= .none:=Dflts.noKw hD
 obtain⟨a,vs,ns,rfl,rfl,hobj,hints,hlen⟩:=xv hn hpre hwl
 refine enter_call (codeAny_mono (call w s₀ s₁ mg mb fa o pm cd doc a vs ns G Y ho (fd_plain hd) hcd hmg hobj hints hlen hg) fun r s' hq=>?_)
 obtain⟨rfl,h2,h3,h4⟩:=hq
 exact⟨.inl ⟨.bool true,.bool true,[],rfl,fun _=>rfl,.bool true,xY l _,fun _=>⟨List.Pairwise.nil,fun _ hm=>(nomatch hm)⟩⟩,h2,h3,h4⟩
section
variable {prog:Program}{w:World}{A:Around}{E:Value→Shared→Prop}{s:Shared}{K:Frag}
end
end Att
namespace L2
open PySem PySem.Spec PyProof.Rows
end L2
/-THE LAST THEOREM (shape;LID,My.*are yours):
 My.Adr:a structure of the addresses that your layer names (classes,functions);My.Txt K t:a structure (Prop) of the equations over K;
 My.txt_mk:{K} {implicit addresses ..} (e1:nsIn K mainGlobals "law"=some (some (.ref f))) (e2:K.lookup f=some ⟨oc,od,.func (fnOf "law" "law" params body scope dV kV doc pm an cdv ct),sl⟩) (e3:codeIn K cdv "law"=true) .. :∃t,My.Txt K t
set_option maxRecDepth 100000 in
set_option maxHeartbeats 0 in
(the tactic k_is has no namespace:write k_is)-/
namespace L2
open PySem PySem.Spec PyProof.Rows
def inClass(s:Stmt)(j:Nat):Stmt:=match s with
 | .ClassDef _ _ _ body _ _ _ _ _ _ _=>body.getD j (.Pass ⟨0,0,0,0⟩)
 |_=> .Pass ⟨0,0,0,0⟩
def ba(s:Stmt):Arguments:=match s with
 | .FunctionDef _ a _ _ _ _ _ _ _ _=>a
 |_=>{posonlyargs:=[],args:=[],vararg:=none,kwonlyargs:=[],kw_defaults:=[],kwarg:=none,defaults:=[]}
def aW(s:Stmt):List Stmt:=match s with
 | .FunctionDef _ _ b _ _ _ _ _ _ _=>b
 |_=>[]
def ag(s:Stmt):Scope:=match s with
 | .FunctionDef _ _ _ _ _ _ sc _ _ _=>sc
 |_=>{kind:= .function,names:=[],isGenerator:=false,isCoroutine:=false}
abbrev aO:nF:=fun _ _ _ _ _ _=>False
abbrev E0:XK:=fun _ _ _=>False
theorem wj{X:Cx}:Passes aO X E0:=fun _ _ _ _ _ _ _ h=>h.elim
structure kR(K:PySem.W.Frag)(x qual:Str)(st:Stmt)(f:Addr)(fd:FuncData):Prop where
 ex:∃(oc:Value) (od:Option Addr) (kV doc pm:Value) (an:Option Addr) (cdv ct:Value) (osl:Array (Option Value)),
  fd=PySem.W.fnOf x qual (ba st) (aW st) (ag st) .none kV doc pm an cdv ct∧K.lookup f=some ⟨oc,od,.func fd,osl⟩∧PySem.W.codeIn K cdv qual=true
 kp:PySem.W.keepIn K (.ref f)=true
section
variable {P:Program}{w:World}{K:PySem.W.Frag}{mg:Str→Option Value}{base:Heap}
theorem kR.ok{x qual:Str}{st:Stmt}{f:Addr}{fd:FuncData}{N ps:List Str}{k:Nat}{sp:Sp}(F:kR K x qual st f fd)(S:bf N ps (ag st))(len:∀vs H Q E,sp vs H Q E→vs.length=ps.length)
 (hbody:∀(cdv:Value) (A:Around) (outer:List Env) (s:Shared) (H:Hp) (vs:List V) (Q:VK) (E:XK),cq k (A.deeper (envOfC qual (ag st) s.heap.objs.size f cdv))→sp vs H Q E→
   ∃t,fG (lG aO P w K mg base N qual (ag st) f cdv A outer s H E).qI (aW st) t∧t {nx:=fun _ H'=>Q .aA H',rt:=Q} (start N vs) H):ax P w K mg base aO (k+1) f fd ps sp:=by
 obtain⟨oc,od,kV,doc,pm,an,cdv,ct,osl,rfl,lk,hcd⟩:=F.ex
 refine zJ lk hcd S len fun A outer s H vs Q E hr hsp=>?_
 obtain⟨t,h,q⟩:=hbody cdv A outer s H vs Q E hr hsp
 exact⟨t,h.qI,q⟩
theorem kR.binds{x qual:Str}{st:Stmt}{f:Addr}{fd:FuncData}{ps:List Str}(F:kR K x qual st f fd)
 (h:∀(kV doc pm:Value) (an:Option Addr) (cdv ct:Value) (us:List Value),us.length=ps.length→bindArgs (PySem.W.fnOf x qual (ba st) (aW st) (ag st) .none kV doc pm an cdv ct) ⟨us,[]⟩=pure (ps.zip us)):Binds K fd ps []:=by
 obtain⟨oc,od,kV,doc,pm,an,cdv,ct,osl,rfl,lk,hcd⟩:=F.ex
 exact .all (h kV doc pm an cdv ct)
theorem bU{x qual:Str}{st:Stmt}{f:Addr}{oc:Value}{od an:Option Addr}{osl:Array (Option Value)}{kV doc pm cdv ct:Value}(l:K.lookup f=some ⟨oc,od,.func (PySem.W.fnOf x qual (ba st) (aW st) (ag st) .none kV doc pm an cdv ct),osl⟩)
 (c:PySem.W.codeIn K cdv qual=true) (k:PySem.W.keepIn K (.ref f)=true):kR K x qual st f (PySem.W.fnOf x qual (ba st) (aW st) (ag st) .none kV doc pm an cdv ct):=⟨⟨oc,od,kV,doc,pm,an,cdv,ct,osl,rfl,l,c⟩,k⟩
end
section
variable {X:Cx}
end
theorem Gp{A B:Prop}(h:B):if false=true then A else B:=by
 rw[if_neg Bool.false_ne_true]
 exact h
theorem fJ{A B:Prop}(h:A):if true=true then A else B:=by
 rw[if_pos rfl]
 exact h
def zA(H H':Hp):Prop:=∀b o,H b=some o→H' b=some o
end L2
set_option maxHeartbeats 4000000
namespace L3
open PySem PySem.Spec PyProof.Rows L2
section
variable {prog:Program}{w:World}{A:Around}{R:Result→Shared→Prop}{s:Shared}
theorem uq{elt target iter:Expr}{ifs:List Expr}{scope:Scope}{pos:Pos}{it acc:Value}{env:Env}(I:Nat→Shared→Prop)
 (turn:∀n s,I n s→wpAny (model prog w) A (pyNext it) (fun r s₁=>match r with
   |none=>R (.ok .next) s₁
   |some v=>wpAny (model prog w) A (letOwnedTupleGo target it v) (fun _ s₀=>wpAny (model prog w) A (assign target env v) (fun _ s₂=>
     wpAny (model prog w) A (forIn ifs true fun c r=>if r=true then do let ok ←isTrue c env (eval c env);pure (ForInStep.yield ok)else pure (ForInStep.yield r)) (fun ok s₃=>
      if ok=true then wpAny (model prog w) A (eval elt env) (fun x s₄=>
       wpAny (model prog w) A (call (.builtin "list.append") [acc,x]) (fun _ s₅=>∃m,m<n∧I m s₅) (fun _ _=>False) s₄) (fun _ _=>False) s₃
      else∃m,m<n∧I m s₃) (fun _ _=>False) s₂) (fun _ _=>False) s₀) (fun _ _=>False) s₁) (fun _ _=>False) s)
 (n:Nat) (h:I n s):
 codeAny (model prog w) A (.compLoop (.ListComp elt [⟨target,iter,ifs,0⟩] scope pos) 0 it acc env) R s:=by
 refine codeAny_loop rfl I (fun n s hI=>?_) n h
 show wpAny _ A ((compTurn (.ListComp elt [⟨target,iter,ifs,0⟩] scope pos) 0 it acc env).onRaise (fun x=>do noteFrame x env;theTreesLotGoes x)) _ _ s
 refine wpAny_noted ?_
 rw[compTurn_list]
 refine wpAny_bind (wpAny_standAt (wpAny_bind (wpAny_mono (turn n s hI) (fun r s₁ h₁=>?_) fun _ _ h'=>h'.elim)))
 cases r with
 |none=>exact wpAny_pure h₁
 |some v=>
  refine wpAny_bind (wpAny_mono h₁ (fun _ s₀ h₀=>?_) fun _ _ h'=>h'.elim)
  refine wpAny_bind (wpAny_mono h₀ (fun _ s₂ h₂=>wpAny_bind (wpAny_mono h₂ (fun ok s₃ h₃=>?_) fun _ _ h'=>h'.elim)) fun _ _ h'=>h'.elim)
  cases ok with
  |false=>exact wpAny_pure ⟨rfl,h₃⟩
  |true=>
   exact wpAny_bind (wpAny_bind (wpAny_mono h₃ (fun x s₄ h₄=>wpAny_bind (wpAny_mono h₄ (fun _ s₅ h₅=>wpAny_pure (wpAny_pure ⟨rfl,h₅⟩)) fun _ _ h'=>h'.elim)) fun _ _ h'=>h'.elim))
end
def cG(cells:List (Str×Addr)):List (Str×NameKind)→List (Str×Addr)→List (Str×Addr)
 | [],acc=>acc
 |(n,k)::r,acc=>if k== .free then(match cells.lookup n with|some c=>cG cells r ((n,c)::acc)|none=>cG cells r acc)else cG cells r acc
theorem cv{cells:List (Str×Addr)}:∀(names:List (Str×NameKind)) (acc:List (Str×Addr)),(∀x c,acc.lookup x=some c→cells.lookup x=some c)→
 ∀x c,(cG cells names acc).lookup x=some c→cells.lookup x=some c
 | [],acc,h,x,c,e=>h x c e
 |(n,k)::r,acc,h,x,c,e=>by
  unfold cG at e
  split at e
  · split at e
    · rename_i d q
      refine cv r _ (fun y b e'=>?_) x c e
      rw[List.lookup_cons]at e'
      split at e'
      · rename_i z
        cases e'
        have z':y=n:=by simpa using z
        rw[z'];exact q
      · exact h y b e'
    · exact cv r _ h x c e
  · exact cv r _ h x c e
theorem gj{cells:List (Str×Addr)}{x:Str}:∀(names:List (Str×NameKind)) (acc:List (Str×Addr)),(∃c,cells.lookup x=some c)→((x,NameKind.free)∈names∨∃c,acc.lookup x=some c)→
 ∃c,(cG cells names acc).lookup x=some c
 | [],acc,_,h=>by
   rcases h with h|h
   · simp at h
   · exact h
 |(n,k)::r,acc,hc,h=>by
  unfold cG
  split
  · rename_i hk
    split
    · rename_i d q
      refine gj r _ hc ?_
      rcases h with h|⟨c,h⟩
      · rcases List.mem_cons.mp h with e|e
        · cases e
          exact .inr ⟨d,by simp[List.lookup_cons]⟩
        · exact .inl e
      · refine .inr ?_
        rw[List.lookup_cons]
        split
        · exact⟨_,rfl⟩
        · exact⟨c,h⟩
    · rename_i q
      refine gj r _ hc ?_
      rcases h with h|h
      · rcases List.mem_cons.mp h with e|e
        · cases e
          obtain⟨c,hc⟩:=hc
          rw[hc]at q;cases q
        · exact .inl e
      · exact .inr h
  · rename_i hk
    refine gj r _ hc ?_
    rcases h with h|h
    · rcases List.mem_cons.mp h with e|e
      · cases e
        exact absurd rfl hk
      · exact .inl e
    · exact .inr h
theorem jq{scope:Scope}{env:Env}(h:∀x∈scope.names,x.2= .free→∃c,env.cells.lookup x.1=some c):closureFor scope env=pure (cG env.cells scope.names []):=by
 have key:∀(names:List (Str×NameKind)) (acc:List (Str×Addr)),(∀x∈names,x.2= .free→∃c,env.cells.lookup x.1=some c)→
  (forIn names acc (fun(x:Str×NameKind) (cs:List (Str×Addr))=>if(x.2==NameKind.free)=true then(do let a ←cellOf env x.1;pure (ForInStep.yield ((x.1,a)::cs)):Sem (ForInStep (List (Str×Addr))))else pure (ForInStep.yield cs)))=(pure (cG env.cells names acc):Sem (List (Str×Addr))):=by
  intro names
  induction names with
  |nil=>intro acc _;rfl
  |cons p r ih=>
   intro acc hh
   obtain⟨n,k⟩:=p
   rw[List.forIn_cons]
   have ih':=ih
   by_cases hk:(k==NameKind.free)=true
   · obtain⟨c,e⟩:=hh (n,k) List.mem_cons_self (by simpa using hk)
     simp only[hk,if_true]
     have e1:cellOf env n=pure c:=by
      unfold cellOf
      rw[e]
     rw[e1]
     simp only[pure_bind]
     rw[ih _ fun x hx=>hh x (List.mem_cons_of_mem _ hx)]
     conv=>rhs;unfold cG
     simp only[hk,if_true]
     rw[show env.cells.lookup n=some c from e]
   · have hk':(k==NameKind.free)=false:=by simpa using hk
     simp only[hk',Bool.false_eq_true,if_false,pure_bind]
     rw[ih _ fun x hx=>hh x (List.mem_cons_of_mem _ hx)]
     conv=>rhs;unfold cG
     simp only[hk',Bool.false_eq_true,if_false]
 unfold closureFor
 have:=key scope.names [] h
 rw[bind_pure]
 first
  |exact this
  |(simp only[bind_pure]at this⊢;exact this)
end L3
namespace L3
open PySem PySem.Spec L2
open PyProof.Rows hiding St
theorem gQ(env:Env):∀(names:List (Str×NameKind)) (x:Str),
 (names.map fun(n,k)=>if(k==NameKind.free&&env.scope.kind== .function&&env.kindOf n==some .cell)then(n,NameKind.cell)else(n,k)).lookup x=
   (names.lookup x).map fun k=>if(k==NameKind.free&&env.scope.kind== .function&&env.kindOf x==some .cell)then NameKind.cell else k
 | [],_=>rfl
 |(n,k)::r,x=>by
  show List.lookup x ((if(k==NameKind.free&&env.scope.kind== .function&&env.kindOf n==some .cell)=true then(n,NameKind.cell)else(n,k))::_)=_
  cases hx:x==n with
  |true=>
   have e:x=n:=by simpa using hx
   subst e
   by_cases hc:(k==NameKind.free&&env.scope.kind== .function&&env.kindOf x==some .cell)=true
   · rw[if_pos hc];simp only[List.lookup_cons,beq_self_eq_true,Option.map_some];rw[if_pos hc]
   · rw[if_neg hc];simp only[List.lookup_cons,beq_self_eq_true,Option.map_some];rw[if_neg hc]
  |false=>
   by_cases hc:(k==NameKind.free&&env.scope.kind== .function&&env.kindOf n==some .cell)=true
   · rw[if_pos hc];simp only[List.lookup_cons,hx];exact gQ env r x
   · rw[if_neg hc];simp only[List.lookup_cons,hx];exact gQ env r x
theorem rR{env:Env}{scope:Scope}{x:Str}(h:scope.names.lookup x=some .free):(relabel scope env).names.lookup x=some .cell∨(relabel scope env).names.lookup x=some .free:=by
 have e:(relabel scope env).names.lookup x=_:=gQ env scope.names x
 rw[e,h]
 simp only[Option.map_some]
 split
 · exact .inl rfl
 · exact .inr rfl
theorem sx{env:Env}{scope:Scope}{x:Str}(h:(relabel scope env).names.lookup x=some .cell∨(relabel scope env).names.lookup x=some .free):(x,NameKind.free)∈scope.names∨scope.names.lookup x=some .cell:=by
 have e:(relabel scope env).names.lookup x=_:=gQ env scope.names x
 rw[e]at h
 cases q:scope.names.lookup x with
 |none=>rw[q]at h;rcases h with h|h<;>cases h
 |some k=>
  rw[q]at h
  simp only[Option.map_some]at h
  have m:=PySem.mem_of_lookup q
  by_cases hc:(k==NameKind.free&&env.scope.kind== .function&&env.kindOf x==some .cell)=true
  · have:k= .free:=by
     simp only[Bool.and_eq_true]at hc
     simpa using hc.1.1
    subst this;exact .inl m
  · rw[if_neg hc]at h
    rcases h with h|h
    · cases h;exact .inr rfl
    · cases h;exact .inl m
theorem e_:∀(names:List (Str×NameKind)) (L:Nat) (acc:List (Str×Addr)),cellsFrom L names acc=cellsFrom L names []++acc
 | [],_,_=>rfl
 |(n,k)::r,L,acc=>by
  unfold cellsFrom
  by_cases hk:(k==NameKind.cell)=true
  · rw[if_pos hk,if_pos hk,e_ r (L+1) ((n,L)::acc),e_ r (L+1) [(n,L)],List.append_assoc];rfl
  · rw[if_neg hk,if_neg hk];exact e_ r L acc
theorem mm:∀ {names:List (Str×NameKind)} {L:Nat} {x:Str} {c:Addr},(x,c)∈cellsFrom L names []→(x,NameKind.cell)∈names
 | [],_,_,_,h=>by unfold cellsFrom at h;cases h
 |(n,k)::r,L,x,c,h=>by
  unfold cellsFrom at h
  by_cases hk:(k==NameKind.cell)=true
  · rw[if_pos hk,e_]at h
    have hk':k= .cell:=by simpa using hk
    subst hk'
    rcases List.mem_append.mp h with h|h
    · exact List.mem_cons_of_mem _ (mm h)
    · have:(x,c)=(n,L):=by simpa using h
      cases this
      exact List.mem_cons_self
  · rw[if_neg hk]at h
    exact List.mem_cons_of_mem _ (mm h)
theorem lD:∀ {l1 l2:List (Str×Addr)} {x:Str} {c:Addr},(l1++l2).lookup x=some c→l1.lookup x=some c∨(l1.lookup x=none∧l2.lookup x=some c)
 | [],_,_,_,h=> .inr ⟨rfl,h⟩
 |(n,d)::l1,l2,x,c,h=>by
  rw[List.cons_append,List.lookup_cons]at h
  rw[List.lookup_cons]
  cases hx:x==n with
  |true=>rw[hx]at h;exact .inl h
  |false=>rw[hx]at h;exact lD h
theorem nA:∀ {l1 l2:List (Str×Addr)} {x:Str},l1.lookup x=none→(l1++l2).lookup x=l2.lookup x
 | [],_,_,_=>rfl
 |(n,d)::l1,l2,x,h=>by
  rw[List.lookup_cons]at h
  rw[List.cons_append,List.lookup_cons]
  cases hx:x==n with
  |true=>rw[hx]at h;cases h
  |false=>rw[hx]at h;exact nA h
def jj(scope:Scope)(C:Addr)(cl:List (Str×Addr)):List (Str×Addr):=cellsFrom (C+1) scope.names cl
theorem gz{scope:Scope}{C:Addr}{cl:List (Str×Addr)}{x:Str}{c:Addr}(h:(jj scope C cl).lookup x=some c):(x,c)∈cellsFrom (C+1) scope.names []∨cl.lookup x=some c:=by
 unfold jj at h
 rw[e_]at h
 rcases lD h with h|h
 · exact .inl (PySem.mem_of_lookup h)
 · exact .inr h.2
theorem CC(names:List (Str×NameKind))(h:Heap){C:Addr}(e:h.objs.size=C+1):CellsOk (pushCells h names) (C+1) (cellsFrom (C+1) names []):=by
 have:=cellsFrom_ok names h (C+1) [] ⟨fun _ _ hm=>(nomatch hm),List.Pairwise.nil⟩ (by rw[e];exact Nat.le_refl _)
 rw[e]at this
 exact this
theorem jT{names:List (Str×NameKind)}{C:Addr}{x:Str}{c:Addr}:∀ {L:Nat},C≤L→(x,c)∈cellsFrom L names []→C≤c:=by
 induction names with
 |nil=>intro L _ h;unfold cellsFrom at h;cases h
 |cons p r ih=>
  obtain⟨n,k⟩:=p
  intro L hL h
  unfold cellsFrom at h
  by_cases hk:(k==NameKind.cell)=true
  · rw[if_pos hk,e_]at h
    rcases List.mem_append.mp h with h|h
    · exact ih (Nat.le_trans hL (Nat.le_succ L)) h
    · have:(x,c)=(n,L):=by simpa using h
      cases this
      exact hL
  · rw[if_neg hk]at h
    exact ih hL h
theorem own_apart{names:List (Str×NameKind)}{x y:Str}{c:Addr}:∀ {L:Nat},(x,c)∈cellsFrom L names []→(y,c)∈cellsFrom L names []→x=y:=by
 induction names with
 |nil=>intro L h;unfold cellsFrom at h;cases h
 |cons p r ih=>
  obtain⟨n,k⟩:=p
  intro L h1 h2
  unfold cellsFrom at h1 h2
  by_cases hk:(k==NameKind.cell)=true
  · rw[if_pos hk,e_]at h1 h2
    rcases List.mem_append.mp h1 with g1|g1<;>rcases List.mem_append.mp h2 with g2|g2
    · exact ih g1 g2
    · have e2:(y,c)=(n,L):=by simpa using g2
      have ec:c=L:=(Prod.mk.inj e2).2
      have:=jT (C:=L+1) (Nat.le_refl _) g1
      rw[ec]at this
      exact absurd this (Nat.not_succ_le_self _)
    · have e1:(x,c)=(n,L):=by simpa using g1
      have ec:c=L:=(Prod.mk.inj e1).2
      have:=jT (C:=L+1) (Nat.le_refl _) g2
      rw[ec]at this
      exact absurd this (Nat.not_succ_le_self _)
    · have e1:(x,c)=(n,L):=by simpa using g1
      have e2:(y,c)=(n,L):=by simpa using g2
      exact(Prod.mk.inj e1).1.trans (Prod.mk.inj e2).1.symm
  · rw[if_neg hk]at h1 h2
    exact ih h1 h2
theorem ot{M:Model}{A:Around}{E:Value→Shared→Prop}{s:Shared}{scope:Scope}{globals:Addr}{cl:List (Str×Addr)}{qual:Str}{env:Env}{Q:Env→Shared→Prop}
 (hQ:Q (newEnv scope s.heap.objs.size globals (jj scope s.heap.objs.size cl) qual none .none (some env) builtinsNs) {s with heap:=pushCells (s.heap.push {cls:= .type "dict",data:= .dict #[]}) scope.names}):
 wpAny M A (newFunctionEnv scope globals cl [] qual none .none (some env)) Q E s:=by
 simp only[newFunctionEnv,Option.isSome_some,if_true]
 refine wpAny_bind (wpAny_alloc ?_)
 refine wpAny_bind (wpAny_layCells _ (fun name kind cells=>by cases hkc:kind==NameKind.cell<;>simp[hkc]) _ _ _ _ ?_)
 rw[show({s with heap:=s.heap.push {cls:= .type "dict",data:= .dict #[]}}:Shared).heap.objs.size=s.heap.objs.size+1 from Heap.size_push ..]
 rw[List.forIn_nil]
 exact wpAny_bind (wpAny_pure (wpAny_pure hQ))
structure bj(X:Cx)(scope:Scope)(Nc:List Str)(fr:List (Option Nat)):Prop where
 kind:scope.kind= .function
 cells:∀x∈scope.names,x.2= .cell→scope.names.lookup x.1=some .cell
 names:∀x∈scope.names,x.2= .local→scope.names.lookup x.1=some .local
 free:∀x∈scope.names,x.2= .free→X.env.kindOf x.1=some .cell∨X.env.kindOf x.1=some .free
 len:fr.length=Nc.length
 map:∀(i j:Nat) (x:Str),Nc[i]?=some x→fr[i]?=some (some j)→X.N[j]?=some x∧scope.names.lookup x=some .free∧(X.env.kindOf x=some .cell∨X.env.kindOf x=some .free)
def σC(fr:List (Option Nat))(σ:St):St:=fr.map fun o=>o.bind fun j=>(σ[j]?).join
def eN(X:Cx)(scope:Scope)(Nc:List Str)(C:Addr)(s:Shared)(H:Hp)(ex:List Addr):Cx:=
 {X with N:=Nc,s₀:=s,H₀:=H,env:=compEnvC scope (jj scope C (cG X.env.cells scope.names [])) C X.env,outer:=X.stack,stack:=X.stack,ex:=ex,fn:=fun x=>scope.names.lookup x==some .cell,pn:=[],xe:=fun _ _=>False}
def oG(wi:TI)(fr:List (Option Nat))(g:TG)(c:TT)(te:TE):TE:=fun σ H Q=>wi σ H fun J H1=>∀l,H1 l=none→
 ∃W:Nat→Nat→L2.St→Hp→Prop,(∃m,W 0 m (σC fr σ) (upd H1 l (.lst [])))∧∀i m σ H,W i m σ H→
  (J.stop i H∧Q (.ref l) H)∨(J.go i H∧∃N:L2.St→Hp→Prop,(∀σ' H',N σ' H'→∃m',m'<m∧W (i+1) m' σ' H')∧∀x H',J.lM i H x H'→
    g x σ H' fun σ2 H2=>c σ2 H2 fun b H3=>if b=true then te σ2 H3 fun y H4=>∃ys,H4 l=some (.lst ys)∧ys.length<sizeLine∧N σ2 (upd H4 l (.lst (ys++[y])))else N σ2 H3)
def mG(X:Cx)(ifs:List Expr)(t:TT):Prop:=
 ∀(pins:List (Addr×Obj)) (s:Shared) (σ:St) (H:Hp) (Q:Bool→Hp→Prop),Inv X pins σ H s→t σ H Q→
  wpAny (model X.prog X.w) X.A (forIn ifs true fun c r=>if r=true then do let ok ←isTrue c X.env (eval c X.env);pure (ForInStep.yield ok)else pure (ForInStep.yield r)) (TP X pins σ Q) X.xe s
def Fj:TT:=fun _ H Q=>Q true H
theorem BL{X:Cx}:mG X [] Fj:=fun _ _ _ H _ I h=>wpAny_tests_nil ⟨H,I,h⟩
theorem BK{X:Cx}{c:Expr}{t:TT}(h:PT X c t):mG X [c] t:=fun pins s σ H Q I q=>wpAny_tests_one (h pins s σ H Q I q)
section
variable {X:Cx}{scope:Scope}{Nc:List Str}{fr:List (Option Nat)}{pins:List (Addr×Obj)}{σ:St}{H:Hp}{s:Shared}
theorem B8{C:Addr}{fp:List Addr}(S:bj X scope Nc fr)(I:Inv X pins σ H s)(hC:C=s.heap.objs.size)(hf:∀b∈fp,iU X pins H b)(hlt:∀b∈fp,b<s.heap.objs.size)(hnc:∀b∈fp,∀x c,X.env.cells.lookup x=some c→c≠b):
 (eN X scope Nc C s H fp).Ok where
 mod:=I.ok.mod
 kind:=S.kind
 glob:=I.ok.glob
 blt:=I.ok.blt
 above:=Nat.le_of_eq hC.symm
 inj:=fun x y c h1 h2=>by
  have low:∀ {z},(cG X.env.cells scope.names []).lookup z=some c→c<s.heap.objs.size:=fun{z} hz=>by
   obtain⟨v,q⟩:=I.cell z c (cv _ [] (fun _ _ e=>by cases e) z c hz)
   exact q.lt
  rcases gz h1 with h1|h1<;>rcases gz h2 with h2|h2
  · exact own_apart h1 h2
  · have a:=jT (C:=C+1) (Nat.le_refl _) h1
    have b:c<C:=by rw[hC];exact low h2
    exact absurd a (Nat.not_le_of_gt (Nat.lt_succ_of_lt b))
  · have a:=jT (C:=C+1) (Nat.le_refl _) h2
    have b:c<C:=by rw[hC];exact low h1
    exact absurd a (Nat.not_le_of_gt (Nat.lt_succ_of_lt b))
  · exact I.ok.inj x y c (cv _ [] (fun _ _ e=>by cases e) x c h1) (cv _ [] (fun _ _ e=>by cases e) y c h2)
 has:=fun x hx=>by
  rcases sx hx with m|m
  · obtain⟨c,e⟩:=gj scope.names [] (I.ok.has x (S.free _ m rfl)) (.inl m)
    exact Option.isSome_iff_exists.mp (PySem.W.cellsFrom_some _ _ _ (.inr (by rw[e];rfl)))
  · exact Option.isSome_iff_exists.mp (PySem.W.cellsFrom_some _ _ _ (.inl m))
 sj:=fun x c hf h=>by
  have hl:scope.names.lookup x=some .cell:=by
   have:(scope.names.lookup x==some .cell)=true:=hf
   simpa using this
  obtain⟨c',e⟩:=Option.isSome_iff_exists.mp (PySem.W.cellsFrom_some (x:=x) scope.names (C+1) [] (.inl hl))
  have h':(cellsFrom (C+1) scope.names []++cG X.env.cells scope.names []).lookup x=some c:=by
   rw[←e_];exact h
  rcases lD h' with q|q
  · have:=jT (C:=C+1) (Nat.le_refl _) (PySem.mem_of_lookup q)
    show s.heap.objs.size≤c
    rw[←hC];exact Nat.le_of_succ_le this
  · rw[q.1]at e;cases e
 hd:=I.ok.hd
 frames:=I.ok.frames
 uH:= .inl rfl
 xM:=fun b hb=>⟨by rw[show(eN X scope Nc C s H fp).env.locals=s.heap.objs.size from hC];exact Nat.ne_of_lt (hlt b hb),fun x c h=>by
  rcases gz h with h|h
  · have a:=jT (C:=C+1) (Nat.le_refl _) h
    have b':b<C:=by rw[hC];exact hlt b hb
    exact Nat.ne_of_gt (Nat.lt_of_lt_of_le b' (Nat.le_of_succ_le a))
  · exact hnc b hb x c (cv _ [] (fun _ _ e=>by cases e) x c h)⟩
 bs:=I.bs
 my:=Nat.le_trans I.ok.my I.sz
 oi:=fun b o e hb=>by
  have hn:=(hf b hb).2.2.2.1
  rcases hn with hn|hn
  · exact I.ok.oi b o e hn
  · exact absurd (Heap.lt_size (I.ok.bs b o e).1) (Nat.not_lt.mpr hn)
 n_:=fun b hb z=>by
  have q:=I.uh b z
  rcases List.mem_cons.mp q with q|q
  · exact(hf b hb).2.1 q
  · exact(hf b hb).2.2.1 q
 ik:=I.stack
 oW:=fun b hb=>I.pN b hb
 gt:=I.ok.gt
theorem uS{i:Nat}{v:V}(h:(σC fr σ)[i]?=some (some v)):∃j,fr[i]?=some (some j)∧σ[j]?=some (some v):=by
 unfold σC at h
 rw[List.getElem?_map]at h
 cases q:fr[i]? with
 |none=>rw[q]at h;cases h
 |some o=>
  rw[q]at h
  cases o with
  |none=>simp at h
  |some j=>
   simp only[Option.map_some,Option.some.injEq,Option.bind_some]at h
   refine⟨j,rfl,?_⟩
   cases r:σ[j]? with
   |none=>rw[r]at h;cases h
   |some u=>rw[r]at h;simp at h;rw[h]
theorem yx{s':Shared}{h':Heap}{C:Addr}{fp:List Addr}{t':Nat}(S:bj X scope Nc fr)(I:Inv X pins σ H s)(hC:C=s.heap.objs.size)(ok:(eN X scope Nc C s H fp).Ok)(hfr:∀b∈fp,H b=none)
 (k:∀b o,s.heap.get? b=some o→h'.get? b=some o) (hn:h'.Ns C (fun _=>none)) (hcs:∀x c,(x,c)∈cellsFrom (C+1) scope.names []→h'.IsCell c none):Inv (eN X scope Nc C s H fp) [] (σC fr σ) H {s with heap:=h',toks:=t'} where
 ok:=ok
 os:=rfl
 bare:=I.bare
 base:=Un.kept k
 loc:=⟨_,hn,fun i x v h1 h2 h3=>by
  obtain⟨j,q1,q2⟩:=uS h2
  obtain⟨n1,n2,n3⟩:=S.map i j x h1 q1
  obtain⟨m,hm,hl⟩:=I.loc
  have vis:tj X.env.scope x:=by
   rcases n3 with z|z
   · exact .inr (.inl z)
   · exact .inr (.inr z)
  obtain⟨u,r,lk⟩:=hl j x v n1 q2 vis
  refine⟨u,r,?_⟩
  rcases lk with⟨z,_⟩|⟨z,c,e,ic⟩
  · rcases n3 with y|y
    · rw[y]at z;cases z
    · rw[y]at z;cases z
  · refine .inr ⟨rR n2,?_⟩
    obtain⟨c',e'⟩:=gj scope.names [] ⟨c,e⟩ (.inl (PySem.mem_of_lookup n2))
    have e2:=cv _ [] (fun _ _ e=>by cases e) x c' e'
    rw[e]at e2;cases e2
    refine⟨c,?_,ic.keeps k⟩
    show(jj scope C (cG X.env.cells scope.names [])).lookup x=some c
    unfold jj
    rw[e_,nA ?_]
    · exact e'
    · cases q:(cellsFrom (C+1) scope.names []).lookup x with
      |none=>rfl
      |some c2=>
       have:=S.cells _ (mm (PySem.mem_of_lookup q)) rfl
       rw[n2]at this;cases this⟩
 cell:=fun x c h=>by
  rcases gz h with h|h
  · exact⟨_,hcs x c h⟩
  obtain⟨v,q⟩:=I.cell x c (cv _ [] (fun _ _ e=>by cases e) x c h)
  exact⟨v,q.keeps k⟩
 free:=by show H C=none;rw[hC];exact I.aH.fresh (Nat.le_refl _)
 gd:=fun x c h=>by
  rcases gz h with h|h
  · have a:=jT (C:=C+1) (Nat.le_refl _) h
    exact I.aH.fresh (by rw[←hC];exact Nat.le_of_succ_le a)
  · exact I.gd x c (cv _ [] (fun _ _ e=>by cases e) x c h)
 pin:=fun p hp=>by cases hp
 aH:=I.aH.kept k
 len:=by unfold σC;rw[List.length_map];exact S.len
theorem Inv.forget{C:Addr}{h':Heap}(I:Inv X pins σ H s)(f:iU X pins H C)(hs:Heap.SameBut C s.heap h'):Inv X pins σ H {s with heap:=h'}:=by
 refine I.vz (s':={s with heap:=h'}) (ch:=[C]) rfl ?_ ?_ I.bare fun b hb=>?_
 · have ne:∀b,b∉[C]→b≠C:=fun b hb z=>hb (by simp[z])
   exact{keep:=fun b o q _ _ hx=>(hs.2 b (ne b hx)).trans q,slot:=fun b o q _ _ hx=>⟨o.slots,(hs.2 b (ne b hx)).trans q⟩,free:=fun b o q n _=>n,there:=fun b o q hx=>⟨o,(hs.2 b (ne b hx)).trans q⟩,kB:=fun _ _ e=>e,jX:=fun _ _ _ e=>e,j6:=fun b ps e=>⟨#[],by rw[e];simp⟩}
 · intro a o q
   have na:∀b u,H b=some u→b≠C:=fun b u q z=>by rw[z,f.1]at q;cases q
   refine(I.aH a o q).ky (fun b u hb e=>?_) (fun _ q=>q) fun _ _ q=>q
   rw[hs.2 b ?_]
   · exact e
   · rcases hb with rfl|hb
     · exact na _ _ q
     · exact na _ _ hb
 · have:b=C:=by simpa using hb
   subst this
   exact⟨f.2.2.2.1,f.2.1,f.2.2.2.2.1,f.2.2.2.2.2⟩
theorem pf{elt tg iter:Expr}{ifs:List Expr}{wi:TI}{g:TG}{c:TT}{te:TE}{pos:Pos}{Q:VK}{RR:Value→Addr→Result→Shared→Prop}(hx:X.xe=fun _ _=>False)(hc:X.calm=true)(S:bj X scope Nc fr)(hi:PI X tg iter wi)
 (hg:∀C s H ex,PG (eN X scope Nc C s H ex) tg g) (ht:∀C s H ex,mG (eN X scope Nc C s H ex) ifs c) (he:∀C s H ex,PE (eN X scope Nc C s H ex) elt te) (I:Inv X pins σ H s) (h:oG wi fr g c te σ H Q)
 (fin:∀(l C:Addr) (s6:Shared) (H5:Hp) (m:Str→Option Value),s6.heap.Ns C m→iU X pins H5 C→Inv X pins σ H5 s6→Q (.ref l) H5→RR (.ref l) C (.ok .next) s6):
 wpAny (model X.prog X.w) X.A (eval iter X.env) (fun x s₁=>wpAny (model X.prog X.w) X.A (pyIter x) (fun it s₂=>wpAny (model X.prog X.w) X.A (newList []) (fun acc s₃=>
  wpAny (model X.prog X.w) X.A (newFunctionEnv scope X.env.globals (cG X.env.cells scope.names []) [] X.env.qual none .none (some X.env)) (fun cenv s₄=>
   codeAny (model X.prog X.w) X.A (.compStart (.ListComp elt [⟨tg,iter,ifs,0⟩] scope pos) 0 it acc {cenv with scope:=relabel scope X.env}) (RR acc cenv.locals) s₄) X.xe s₃) X.xe s₂) X.xe s₁) X.xe s:=by
 refine bF (hi pins s σ H _ I h) fun v s1 h1=>bF h1 fun itv s2 h2=>?_
 obtain⟨it,fp,tn,J,H2,e,I2,T,st2,f2,hR⟩:=h2
 subst e
 refine wpAny_newList ?_ (Nat.zero_le _)
 have I3:=I2.yv (t':=s2.toks) (its:=[]) (ys:=[]) .nil (Nat.zero_le _)
 generalize e3:({s2 with heap:=s2.heap.push {cls:= .type "list",data:= .seq ([]:List Value).toArray}}:Shared)=s3
 have I3:Inv X pins σ (upd H2 s2.heap.objs.size (.lst [])) s3:=by rw[←e3];exact I3
 have ml:s2.heap.objs.size<s3.heap.objs.size:=by rw[←e3];show _<(s2.heap.push _).objs.size;rw[Heap.size_push];omega
 have k3:∀b o,s2.heap.get? b=some o→s3.heap.get? b=some o:=fun b o q=>by rw[←e3];exact Heap.get?_push_of_some _ q
 obtain⟨W,⟨m0,w0⟩,turn⟩:=hR s2.heap.objs.size (I2.aH.fresh (Nat.le_refl _))
 refine ot ?_
 have hn:(pushCells (s3.heap.push {cls:= .type "dict",data:= .dict #[]}) scope.names).Ns s3.heap.objs.size (fun _=>none):=(Heap.Ns.new s3.heap (.type "dict")).keeps (pushCells_keeps _ _)
 have hcs:∀x c,(x,c)∈cellsFrom (s3.heap.objs.size+1) scope.names []→(pushCells (s3.heap.push {cls:= .type "dict",data:= .dict #[]}) scope.names).IsCell c none:=fun x c h=>((CC scope.names _ (Heap.size_push ..)).empty x c h).1
 have k4:∀b o,s3.heap.get? b=some o→(pushCells (s3.heap.push {cls:= .type "dict",data:= .dict #[]}) scope.names).get? b=some o:=fun b o q=>pushCells_keeps _ _ b o (Heap.get?_push_of_some _ q)
 generalize(pushCells (s3.heap.push {cls:= .type "dict",data:= .dict #[]}) scope.names)=h' at hn hcs k4⊢
 have hobj:∀b∈fp,∃o,s2.heap.get? b=some o∧∀v,o.data≠ .cell v:=T.obj _ _ st2
 have hlt2:∀b∈fp,b<s3.heap.objs.size:=fun b hb=>let⟨o,q,_⟩:=hobj b hb;Heap.lt_size (k3 b o q)
 have hnl:∀b∈fp,b≠s2.heap.objs.size:=fun b hb=>by
  obtain⟨o,q,_⟩:=hobj b hb
  exact Nat.ne_of_lt (Heap.lt_size q)
 have f3:∀b∈fp,iU X pins (upd H2 s2.heap.objs.size (.lst [])) b:=fun b hb=>⟨by rw[aB (hnl b hb)];exact(f2 b hb).1,(f2 b hb).2⟩
 have ok:=B8 (C:=s3.heap.objs.size) (fp:=fp) S I3 rfl f3 hlt2 fun b hb=>(f2 b hb).2.2.2.2.1
 have I4:Inv (eN X scope Nc s3.heap.objs.size s3 (upd H2 s2.heap.objs.size (.lst [])) fp) [] (σC fr σ) (upd H2 s2.heap.objs.size (.lst [])) {s3 with heap:=h',toks:=s3.toks}:=
  yx (s':=s3) S I3 rfl ok (fun b hb=>(f3 b hb).1) k4 hn hcs
 have st4:tn 0 h':=T.keep _ _ _ st2 fun b _ o q=>k4 b o (k3 b o q)
 generalize hXc:eN X scope Nc s3.heap.objs.size s3 (upd H2 s2.heap.objs.size (.lst [])) fp=Xc at I4
 have hgc:PG Xc tg g:=by rw[←hXc];exact hg _ _ _ _
 have htc:mG Xc ifs c:=by rw[←hXc];exact ht _ _ _ _
 have hec:PE Xc elt te:=by rw[←hXc];exact he _ _ _ _
 have xP:Xc.prog=X.prog:=by rw[←hXc];rfl
 have xW:Xc.w=X.w:=by rw[←hXc];rfl
 have xK:Xc.K=X.K:=by rw[←hXc];rfl
 have xc:Xc.calm=true:=by rw[←hXc];exact hc
 have xA:Xc.A=X.A:=by rw[←hXc];rfl
 have xE:Xc.env=compEnvC scope (jj scope s3.heap.objs.size (cG X.env.cells scope.names [])) s3.heap.objs.size X.env:=by rw[←hXc];rfl
 have xx:Xc.xe=fun _ _=>False:=by rw[←hXc];rfl
 have fpc:∀ {H':Hp},(∀b∈fp,H' b=none)→∀b∈fp,iU Xc [] H' b:=fun{H'} hn b hb=>by
  rw[←hXc]
  refine⟨hn b hb,Nat.ne_of_lt (hlt2 b hb),ok.n_ b hb,.inl hb,(ok.xM b hb).2,fun p hp=>by cases hp⟩
 have loop:codeAny (model X.prog X.w) X.A (.compLoop (.ListComp elt [⟨tg,iter,ifs,0⟩] scope pos) 0 (.ref it) (.ref s2.heap.objs.size) (compEnvC scope (jj scope s3.heap.objs.size (cG X.env.cells scope.names [])) s3.heap.objs.size X.env))
  (RR (.ref s2.heap.objs.size) s3.heap.objs.size) {s3 with heap:=h',toks:=s3.toks}:=by
  refine uq (fun n s'=>∃i σ' H',Inv Xc [] σ' H' s'∧tn i s'.heap∧(∀b∈fp,H' b=none)∧W i n σ' H') ?_ m0 ⟨0,_,_,I4,st4,fun b hb=>(f3 b hb).1,w0⟩
  rintro n s5 ⟨i,σ5,H5,I5,st5,fr5,w5⟩
  rcases turn i n σ5 H5 w5 with⟨stop,qn⟩|⟨go,N,hN,step⟩
  · have q:=T.done Xc xP xW xK xc i [] s5 σ5 H5 (fun _ _=>False) I5 (fpc fr5) st5 stop
    rw[xA]at q
    refine bF q fun r s6 ⟨hr,I6⟩=>?_
    subst hr
    obtain⟨m,hm,_⟩:=I6.loc
    rw[xE]at hm
    have free6:H5 s3.heap.objs.size=none:=by have:=I6.free;rw[xE]at this;exact this
    have un6:Un (kI X.stack) fp (upd H2 s2.heap.objs.size (.lst [])) H5 s3.heap s6.heap:=by have:=I6.base;rw[←hXc]at this;exact this
    have os6:s6.os=s3.os:=by have:=I6.os;rw[←hXc]at this;exact this
    have hok6:fS X.prog X.w H5 s6.heap:=by have:=I6.aH;rw[xP,xW]at this;exact this
    have J:=I3.vz (s':=s6) (ch:=fp) os6 un6 hok6 I6.bare fun b hb=>⟨(f3 b hb).2.2.2.1,(f3 b hb).2.1,(f3 b hb).2.2.2.2.1,(f3 b hb).2.2.2.2.2⟩
    exact fin _ _ s6 H5 m hm (I3.se (Nat.le_refl _) free6) J qn
  · have q:=T.item Xc xP xW xK xc i [] s5 σ5 H5 (fun _ _=>False) I5 (fpc fr5) st5 go
    rw[xA]at q
    refine bF q fun r s6 ⟨u,hr,h6⟩=>?_
    subst hr
    refine bF h6 fun _ s7 ⟨x,H7,I7,r7,y7,st7,fr7⟩=>?_
    have I7':=I7.pinned (fpc fr7) (T.obj _ _ st7)
    have q8:=hgc _ s7 σ5 H7 x u _ I7' r7 (step x H7 y7)
    rw[xP,xW,xA,xE,xx]at q8
    refine bF q8 fun _ s8 ⟨σ8,H8,I8,q8⟩=>?_
    have q9:=htc _ s8 σ8 H8 _ I8 q8
    rw[xP,xW,xA,xE,xx]at q9
    refine bF q9 fun b s9 ⟨H9,I9,q9⟩=>?_
    have again:∀ {H':Hp} {s':Shared},Inv Xc ([]++mE fp s7.heap) σ8 H' s'→N σ8 H'→∃m,m<n∧∃i σ' H',Inv Xc [] σ' H' s'∧tn i s'.heap∧(∀b∈fp,H' b=none)∧W i m σ' H':=fun{H' s'} J nn=>by
     obtain⟨m',hm,w7⟩:=hN σ8 H' nn
     refine⟨m',hm,i+1,σ8,H',J.fL,T.keep _ _ _ st7 fun b hb o e=>(J.pin (b,o) (List.mem_append_right _ (List.mem_append_right _ (jA hb e)))).1,fun b hb=>?_,w7⟩
     obtain⟨o,e,d⟩:=T.obj _ _ st7 b hb
     exact(J.pin (b,o) (List.mem_append_right _ (List.mem_append_right _ (jA hb e)))).2.1
    cases b with
    |false=>exact again I9 q9
    |true=>
     have qe:=hec _ s9 σ8 H9 _ I9 q9
     rw[xP,xW,xA,xE,xx]at qe
     refine bF qe fun y s10 ⟨vy,H10,I10,ry,ys,hy,hlt,qN⟩=>?_
     have qa:=qr (X:=Xc) _ s10 σ8 H10 (.ref s2.heap.objs.size) [vy] (.ref s2.heap.objs.size) [y] (fun _ H'=>N σ8 H') I10 rfl (.cons ry .nil) ⟨_,ys,vy,rfl,rfl,hy,hlt,qN⟩
     rw[xP,xW,xA,xx]at qa
     exact bF qa fun _ s11 ⟨_,H11,I11,_,q11⟩=>again I11 q11
 refine codeAny_compStart_list ?_ ?_
 · exact loop
 · exact T.self _ 0 _ _ _ st4 loop
theorem vk{elt tg iter:Expr}{ifs:List Expr}{wi:TI}{g:TG}{c:TT}{te:TE}{pos:Pos}(hx:X.xe=fun _ _=>False)(hc:X.calm=true)(S:bj X scope Nc fr)(hi:PI X tg iter wi)
 (hg:∀C s H ex,PG (eN X scope Nc C s H ex) tg g) (ht:∀C s H ex,mG (eN X scope Nc C s H ex) ifs c) (he:∀C s H ex,PE (eN X scope Nc C s H ex) elt te)
 (hs:∀x,foldedSetIterable iter X.env x=pure x:=by intro _;rfl):PE X (.ListComp elt [⟨tg,iter,ifs,0⟩] scope pos) (oG wi fr g c te):=by
 intro pins s σ H Q I h
 rw[eval_ListComp]
 have hcl:closureFor scope X.env=pure (cG X.env.cells scope.names []):=jq fun x hx hk=>I.ok.has x.1 (S.free x hx hk)
 refine wpAny_comprehension_free rfl hs hcl S.kind S.names ?_
 exact pf (RR:=fun acc C=>compPost (model X.prog X.w) X.A X.xe none (EP X pins σ Q) acc C) hx hc S hi hg ht he I h fun l C s6 H5 m hm f J q=>⟨m,hm,fun h'' hs''=>⟨.ref l,H5,Inv.forget J f hs'',rfl,q⟩⟩
theorem AW{elt tg iter:Expr}{ifs:List Expr}{wi:TI}{g:TG}{c:TT}{te:TE}{pos pos' spos:Pos}{i:Nat}{x:Str}(hx:X.xe=fun _ _=>False)(hc:X.calm=true)(S:bj X scope Nc fr)(hi:PI X tg iter wi)
 (hg:∀C s H ex,PG (eN X scope Nc C s H ex) tg g) (ht:∀C s H ex,mG (eN X scope Nc C s H ex) ifs c) (he:∀C s H ex,PE (eN X scope Nc C s H ex) elt te) (hN:X.N.Nodup) (hni:X.N[i]?=some x) (hl:Loc X.env.scope x) (hf:X.fn x=true∨X.env.scope.names.lookup x=some .local)
 (hsw:swapsWith (.ListComp elt [⟨tg,iter,ifs,0⟩] scope pos) (some (.Name x pos')) spos.line X.env=pure true)
 (hs:∀x,foldedSetIterable iter X.env x=pure x:=by intro _;rfl):PS X (.Assign [.Name x pos'] (.ListComp elt [⟨tg,iter,ifs,0⟩] scope pos) spos) (kG (oG wi fr g c te) (g9 i)):=by
 intro pins s σ H D I h
 have hcl:closureFor scope X.env=pure (cG X.env.cells scope.names []):=jq fun x hx hk=>I.ok.has x.1 (S.free x hx hk)
 rw[exec_Assign_Name_used _ _ _ _ hsw]
 refine wpAny_bind (wpAny_standAt (wpAny_bind ?_))
 show wpAny _ X.A (do let _ ←comprehension (.ListComp elt [⟨tg,iter,ifs,0⟩] scope pos) scope X.env _ (newList []) false (eval iter X.env) (some (assign (.Name x pos') X.env))) _ _ s
 refine wpAny_bind (wpAny_mono (wpAny_comprehension_free (use:=some (assign (.Name x pos') X.env)) (Q:=fun _ s'=>SP X pins D .next s') rfl hs hcl S.kind S.names
  (pf (RR:=fun acc C=>compPost (model X.prog X.w) X.A X.xe (some (assign (.Name x pos') X.env)) (fun _ s'=>SP X pins D .next s') acc C) hx hc S hi hg ht he I h fun l C s6 H5 m hm f J q=>?_)) (fun _ s' hq=>wpAny_pure (wpAny_pure hq)) fun _ _ e=>e)
 show wpAny _ X.A (assign (.Name x pos') X.env (.ref l)) _ _ _
 refine wpAny_assign_Name (ql J hN hni hl (show RelV (.ref l) (.ref l)from rfl) (fun s7 J7 hch=>?_) hf)
 obtain⟨a,hsame,ha⟩:=hch
 have hCa:C≠a:=by
  rcases ha with rfl|ha
  · exact f.2.1
  · exact fun z=>f.2.2.2.2.1 x a ha z.symm
 refine⟨m,hm.sameBut hsame hCa,fun h'' hs''=>⟨σ.set i (some (.ref l)),H5,Inv.forget J7 f hs'',q⟩⟩
end
end L3
namespace L3
open PySem PySem.Spec L2
open PyProof.Rows hiding St
inductive D where
 |aA|bl (b:Bool)|int (i:Int)|str (x:Str)|ty (n:String)|ref (n:Nat)|lst (xs:List D)|tup (xs:List D)
inductive Cell where
 |lst (xs:List D)|ins (C:Addr) (fs:List (Str×D))|dead
  |tab (P:Addr) (pos:Pos) (qual:Str) (b:Bool)
abbrev ae:=List Cell
abbrev bH:=List (Option D)
mutual
def Rep(α:List (Option Addr))(H:Hp):D→V→Prop
 | .aA,v=>v= .aA
 | .bl b,v=>v= .bl b
 | .int i,v=>v= .int i
 | .str x,v=>v= .str x
 | .ty n,v=>v= .ty n
 | .ref n,v=>α[n]?=some none∨∃a,α[n]?=some (some a)∧v= .ref a
 | .lst xs,v=>∃a vs,v= .ref a∧some a∉α∧Rd H a (.lst vs)∧ay α H xs vs
 | .tup xs,v=>∃a vs,v= .ref a∧some a∉α∧H a=some (.tup vs)∧ay α H xs vs
def ay(α:List (Option Addr))(H:Hp):List D→List V→Prop
 | [],vs=>vs=[]
 |d::ds,vs=>∃v r,vs=v::r∧Rep α H d v∧ay α H ds r
end
theorem bg{α:List (Option Addr)}{H:Hp}:∀ {ds:List D} {vs:List V},ay α H ds vs↔Paired (Rep α H) ds vs
 | [],vs=>by
   unfold ay
   constructor
   · rintro rfl;exact .nil
   · intro h;cases h;rfl
 |d::ds,vs=>by
  unfold ay
  constructor
  · rintro⟨v,r,rfl,h1,h2⟩;exact .cons h1 (bg.mp h2)
  · intro h;cases h with|cons h1 h2=>exact⟨_,_,rfl,h1,bg.mpr h2⟩
section
variable {α:List (Option Addr)}{H:Hp}
theorem ay.length{ds:List D}{vs:List V}(h:ay α H ds vs):ds.length=vs.length:=Paired.length (bg.mp h)
theorem oQ{A B:Type}{F:A→B→Prop}:∀ {xs:List A} {ys:List B} {i:Nat} {x:A},Paired F xs ys→xs[i]?=some x→∃y,ys[i]?=some y∧F x y
 |_,_,_,_,.nil,e=>by simp at e
 |_,_,0,_,.cons r _,e=>by simp at e;subst e;exact⟨_,rfl,r⟩
 |_,_,i+1,x,.cons _ t,e=>by
  obtain⟨u,h1,h2⟩:=oQ (i:=i) (x:=x) t (by simpa using e)
  exact⟨u,by simpa using h1,h2⟩
theorem eZ{A B:Type}{F:A→B→Prop}:∀ {xs xs':List A} {ys ys':List B},Paired F xs ys→Paired F xs' ys'→Paired F (xs++xs') (ys++ys')
 |_,_,_,_,.nil,s=>s
 |_,_,_,_,.cons r t,s=> .cons r (eZ t s)
theorem nK{A B:Type}{F:A→B→Prop}:∀ {xs:List A} {ys:List B} (n:Nat),Paired F xs ys→Paired F (xs.take n) (ys.take n)
 |_,_,0,_=> .nil
 |_,_,_+1,.nil=> .nil
 |_,_,n+1,.cons r t=> .cons r (nK n t)
theorem nD{A B:Type}{F:A→B→Prop}:∀ {xs:List A} {ys:List B} (n:Nat),Paired F xs ys→Paired F (xs.drop n) (ys.drop n)
 |_,_,0,r=>r
 |_,_,_+1,.nil=> .nil
 |_,_,n+1,.cons _ t=>nD n t
theorem pA{A B:Type}{F:A→B→Prop}{x:A}{y:B}(r:F x y):∀ {xs:List A} {ys:List B} (i:Nat),Paired F xs ys→Paired F (xs.set i x) (ys.set i y)
 |_,_,_,.nil=> .nil
 |_,_,0,.cons _ t=> .cons r t
 |_,_,i+1,.cons q t=> .cons q (pA r i t)
theorem kC{A B:Type}{F:A→B→Prop}{xs:List A}{ys:List B}(h:Paired F xs ys):∀k:Nat,Paired F (List.replicate k xs).flatten (List.replicate k ys).flatten
 |0=> .nil
 |k+1=>by
  rw[List.replicate_succ,List.replicate_succ,List.flatten_cons,List.flatten_cons]
  exact eZ h (kC h k)
theorem ay.get{ds:List D}{vs:List V}{i:Nat}{d:D}(h:ay α H ds vs)(e:ds[i]?=some d):∃v,vs[i]?=some v∧Rep α H d v:=oQ (bg.mp h) e
end
structure Step(α:List (Option Addr))(H:Hp)(α':List (Option Addr))(H':Hp):Prop where
 ext:∀b o,some b∉α→H b=some o→H' b=some o
 pre:∀(n:Nat) (x:Option Addr),α[n]?=some x→α'[n]?=some x∨α'[n]?=some none
 new:∀b,some b∈α'→some b∉α→H b=none
theorem Step.refl{α:List (Option Addr)}{H:Hp}:Step α H α H:=⟨fun _ _ _ h=>h,fun _ _ h=> .inl h,fun _ h n=>absurd h n⟩
theorem Step.trans{α α1 α2:List (Option Addr)}{H H1 H2:Hp}(a:Step α H α1 H1)(b:Step α1 H1 α2 H2):Step α H α2 H2 where
 ext:=fun c o hc e=>b.ext c o (fun z=>by rw[a.new c z hc]at e;cases e) (a.ext c o hc e)
 pre:=fun n x e=>by
  rcases a.pre n x e with h|h
  · exact b.pre n x h
  · rcases b.pre n none h with h'|h'
    · exact .inr h'
    · exact .inr h'
 new:=fun c hc n=>by
  by_cases h1:some c∈α1
  · exact a.new c h1 n
  · have:=b.new c hc h1
    cases q:H c with
    |none=>rfl
    |some o=>rw[a.ext c o n q]at this;cases this
theorem Step.laid{α:List (Option Addr)}{H:Hp}{p:Addr}{o:HO}(h:H p=none):Step α H α (upd H p o):=
 ⟨fun b u _ e=>by rw[aB (cQ e h)];exact e,fun _ _ h=> .inl h,fun _ h n=>absurd h n⟩
theorem Step.cell{α:List (Option Addr)}{H:Hp}{p:Addr}{o:HO}(h:H p=none):Step α H (α++[some p]) (upd H p o):=
 ⟨fun b u _ e=>by rw[aB (cQ e h)];exact e,fun n x e=> .inl (by rw[List.getElem?_append_left (List.getElem?_eq_some_iff.mp e).1];exact e),fun b hb n=>by
  rcases List.mem_append.mp hb with z|z
  · exact absurd z n
  · have:b=p:=by simpa using z
    subst this;exact h⟩
theorem Step.write{α:List (Option Addr)}{H:Hp}{p:Addr}{o:HO}(h:some p∈α):Step α H α (upd H p o):=
 ⟨fun b u n e=>by rw[aB (fun z=>by subst z;exact n h)];exact e,fun _ _ h=> .inl h,fun _ h n=>absurd h n⟩
mutual
theorem Rep.step{α α':List (Option Addr)}{H H':Hp}(s:Step α H α' H'):∀ {d:D} {v:V},Rep α H d v→Rep α' H' d v
 | .aA,_,h=>by unfold Rep at h⊢;exact h
 | .bl _,_,h=>by unfold Rep at h⊢;exact h
 | .int _,_,h=>by unfold Rep at h⊢;exact h
 | .str _,_,h=>by unfold Rep at h⊢;exact h
 | .ty _,_,h=>by unfold Rep at h⊢;exact h
 | .ref n,_,h=>by
   unfold Rep at h⊢
   rcases h with h|⟨a,e,r⟩
   · rcases s.pre _ _ h with z|z<;>exact .inl z
   · rcases s.pre _ _ e with z|z
     · exact .inr ⟨a,z,r⟩
     · exact .inl z
 | .lst xs,_,h=>by
   unfold Rep at h⊢
   obtain⟨a,vs,e,n,r,q⟩:=h
   refine⟨a,vs,e,fun z=>?_,?_,ay.step s q⟩
   · have:=s.new a z n
     rcases r with r|⟨o,r⟩<;>(rw[this]at r;cases r)
   · rcases r with r|⟨o,r⟩
     · exact .inl (s.ext _ _ n r)
     · exact .inr ⟨o,s.ext _ _ n r⟩
 | .tup xs,_,h=>by
   unfold Rep at h⊢
   obtain⟨a,vs,e,n,r,q⟩:=h
   exact⟨a,vs,e,(fun z=>by rw[s.new a z n]at r;exact nomatch r),s.ext _ _ n r,ay.step s q⟩
theorem ay.step{α α':List (Option Addr)}{H H':Hp}(s:Step α H α' H'):∀ {ds:List D} {vs:List V},ay α H ds vs→ay α' H' ds vs
 | [],_,h=>by unfold ay at h⊢;exact h
 |d::ds,_,h=>by
  unfold ay at h⊢
  obtain⟨v,r,e,h1,h2⟩:=h
  exact⟨v,r,e,Rep.step s h1,ay.step s h2⟩
end
structure bJ(G F H:Hp):Prop where
 eq:∀b,H b=(G b).or (F b)
 tR:∀b o,G b=some o→F b=none
section
variable {G F H:Hp}
theorem bJ.get(P:bJ G F H){b:Addr}{o:HO}(h:G b=some o):H b=some o:=by rw[P.eq b,h];rfl
theorem bJ.same(P:bJ G F H):zA G H:=fun _ _ h=>P.get h
theorem bJ.none(P:bJ G F H){b:Addr}(h:H b=none):G b=none∧F b=none:=by
 have e:=P.eq b
 rw[h]at e
 cases q:G b with
 |none=>rw[q]at e;exact⟨rfl,e.symm⟩
 |some o=>rw[q]at e;cases e
theorem bJ.frame(P:bJ G F H){b:Addr}{o:HO}(h:F b=some o):H b=some o∧G b=Option.none:=by
 have hn:G b=Option.none:=by
  cases q:G b with
  |none=>rfl
  |some u=>rw[P.tR b u q]at h;cases h
 exact⟨by rw[P.eq b,hn,h];rfl,hn⟩
theorem bJ.laid(P:bJ G F H){p:Addr}{o:HO}(h:H p=Option.none):bJ (upd G p o) F (upd H p o):=by
 obtain⟨h1,h2⟩:=P.none h
 refine⟨fun b=>?_,fun b u e=>?_⟩
 · by_cases hb:b=p
   · subst hb;rw[aT,aT];rfl
   · rw[aB hb,aB hb];exact P.eq b
 · by_cases hb:b=p
   · subst hb;exact h2
   · rw[aB hb]at e;exact P.tR b u e
theorem bJ.write(P:bJ G F H){p:Addr}{o o':HO}(h:G p=some o):bJ (upd G p o') F (upd H p o'):=by
 refine⟨fun b=>?_,fun b u e=>?_⟩
 · by_cases hb:b=p
   · subst hb;rw[aT,aT];rfl
   · rw[aB hb,aB hb];exact P.eq b
 · by_cases hb:b=p
   · subst hb;exact P.tR b o h
   · rw[aB hb]at e;exact P.tR b u e
theorem bJ.hide(P:bJ G F H){p:Addr}{o:HO}(h:H p=Option.none):bJ G (upd F p o) (upd H p o):=by
 obtain⟨h1,h2⟩:=P.none h
 refine⟨fun b=>?_,fun b u e=>?_⟩
 · by_cases hb:b=p
   · subst hb;rw[aT,aT,h1];rfl
   · rw[aB hb,aB hb];exact P.eq b
 · by_cases hb:b=p
   · subst hb;rw[h1]at e;cases e
   · rw[aB hb];exact P.tR b u e
theorem bJ.Hv(P:bJ G F H){p:Addr}{o o':HO}(h:F p=some o):bJ G (upd F p o') (upd H p o'):=by
 have h1:=(P.frame h).2
 refine⟨fun b=>?_,fun b u e=>?_⟩
 · by_cases hb:b=p
   · subst hb;rw[aT,aT,h1];rfl
   · rw[aB hb,aB hb];exact P.eq b
 · by_cases hb:b=p
   · subst hb;rw[h1]at e;cases e
   · rw[aB hb];exact P.tR b u e
theorem bJ.show{p:Addr}{o:HO}(P:bJ G (upd F p o) H)(h:F p=Option.none):bJ (upd G p o) F H:=by
 have h1:=(P.frame (b:=p) aT)
 refine⟨fun b=>?_,fun b u e=>?_⟩
 · by_cases hb:b=p
   · subst hb;rw[aT,h1.1];rfl
   · rw[aB hb,P.eq b,aB hb]
 · by_cases hb:b=p
   · subst hb;exact h
   · rw[aB hb]at e
     have:=P.tR b u e
     rw[aB hb]at this;exact this
end
mutual
theorem Rep.mono{α:List (Option Addr)}{G H:Hp}(s:zA G H):∀ {d:D} {v:V},Rep α G d v→Rep α H d v
 | .aA,_,h=>by unfold Rep at h⊢;exact h
 | .bl _,_,h=>by unfold Rep at h⊢;exact h
 | .int _,_,h=>by unfold Rep at h⊢;exact h
 | .str _,_,h=>by unfold Rep at h⊢;exact h
 | .ty _,_,h=>by unfold Rep at h⊢;exact h
 | .ref n,_,h=>by unfold Rep at h⊢;exact h
 | .lst xs,_,h=>by
   unfold Rep at h⊢
   obtain⟨a,vs,e,n,r,q⟩:=h
   refine⟨a,vs,e,n,?_,ay.mono s q⟩
   rcases r with r|⟨o,r⟩
   · exact .inl (s _ _ r)
   · exact .inr ⟨o,s _ _ r⟩
 | .tup xs,_,h=>by
   unfold Rep at h⊢
   obtain⟨a,vs,e,n,r,q⟩:=h
   exact⟨a,vs,e,n,s _ _ r,ay.mono s q⟩
theorem ay.mono{α:List (Option Addr)}{G H:Hp}(s:zA G H):∀ {ds:List D} {vs:List V},ay α G ds vs→ay α H ds vs
 | [],_,h=>by unfold ay at h⊢;exact h
 |d::ds,_,h=>by
  unfold ay at h⊢
  obtain⟨v,r,e,h1,h2⟩:=h
  exact⟨v,r,e,Rep.mono s h1,ay.mono s h2⟩
end
def hO(α:List (Option Addr))(H:Hp):List (Str×D)→List (Str×V)→Prop:=Paired fun p q=>p.1=q.1∧Rep α H p.2 q.2
def iI(α:List (Option Addr))(H:Hp)(a:Addr):Cell→Prop
 | .lst xs=>∃vs,H a=some (.lst vs)∧ay α H xs vs
 | .ins C fs=>∃dx vs,H a=some (.ins C dx vs)∧hO α H fs vs
 | .dead=>False
 | .tab P pos qual b=>a=P∧∃ps:Array Value,H a=some (.h_ ps)∧TriplesOk ps.toList∧
    ((b=false∧codeAmong pos ps.toList=none)∨(b=true∧∃c o vs t,codeAmong pos ps.toList=some (.ref c)∧some c∉α∧H c=some (.fo o (.own c))∧o.data= .fields vs∧vs[1]?=some (.str qual t)))
structure aL(α:List (Option Addr))(st:ae)(H:Hp):Prop where
 len:α.length=st.length
 nd:∀(i j:Nat) (a:Addr),α[i]?=some (some a)→α[j]?=some (some a)→i=j
 at':∀(n:Nat) (c:Cell),st[n]?=some c→(c= .dead∧α[n]?=some none)∨∃a,α[n]?=some (some a)∧iI α H a c
theorem hO.step{α α':List (Option Addr)}{H H':Hp}(s:Step α H α' H'){ds:List (Str×D)}{vs:List (Str×V)}(h:hO α H ds vs):hO α' H' ds vs:=Paired.yt h fun _ _ z=>⟨z.1,z.2.step s⟩
theorem iI.same{α α':List (Option Addr)}{H H':Hp}{a:Addr}{c:Cell}(s:Step α H α' H')(e:H' a=H a)(h:iI α H a c):iI α' H' a c:=by
 cases c with
 |lst xs=>obtain⟨vs,h1,h2⟩:=h;exact⟨vs,e.trans h1,h2.step s⟩
 |ins C fs=>obtain⟨dx,vs,h1,h2⟩:=h;exact⟨dx,vs,e.trans h1,h2.step s⟩
 |dead=>exact h.elim
 |tab P pos qual b=>
  obtain⟨z,ps,h1,h2,h3⟩:=h
  refine⟨z,ps,e.trans h1,h2,?_⟩
  rcases h3 with h3|⟨hb,c,o,vs,t,q1,q2,q3,q4⟩
  · exact .inl h3
  · exact .inr ⟨hb,c,o,vs,t,q1,(fun y=>by rw[s.new c y q2]at q3;cases q3),s.ext c _ q2 q3,q4⟩
theorem iI.some{α:List (Option Addr)}{H:Hp}{a:Addr}{c:Cell}(h:iI α H a c):∃o,H a=some o:=by
 cases c with
 |lst xs=>obtain⟨vs,h1,h2⟩:=h;exact⟨_,h1⟩
 |ins C fs=>obtain⟨dx,vs,h1,h2⟩:=h;exact⟨_,h1⟩
 |dead=>exact h.elim
 |tab P pos qual b=>obtain⟨_,ps,h1,_⟩:=h;exact⟨_,h1⟩
theorem dA{α:List (Option Addr)}{H:Hp}{n:Nat}{v:V}{a:Addr}(e:α[n]?=Option.some (Option.some a))(r:Rep α H (.ref n) v):v= .ref a:=by
 unfold Rep at r
 rcases r with r|⟨b,eb,rfl⟩
 · rw[e]at r;cases r
 · rw[e]at eb;cases eb;rfl
section
variable {α:List (Option Addr)}{st:ae}{H:Hp}
theorem aL.f_(S:aL α st H){n:Nat}{xs:List D}(e:st[n]?=Option.some (.lst xs)):∃a,α[n]?=Option.some (Option.some a)∧∃vs,H a=Option.some (.lst vs)∧ay α H xs vs:=by
 rcases S.at' n _ e with⟨z,_⟩|z
 · cases z
 · exact z
theorem aL.rB(S:aL α st H){n:Nat}{C:Addr}{fs:List (Str×D)}(e:st[n]?=Option.some (.ins C fs)):∃a,α[n]?=Option.some (Option.some a)∧∃dx vs,H a=Option.some (.ins C dx vs)∧hO α H fs vs:=by
 rcases S.at' n _ e with⟨z,_⟩|z
 · cases z
 · exact z
theorem aL.mem(S:aL α st H){a:Addr}(h:Option.some a∈α):∃(n:Nat) (c:Cell),α[n]?=Option.some (Option.some a)∧st[n]?=Option.some c∧iI α H a c:=by
 obtain⟨n,hn,e⟩:=List.mem_iff_getElem.mp h
 have hl:n<st.length:=by rw[←S.len];exact hn
 have e':α[n]?=Option.some (Option.some a):=by rw[List.getElem?_eq_getElem hn,e]
 rcases S.at' n st[n] (by simp[hl])with⟨_,q⟩|⟨a',q,ca⟩
 · rw[e']at q;cases q
 · rw[e']at q;cases q
   exact⟨n,_,e',by simp[hl],ca⟩
theorem aL.i_(S:aL α st H){p:Addr}(h:H p=none):Option.some p∉α:=fun z=>by
 obtain⟨n,c,_,_,ca⟩:=S.mem z
 obtain⟨o,e⟩:=ca.some
 rw[h]at e;cases e
theorem aL.laid(S:aL α st H){p:Addr}{o:HO}(h:H p=none):aL α st (upd H p o):=
 ⟨S.len,S.nd,fun n c e=>by
  rcases S.at' n c e with z|⟨a,q,ca⟩
  · exact .inl z
  · exact .inr ⟨a,q,ca.same (Step.laid h) (aB (by obtain⟨u,z⟩:=ca.some;exact cQ z h))⟩⟩
theorem aL.cell(S:aL α st H){p:Addr}{o:HO}{c:Cell}(h:H p=none)(hc:iI (α++[Option.some p]) (upd H p o) p c):aL (α++[Option.some p]) (st++[c]) (upd H p o) where
 len:=by rw[List.length_append,List.length_append,S.len];rfl
 nd:=fun i j a ei ej=>by
  have key:∀(i:Nat) (a:Addr),(α++[Option.some p])[i]?=Option.some (Option.some a)→(i<α.length∧α[i]?=Option.some (Option.some a))∨(i=α.length∧a=p):=by
   intro i a e
   by_cases hi:i<α.length
   · rw[List.getElem?_append_left hi]at e;exact .inl ⟨hi,e⟩
   · rw[List.getElem?_append_right (Nat.le_of_not_lt hi)]at e
     have h0:i-α.length=0:=by
      cases q:i-α.length with
      |zero=>rfl
      |succ k=>rw[q]at e;simp at e
     rw[h0]at e
     have:p=a:=by simpa using e
     exact .inr ⟨by omega,this.symm⟩
  rcases key i a ei with⟨h1,e1⟩|⟨h1,e1⟩<;>rcases key j a ej with⟨h2,e2⟩|⟨h2,e2⟩
  · exact S.nd i j a e1 e2
  · subst e2;exact absurd (List.mem_of_getElem? e1) (S.i_ h)
  · subst e1;exact absurd (List.mem_of_getElem? e2) (S.i_ h)
  · omega
 at':=fun n d e=>by
  by_cases hn:n<st.length
  · rw[List.getElem?_append_left hn]at e
    have hl:n<α.length:=by rw[S.len];exact hn
    rcases S.at' n d e with⟨z,q⟩|⟨a,q,ca⟩
    · exact .inl ⟨z,by rw[List.getElem?_append_left hl];exact q⟩
    · exact .inr ⟨a,by rw[List.getElem?_append_left hl];exact q,ca.same (Step.cell h) (aB (by obtain⟨u,z⟩:=ca.some;exact cQ z h))⟩
  · rw[List.getElem?_append_right (Nat.le_of_not_lt hn)]at e
    have h0:n-st.length=0:=by
     cases q:n-st.length with
     |zero=>rfl
     |succ k=>rw[q]at e;simp at e
    rw[h0]at e
    have hd:c=d:=by simpa using e
    subst hd
    refine .inr ⟨p,?_,hc⟩
    rw[List.getElem?_append_right (by rw[S.len];exact Nat.le_of_not_lt hn),S.len,h0]
    rfl
theorem aL.write(S:aL α st H){p:Addr}{o:HO}{c:Cell}{n:Nat}(e:α[n]?=Option.some (Option.some p))(hc:iI α (upd H p o) p c):aL α (st.set n c) (upd H p o) where
 len:=by rw[List.length_set];exact S.len
 nd:=S.nd
 at':=fun m d q=>by
  have hp:Option.some p∈α:=List.mem_of_getElem? e
  by_cases hm:m=n
  · subst hm
    have hl:m<st.length:=by
     have:=(List.getElem?_eq_some_iff.mp q).1
     rw[List.length_set]at this;exact this
    rw[List.getElem?_set_self hl]at q
    cases q
    exact .inr ⟨p,e,hc⟩
  · rw[List.getElem?_set_ne (Ne.symm hm)]at q
    rcases S.at' m d q with z|⟨a,r,ca⟩
    · exact .inl z
    · refine .inr ⟨a,r,ca.same (Step.write hp) (aB fun z=>?_)⟩
      subst z
      exact hm (S.nd m n _ r e)
end
end L3
namespace L3
open PySem PySem.Spec L2
open PyProof.Rows hiding St
abbrev DK:=D→ae→Prop
abbrev DE:=bH→ae→DK→Prop
abbrev DT:=bH→ae→(Bool→ae→Prop)→Prop
abbrev DA:=bH→ae→(List D→ae→Prop)→Prop
structure jC where
 nx:bH→ae→Prop
 rt:DK
 bk:bH→ae→Prop:=fun _ _=>False
 ct:bH→ae→Prop:=fun _ _=>False
abbrev DS:=jC→bH→ae→Prop
structure dh(α:List (Option Addr))(H:Hp)(σd:bH)(σ:L2.St):Prop where
 len:σd.length=σ.length
 at':∀(i:Nat) (d:D),σd[i]?=some (some d)→∃v,σ[i]?=some (some v)∧Rep α H d v
theorem dh.step{α α':List (Option Addr)}{H H':Hp}{σd:bH}{σ:L2.St}(s:Step α H α' H')(h:dh α H σd σ):dh α' H' σd σ:=
 ⟨h.len,fun i d e=>let⟨v,q,r⟩:=h.at' i d e;⟨v,q,r.step s⟩⟩
theorem dh.set{α:List (Option Addr)}{H:Hp}{σd:bH}{σ:L2.St}(h:dh α H σd σ)(i:Nat){d:D}{v:V}(r:Rep α H d v):dh α H (σd.set i (some d)) (σ.set i (some v)):=by
 refine⟨by rw[List.length_set,List.length_set,h.len],fun j e q=>?_⟩
 have hl:=h.len
 by_cases hj:j=i
 · subst hj
   have hlt:j<σd.length:=by
    have:=(List.getElem?_eq_some_iff.mp q).1
    rw[List.length_set]at this;exact this
   rw[List.getElem?_set_self hlt]at q
   cases q
   exact⟨v,List.getElem?_set_self (by omega),r⟩
 · rw[List.getElem?_set_ne (Ne.symm hj)]at q
   rw[List.getElem?_set_ne (Ne.symm hj)]
   exact h.at' j e q
def LK(α:List (Option Addr))(G F:Hp)(K:DK)(Q:VK):Prop:=∀d st',K d st'→∀α' G' H' v,Step α G α' G'→bJ G' F H'→aL α' st' G'→Rep α' G' d v→Q v H'
def As(α:List (Option Addr))(G F:Hp)(K:Bool→ae→Prop)(Q:Bool→Hp→Prop):Prop:=∀b st',K b st'→∀α' G' H',Step α G α' G'→bJ G' F H'→aL α' st' G'→Q b H'
def Hx(α:List (Option Addr))(G F:Hp)(K:List D→ae→Prop)(Q:List V→Hp→Prop):Prop:=∀ds st',K ds st'→∀α' G' H' vs,Step α G α' G'→bJ G' F H'→aL α' st' G'→ay α' G' ds vs→Q vs H'
inductive FQ(t:DE)(σ:L2.St)(H:Hp)(Q:VK):Prop
 |mk (α:List (Option Addr)) (σd:bH) (st:ae) (K:DK) (G F:Hp) (P:bJ G F H) (R:dh α G σd σ) (S:aL α st G) (h:t σd st K) (k:LK α G F K Q):FQ t σ H Q
def LE(t:DE):TE:=FQ t
inductive FZ(t:DT)(σ:L2.St)(H:Hp)(Q:Bool→Hp→Prop):Prop
 |mk (α:List (Option Addr)) (σd:bH) (st:ae) (K:Bool→ae→Prop) (G F:Hp) (P:bJ G F H) (R:dh α G σd σ) (S:aL α st G) (h:t σd st K) (k:As α G F K Q):FZ t σ H Q
def LT(t:DT):TT:=FZ t
inductive Gd(t:DA)(σ:L2.St)(H:Hp)(Q:List V→Hp→Prop):Prop
 |mk (α:List (Option Addr)) (σd:bH) (st:ae) (K:List D→ae→Prop) (G F:Hp) (P:bJ G F H) (R:dh α G σd σ) (S:aL α st G) (h:t σd st K) (k:Hx α G F K Q):Gd t σ H Q
def LA(t:DA):TA:=Gd t
theorem LK.here{α:List (Option Addr)}{G F H:Hp}{K:DK}{Q:VK}(h:LK α G F K Q)(P:bJ G F H){d:D}{st:ae}{v:V}(k:K d st)(S:aL α st G)(r:Rep α G d v):Q v H:=h d st k α G H v Step.refl P S r
theorem LK.at{α α1:List (Option Addr)}{G F G1:Hp}{K:DK}{Q:VK}(h:LK α G F K Q)(s:Step α G α1 G1):LK α1 G1 F K Q:=fun d st' k α' G' H' v s' P S r=>h d st' k α' G' H' v (s.trans s') P S r
theorem As.at{α α1:List (Option Addr)}{G F G1:Hp}{K:Bool→ae→Prop}{Q:Bool→Hp→Prop}(h:As α G F K Q)(s:Step α G α1 G1):As α1 G1 F K Q:=fun d st' k α' G' H' s' P S=>h d st' k α' G' H' (s.trans s') P S
section
variable {X:Cx}{a b c e:Expr}{es:List Expr}{ta tb tc te:DE}{pos:Pos}
theorem PE.imp{t t':TE}(h:PE X e t)(f:∀σ H Q,t' σ H Q→t σ H Q):PE X e t':=fun pins s σ H Q I q=>h pins s σ H Q I (f σ H Q q)
theorem PT.imp{t t':TT}(h:PT X e t)(f:∀σ H Q,t' σ H Q→t σ H Q):PT X e t':=fun pins s σ H Q I q=>h pins s σ H Q I (f σ H Q q)
theorem PW.imp{t t':TT}(h:PW X e t)(f:∀σ H Q,t' σ H Q→t σ H Q):PW X e t':=fun w pins s σ H Q I q=>h w pins s σ H Q I (f σ H Q q)
theorem PA.imp{t t':TA}(h:PA X es t)(f:∀σ H Q,t' σ H Q→t σ H Q):PA X es t':=fun p pins s σ H Q I q=>h p pins s σ H Q I (f σ H Q q)
def aa(i:Nat):DE:=fun σ st K=>match σ[i]? with|some (some d)=>K d st|_=>False
def dC(d:D):DE:=fun _ st K=>K d st
theorem Ey{i:Nat}{x:Str}(h:PE X (.Name x pos) (CP i)):PE X (.Name x pos) (LE (aa i)):=PE.imp h fun σ H Q ⟨α,σd,st,K,G,F,P,R,S,t,k⟩=>by
 unfold aa at t
 split at t
 · rename_i d q
   obtain⟨v,e,r⟩:=R.at' i d q
   exact⟨v,e,k.here P t S r⟩
 · exact t.elim
theorem mW{v:V}{d:D}(h:PE X e (tC v))(r:∀α H,Rep α H d v):PE X e (LE (dC d)):=PE.imp h fun σ H Q ⟨α,σd,st,K,G,F,P,R,S,t,k⟩=>k.here P t S (r α G)
theorem Et{i:Int}{j:Nat}:PE X (.Constant (.int i) j pos) (LE (dC (.int i))):=mW De fun _ _=>by unfold Rep;rfl
theorem Gw{i:Bool}{j:Nat}:PE X (.Constant (.bool i) j pos) (LE (dC (.bl i))):=mW E8 fun _ _=>by unfold Rep;rfl
theorem Fe{j:Nat}:PE X (.Constant .none j pos) (LE (dC .aA)):=mW DQ fun _ _=>by unfold Rep;rfl
abbrev cO:=D→D→ae→DK→Prop
abbrev tT:=D→ae→DK→Prop
abbrev fD:=List D→ae→DK→Prop
inductive FW(r:cO)(x y:V)(H:Hp)(Q:VK):Prop
 |mk (α:List (Option Addr)) (d e:D) (st:ae) (K:DK) (G F:Hp) (P:bJ G F H) (rx:Rep α G d x) (ry:Rep α G e y) (S:aL α st G) (h:r d e st K) (k:LK α G F K Q):FW r x y H Q
def LR(r:cO):R2:=FW r
inductive Co(r:tT)(x:V)(H:Hp)(Q:VK):Prop
 |mk (α:List (Option Addr)) (d:D) (st:ae) (K:DK) (G F:Hp) (P:bJ G F H) (rx:Rep α G d x) (S:aL α st G) (h:r d st K) (k:LK α G F K Q):Co r x H Q
def z9(r:tT):V→Hp→VK→Prop:=Co r
inductive Dp(r:fD)(xs:List V)(H:Hp)(Q:VK):Prop
 |mk (α:List (Option Addr)) (ds:List D) (st:ae) (K:DK) (G F:Hp) (P:bJ G F H) (rx:ay α G ds xs) (S:aL α st G) (h:r ds st K) (k:LK α G F K Q):Dp r xs H Q
def gn(r:fD):List V→Hp→VK→Prop:=Dp r
def aq(r:cO)(ta tb:DE):DE:=fun σ st K=>ta σ st fun x st1=>tb σ st1 fun y st2=>r x y st2 K
def mv(r:tT)(ta:DE):DE:=fun σ st K=>ta σ st fun x st1=>r x st1 K
theorem LE.op{r:cO}{σ:L2.St}{H:Hp}{Q:VK}(h:LE (aq r ta tb) σ H Q):yh (LR r) (LE ta) (LE tb) σ H Q:=by
 obtain⟨α,σd,st,K,G,F,P,R,S,t,k⟩:=h
 refine⟨α,σd,st,_,G,F,P,R,S,t,fun d st1 q α1 G1 H1 v s1 P1 S1 r1=>?_⟩
 refine⟨α1,σd,st1,_,G1,F,P1,R.step s1,S1,q,fun d2 st2 q2 α2 G2 H2 v2 s2 P2 S2 r2=>?_⟩
 exact⟨α2,d,d2,st2,K,G2,F,P2,r1.step s2,r2,S2,q2,(k.at s1).at s2⟩
theorem LE.un{r:tT}{σ:L2.St}{H:Hp}{Q:VK}(h:LE (mv r ta) σ H Q):F_ (z9 r) (LE ta) σ H Q:=by
 obtain⟨α,σd,st,K,G,F,P,R,S,t,k⟩:=h
 refine⟨α,σd,st,_,G,F,P,R,S,t,fun d st1 q α1 G1 H1 v s1 P1 S1 r1=>?_⟩
 exact⟨α1,d,st1,K,G1,F,P1,r1,S1,q,k.at s1⟩
theorem GB{op:Operator}{r:cO}(ho:bG X (binaryOp op) (LR r))(ha:PE X a (LE ta))(hb:PE X b (LE tb)):PE X (.BinOp a op b pos) (LE (aq r ta tb)):=PE.imp (EK ho ha hb) fun _ _ _ h=>LE.op h
theorem Gu{op:UnaryOp}{r:tT}(ho:uW X (unaryOp op) (z9 r))(ha:PE X a (LE ta)):PE X (.UnaryOp op a pos) (LE (mv r ta)):=PE.imp (EG ho ha) fun _ _ _ h=>LE.un h
theorem E5{op:CmpOp}{r:cO}(ho:bG X (compareOp op) (LR r))(ha:PE X a (LE ta))(hb:PE X b (LE tb))(hm:behindInMarks op b=false:=by first|exact br _|rfl):PE X (.Compare a [op] [b] pos) (LE (aq r ta tb)):=PE.imp (AY ho ha hb hm) fun _ _ _ h=>LE.op h
def aY(t:DE):DT:=fun σ st K=>t σ st fun d st1=>match d with| .bl b=>K b st1|_=>False
theorem LT.test{σ:L2.St}{H:Hp}{Q:Bool→Hp→Prop}(h:LT (aY te) σ H Q):LE te σ H fun x H'=>∃k,x= .bl k∧Q k H':=by
 obtain⟨α,σd,st,K,G,F,P,R,S,t,k⟩:=h
 refine⟨α,σd,st,_,G,F,P,R,S,t,fun d st1 q α1 G1 H1 v s1 P1 S1 r1=>?_⟩
 cases d with
 |bl b=>
  unfold Rep at r1
  exact⟨b,r1,k b st1 q α1 G1 H1 s1 P1 S1⟩
 |_=>exact q.elim
theorem Cj{op:CmpOp}{r:cO}(ho:bG X (compareOp op) (LR r))(ha:PE X a (LE ta))(hb:PE X b (LE tb))(hm:behindInMarks op b=false:=by first|exact br _|rfl):PT X (.Compare a [op] [b] pos) (LT (aY (aq r ta tb))):=PT.imp (Bv ho ha hb hm) fun σ H Q h=>by
 have q:=LT.test h
 exact LE.op (Q:=fun x H'=>∃k,x= .bl k∧Q k H') q
theorem Dx(he:PE X e (LE te))(hv:∀whole,isTrue e X.env whole=(do let v ←whole;standAt e.pos;holding [v] (truthy v)):=by intro _;rfl):PT X e (LT (aY te)):=PT.imp (DL he hv) fun σ H Q h=>LT.test h
def gG(t:DT):DT:=fun σ st K=>t σ st fun b st1=>K (!b) st1
def ly(t u:DT):DT:=fun σ st K=>t σ st fun b st1=>if b=true then u σ st1 K else K false st1
def hJ(t u:DT):DT:=fun σ st K=>t σ st fun b st1=>if b=true then K true st1 else u σ st1 K
theorem BV{t:DT}(ha:PT X a (LT t)):PT X (.UnaryOp .Not a pos) (LT (gG t)):=PT.imp (C9 ha) fun σ H Q ⟨α,σd,st,K,G,F,P,R,S,t,k⟩=>
 ⟨α,σd,st,_,G,F,P,R,S,t,fun b st1 q α1 G1 H1 s1 P1 S1=>k _ st1 q α1 G1 H1 s1 P1 S1⟩
theorem LT.and{t u:DT}{σ:L2.St}{H:Hp}{Q:Bool→Hp→Prop}(h:LT (ly t u) σ H Q):CD (LT t) (LT u) σ H Q:=by
 obtain⟨α,σd,st,K,G,F,P,R,S,t,k⟩:=h
 refine⟨α,σd,st,_,G,F,P,R,S,t,fun b st1 q α1 G1 H1 s1 P1 S1=>?_⟩
 cases b with
 |true=>exact⟨α1,σd,st1,K,G1,F,P1,R.step s1,S1,q,k.at s1⟩
 |false=>exact k _ st1 q α1 G1 H1 s1 P1 S1
theorem LT.or{t u:DT}{σ:L2.St}{H:Hp}{Q:Bool→Hp→Prop}(h:LT (hJ t u) σ H Q):FK (LT t) (LT u) σ H Q:=by
 obtain⟨α,σd,st,K,G,F,P,R,S,t,k⟩:=h
 refine⟨α,σd,st,_,G,F,P,R,S,t,fun b st1 q α1 G1 H1 s1 P1 S1=>?_⟩
 cases b with
 |false=>exact⟨α1,σd,st1,K,G1,F,P1,R.step s1,S1,q,k.at s1⟩
 |true=>exact k _ st1 q α1 G1 H1 s1 P1 S1
theorem AQ{t:DT}(ha:PT X a (LT t)):PW X (.BoolOp .And [a] pos) (LT t):=pw_and1 ha
theorem Dv{t:DT}(ha:PT X a (LT t)):PW X (.BoolOp .Or [a] pos) (LT t):=pw_or1 ha
theorem CO{t u:DT}(ha:PT X a (LT t))(hb:PW X (.BoolOp .And (b::es) pos) (LT u)):PW X (.BoolOp .And (a::b::es) pos) (LT (ly t u)):=PW.imp (pw_and ha hb) fun _ _ _ h=>LT.and h
theorem E7{t u:DT}(ha:PT X a (LT t))(hb:PW X (.BoolOp .Or (b::es) pos) (LT u)):PW X (.BoolOp .Or (a::b::es) pos) (LT (hJ t u)):=PW.imp (pw_or ha hb) fun _ _ _ h=>LT.or h
def mL(ta tb:DE):DE:=fun σ st K=>ta σ st fun d st1=>match d with| .bl b=>if b=true then tb σ st1 K else K (.bl false) st1|_=>False
def rg(t:DT):DE:=fun σ st K=>t σ st fun b st1=>K (.bl (!b)) st1
theorem FH{op:BoolOp}(ha:PE X a (LE ta)):PE X (.BoolOp op [a] pos) (LE ta):=CY ha
theorem ET(ha:PE X a (LE ta))(hb:PE X (.BoolOp .And (b::es) pos) (LE tb)):PE X (.BoolOp .And (a::b::es) pos) (LE (mL ta tb)):=PE.imp (Dj ha hb) fun σ H Q ⟨α,σd,st,K,G,F,P,R,S,t,k⟩=>by
 refine⟨α,σd,st,_,G,F,P,R,S,t,fun d st1 q α1 G1 H1 v s1 P1 S1 r1=>?_⟩
 cases d with
 |bl b=>
  unfold Rep at r1
  refine⟨b,r1,?_⟩
  cases b with
  |true=>exact⟨α1,σd,st1,K,G1,F,P1,R.step s1,S1,q,k.at s1⟩
  |false=>exact k _ st1 q α1 G1 H1 _ s1 P1 S1 (by unfold Rep;rfl)
 |_=>exact q.elim
theorem E2(ha:PE X a (LE ta)):PE X (.UnaryOp .Not a pos) (LE (rg (aY ta))):=PE.imp (Ed ha) fun σ H Q ⟨α,σd,st,K,G,F,P,R,S,t,k⟩=>by
 refine⟨α,σd,st,_,G,F,P,R,S,t,fun d st1 q α1 G1 H1 v s1 P1 S1 r1=>?_⟩
 cases d with
 |bl b=>
  unfold Rep at r1
  exact⟨b,r1,k _ st1 q α1 G1 H1 _ s1 P1 S1 (by unfold Rep;rfl)⟩
 |_=>exact q.elim
def DV(t:DT)(ta tb:DE):DE:=fun σ st K=>t σ st fun b st1=>if b=true then ta σ st1 K else tb σ st1 K
theorem EB{t:DT}(hc:PT X c (LT t))(ha:PE X a (LE ta))(hb:PE X b (LE tb)):PE X (.IfExp c a b pos) (LE (DV t ta tb)):=PE.imp (zw hc ha hb) fun σ H Q ⟨α,σd,st,K,G,F,P,R,S,t,k⟩=>by
 refine⟨α,σd,st,_,G,F,P,R,S,t,fun b st1 q α1 G1 H1 s1 P1 S1=>?_⟩
 cases b with
 |true=>exact⟨α1,σd,st1,K,G1,F,P1,R.step s1,S1,q,k.at s1⟩
 |false=>exact⟨α1,σd,st1,K,G1,F,P1,R.step s1,S1,q,k.at s1⟩
def ao:DA:=fun _ st K=>K [] st
def af(ta:DE)(tr:DA):DA:=fun σ st K=>ta σ st fun x st1=>tr σ st1 fun xs st2=>K (x::xs) st2
theorem t7:PA X [] (LA ao):=PA.imp Cz fun σ H Q ⟨α,σd,st,K,G,F,P,R,S,t,k⟩=>k [] st t α G H [] Step.refl P S (by unfold ay;rfl)
theorem pE{tr:DA}(ha:PE X e (LE te))(hr:PA X es (LA tr))(hs:starEach (e::es) X.env=(false,eval e X.env)::starEach es X.env:=by rfl):PA X (e::es) (LA (af te tr)):=PA.imp (Bw ha hr hs) fun σ H Q ⟨α,σd,st,K,G,F,P,R,S,t,k⟩=>by
 refine⟨α,σd,st,_,G,F,P,R,S,t,fun d st1 q α1 G1 H1 v s1 P1 S1 r1=>?_⟩
 refine⟨α1,σd,st1,_,G1,F,P1,R.step s1,S1,q,fun ds st2 q2 α2 G2 H2 vs s2 P2 S2 r2=>?_⟩
 exact k _ st2 q2 α2 G2 H2 (v::vs) (s1.trans s2) P2 S2 (by unfold ay;exact⟨v,vs,rfl,r1.step s2,r2⟩)
def ow(t:DA):DE:=fun σ st K=>t σ st fun ds st1=>ds.length≤sizeLine∧K (.tup ds) st1
def nZ(t:DA):DE:=fun σ st K=>t σ st fun ds st1=>ds.length≤sizeLine∧K (.lst ds) st1
def wD(t:DA):DE:=fun σ st K=>t σ st fun ds st1=>ds.length≤sizeLine∧K (.ref st1.length) (st1++[.lst ds])
theorem LK.tup{α:List (Option Addr)}{G F H:Hp}{K:DK}{Q:VK}{ds:List D}{vs:List V}{st:ae}{p:Addr}(k:LK α G F K Q)(P:bJ G F H)(q:K (.tup ds) st)(S:aL α st G)(r:ay α G ds vs)(hp:H p=none):Q (.ref p) (upd H p (.tup vs)):=
 have hg:=(P.none hp).1
 k _ st q α _ _ _ (Step.laid hg) (P.laid hp) (S.laid hg) (by unfold Rep;exact⟨p,vs,rfl,S.i_ hg,aT,r.step (Step.laid hg)⟩)
theorem LK.lst{α:List (Option Addr)}{G F H:Hp}{K:DK}{Q:VK}{ds:List D}{vs:List V}{st:ae}{p:Addr}(k:LK α G F K Q)(P:bJ G F H)(q:K (.lst ds) st)(S:aL α st G)(r:ay α G ds vs)(hp:H p=none):Q (.ref p) (upd H p (.lst vs)):=
 have hg:=(P.none hp).1
 k _ st q α _ _ _ (Step.laid hg) (P.laid hp) (S.laid hg) (by unfold Rep;exact⟨p,vs,rfl,S.i_ hg,.of aT,r.step (Step.laid hg)⟩)
theorem LK.new{α:List (Option Addr)}{G F H:Hp}{K:DK}{Q:VK}{ds:List D}{vs:List V}{st:ae}{p:Addr}(k:LK α G F K Q)(P:bJ G F H)(q:K (.ref st.length) (st++[.lst ds]))(S:aL α st G)(r:ay α G ds vs)(hp:H p=none):Q (.ref p) (upd H p (.lst vs)):=
 have hg:=(P.none hp).1
 k _ _ q (α++[some p]) _ _ _ (Step.cell hg) (P.laid hp) (S.cell hg ⟨vs,aT,r.step (Step.cell hg)⟩) (by
  unfold Rep
  refine .inr ⟨p,?_,rfl⟩
  rw[List.getElem?_append_right (by rw[S.len];exact Nat.le_refl _),S.len,Nat.sub_self]
  rfl)
theorem EO{n:Nat}{t:DA}(h:PA X es (LA t)):PE X (.Tuple es n pos) (LE (ow t)):=PE.imp (CL h) fun σ H Q ⟨α,σd,st,K,G,F,P,R,S,t,k⟩=>
 ⟨α,σd,st,_,G,F,P,R,S,t,fun ds st1 q α1 G1 H1 vs s1 P1 S1 r1=>⟨by rw[←r1.length];exact q.1,fun p hp=>(k.at s1).tup P1 q.2 S1 r1 hp⟩⟩
theorem Ep{t:DA}(h:PA X es (LA t)):PE X (.List es pos) (LE (nZ t)):=PE.imp (xZ h) fun σ H Q ⟨α,σd,st,K,G,F,P,R,S,t,k⟩=>
 ⟨α,σd,st,_,G,F,P,R,S,t,fun ds st1 q α1 G1 H1 vs s1 P1 S1 r1=>⟨by rw[←r1.length];exact q.1,fun p hp=>(k.at s1).lst P1 q.2 S1 r1 hp⟩⟩
theorem EV{t:DA}(h:PA X es (LA t)):PE X (.List es pos) (LE (wD t)):=PE.imp (xZ h) fun σ H Q ⟨α,σd,st,K,G,F,P,R,S,t,k⟩=>
 ⟨α,σd,st,_,G,F,P,R,S,t,fun ds st1 q α1 G1 H1 vs s1 P1 S1 r1=>⟨by rw[←r1.length];exact q.1,fun p hp=>(k.at s1).new P1 q.2 S1 r1 hp⟩⟩
abbrev cM:=List D→ae→DK→Prop
inductive Cu(T:cM)(vs:List V)(H:Hp)(Q:VK):Prop
 |mk (α:List (Option Addr)) (ds:List D) (st:ae) (K:DK) (G F:Hp) (P:bJ G F H) (rx:ay α G ds vs) (S:aL α st G) (h:T ds st K) (k:LK α G F K Q):Cu T vs H Q
def aR(S:cM):Sp:=fun vs H Q _=>Cu S vs H Q
def a_(S:cM)(t:DA):DE:=fun σ st K=>t σ st fun ds st1=>S ds st1 K
theorem LE.call{S:cM}{t:DA}{σ:L2.St}{H:Hp}{Q:VK}(h:LE (a_ S t) σ H Q):zS (aR S) [] E0 (LA t) σ H Q:=by
 obtain⟨α,σd,st,K,G,F,P,R,S,t,k⟩:=h
 refine⟨α,σd,st,_,G,F,P,R,S,t,fun ds st1 q α1 G1 H1 vs s1 P1 S1 r1=>?_⟩
 try dsimp only
 rw[List.append_nil]
 exact⟨α1,ds,st1,K,G1,F,P1,r1,S1,q,k.at s1⟩
theorem CZ{S:cM}{k:Nat}{f:Addr}{fd:FuncData}{ps:List Str}{x:Str}{p:Pos}{t:DA}(F:ax X.prog X.w X.K X.mg X.base aO k f fd ps (aR S))(hr:cq k X.A)(hg:Gl X x)(hm:X.mg x=some (.ref f))(hk:PySem.W.keepIn X.K (.ref f)=true)(hb:Binds X.K fd ps [])
 (ha:PA X (e::es) (LA t)) (hdb:(x==("__debug__":Str))=false:=by decide) (he:starEach (e::es) X.env=(false,eval e X.env)::starEach es X.env:=by rfl) (hpl:(backTo pos (starEach es X.env)).any (·.1)=false:=by rfl):
 PE X (.Call (.Name x p) (e::es) [] pos) (LE (a_ S t)):=PE.imp (Bu F hr hg hm hk hb .nil wj ha hdb he hpl) fun _ _ _ h=>LE.call h
def bV(r:fD)(t:DA):DE:=fun σ st K=>t σ st fun ds st1=>r ds st1 K
theorem LE.cb{r:fD}{t:DA}{σ:L2.St}{H:Hp}{Q:VK}(h:LE (bV r t) σ H Q):Cd (gn r) (LA t) σ H Q:=by
 obtain⟨α,σd,st,K,G,F,P,R,S,t,k⟩:=h
 refine⟨α,σd,st,_,G,F,P,R,S,t,fun ds st1 q α1 G1 H1 vs s1 P1 S1 r1=>?_⟩
 exact⟨α1,ds,st1,K,G1,F,P1,r1,S1,q,k.at s1⟩
end
end L3
namespace L3
open PySem PySem.Spec L2
open PyProof.Rows hiding St
section
variable {X:Cx}
theorem bG.imp{f:Value→Value→Sem Value}{r r':R2}(h:bG X f r)(k:∀x y H Q,r' x y H Q→r x y H Q):bG X f r':=fun pins s σ H x y v u Q I rx ry q=>h pins s σ H x y v u Q I rx ry (k x y H Q q)
theorem bO.imp{f:Value}{r r':List V→Hp→VK→Prop}(h:bO X f r)(k:∀xs H Q,r' xs H Q→r xs H Q):bO X f r':=fun pins s σ H xs us Q I rs q=>h pins s σ H xs us Q I rs (k xs H Q q)
def nI(C:Int→Int→Prop)(g:Int→Int→D):cO:=fun x y st K=>match x,y with| .int i,.int j=>C i j∧K (g i j) st|_,_=>False
theorem iG{f:Value→Value→Sem Value}{C:Int→Int→Prop}{g:Int→Int→D}{g':Int→Int→V}(hg:∀i j α H,Rep α H (g i j) (g' i j))(h:bG X f (rI C g')):bG X f (LR (nI C g)):=bG.imp h fun x y H Q ⟨α,d,e,st,K,G,F',P,r1,r2,S,q,k⟩=>by
 cases d<;>cases e<;>first
  |exact q.elim
  |(unfold Rep at r1 r2;exact⟨_,_,r1,r2,q.1,k.here P q.2 S (hg _ _ _ _)⟩)
abbrev T2:Int→Int→Prop:=fun _ _=>True
theorem oZ{g:Int→Int→V}{f:Value→Value→Sem Value}(h:bG X f (ph g)):bG X f (rI T2 g):=bG.imp h fun x y H Q ⟨i,j,e1,e2,_,q⟩=>⟨i,j,e1,e2,q⟩
abbrev zM:cO:=nI T2 fun i j=> .int (i-j)
abbrev yi:cO:=nI (fun _ j=>j≠0∧j.natAbs.log2<9000) fun i j=> .int (i.fdiv j)
abbrev An:cO:=nI (fun _ j=>j≠0) fun i j=> .int (i.fmod j)
abbrev zK:cO:=nI zt fun i j=> .int (i^j.toNat)
abbrev Cg:cO:=nI T2 fun i j=> .bl (decide (i<j))
abbrev Dd:cO:=nI T2 fun i j=> .bl (decide (i≤j))
abbrev CF:cO:=nI T2 fun i j=> .bl (decide (j<i))
abbrev DW:cO:=nI T2 fun i j=> .bl (decide (j≤i))
theorem ED:bG X (binaryOp .Sub) (LR zM):=iG (fun _ _ _ _=>by unfold Rep;rfl) (oZ Dn)
theorem CK:bG X (binaryOp .FloorDiv) (LR yi):=iG (fun _ _ _ _=>by unfold Rep;rfl) (zY fun i j _ _ _ _ _ hc q=>floordiv_int hc.1 q (.inl (PyProof.noPylong_of_log2 hc.2)))
theorem Fl:bG X (binaryOp .Mod) (LR An):=iG (fun _ _ _ _=>by unfold Rep;rfl) BH
theorem Fm:bG X (binaryOp .Pow) (LR zK):=iG (fun _ _ _ _=>by unfold Rep;rfl) C2
theorem GY:bG X (compareOp .Lt) (LR Cg):=iG (fun _ _ _ _=>by unfold Rep;rfl) (oZ E4)
theorem Gy:bG X (compareOp .LtE) (LR Dd):=iG (fun _ _ _ _=>by unfold Rep;rfl) (oZ EZ)
theorem GV:bG X (compareOp .Gt) (LR CF):=iG (fun _ _ _ _=>by unfold Rep;rfl) (oZ FE)
theorem GZ:bG X (compareOp .GtE) (LR DW):=iG (fun _ _ _ _=>by unfold Rep;rfl) (oZ Ft)
def Aa:tT:=fun x st K=>match x with| .int i=>K (.int (-i)) st|_=>False
theorem Fv:uW X (unaryOp .USub) (z9 Aa):=fun pins s σ H x v Q I rx ⟨α,d,st,K,G,F',P,r,S,q,k⟩=>by
 cases d<;>first
  |exact q.elim
  |(unfold Rep at r;exact DP pins s σ H x v Q I rx ⟨_,r,k.here P q S (by unfold Rep;rfl)⟩)
theorem Inv.uc{pins:List (Addr×Obj)}{σ:L2.St}{H:Hp}{s:Shared}{l:Addr}{xs:List V}(I:Inv X pins σ H s)(h:Rd H l (.lst xs)):
 xs.length≤sizeLine∧∃(its:List Value) (n:Nat),Vals xs its∧xs.length=its.length∧s.heap.get? l=some {cls:= .type "list",data:= .seq its.toArray n}:=by
 obtain⟨z,its,n,r,e⟩:=h.ok I.aH
 exact⟨z,its,n,r,r.length,e⟩
theorem fZ{G F H:Hp}(P:bJ G F H){a:Addr}{u:HO}(h:Rd G a u):Rd H a u:=by
 rcases h with h|⟨o,h⟩
 · exact .inl (P.get h)
 · exact .inr ⟨o,P.get h⟩
theorem Bp:bG X (binaryOp .Add) (fun x y H Q=>∃l b xs zs,x= .ref l∧y= .ref b∧Rd H l (.lst xs)∧Rd H b (.lst zs)∧xs.length+zs.length≤sizeLine∧∀p,H p=none→Q (.ref p) (upd H p (.lst (xs++zs)))):=by
 intro pins s σ H x y v u Q I rx ry h
 obtain⟨l,b,xs,zs,rfl,rfl,hH,hB,hz,q⟩:=h
 cases rx
 cases ry
 obtain⟨z,its,n,r,hl,e⟩:=Inv.uc I hH
 obtain⟨z2,its2,n2,r2,hl2,e2⟩:=Inv.uc I hB
 refine PySem.P.add_list e e2 ?_ (by rw[List.size_toArray,List.size_toArray];omega)
 have ea:its.toArray++its2.toArray=(its++its2).toArray:=by simp
 rw[ea]
 exact⟨.ref _,_,I.yv (t':=s.toks) (r.append r2) (by rw[List.length_append];omega),rfl,q _ I.fresh⟩
theorem BC:bG X (binaryOp .Mult) (fun x y H Q=>∃l k xs,x= .ref l∧y= .int k∧Rd H l (.lst xs)∧ -(2^63)≤k∧k<2^63∧xs.length*k.toNat≤sizeLine∧
 ∀p,H p=none→Q (.ref p) (upd H p (.lst (List.replicate k.toNat xs).flatten))):=by
 intro pins s σ H x y v u Q I rx ry h
 obtain⟨l,k,xs,rfl,rfl,hH,h1,h2,hz,q⟩:=h
 cases rx
 obtain⟨t,rfl⟩:=ry
 obtain⟨z,its,n,r,hl,e⟩:=Inv.uc I hH
 have hlen:its.toArray.size*k.toNat≤sizeLine:=by rw[List.size_toArray,←hl];exact hz
 have hcap:¬its.toArray.size*k.toNat>(2^63-1)/8:=by
  have:(sizeLine:Nat)≤(2^63-1)/8:=by decide
  omega
 have hfit:¬(!Builtin.List.listFitsIndex k)=true:=by
  rw[fitsIndex_both h1 h2]
  exact Bool.false_ne_true
 have hlong:¬Builtin.List.listTooLong (its.toArray.size*k.toNat)=true:=by
  rw[yD hlen]
  exact Bool.false_ne_true
 have hnew:List.foldl (fun x1 x2=>x1++x2) #[] (List.replicate (if its.toArray.isEmpty=true then 0 else k.toNat) its.toArray)=(List.replicate k.toNat its).flatten.toArray:=by
  have f0:∀m:Nat,List.foldl (fun x1 x2=>x1++x2) #[] (List.replicate m its.toArray)=(List.replicate m its).flatten.toArray:=fun m=>by
   have:=foldl_rep its m []
   rw[List.nil_append]at this
   exact this
  rw[f0]
  cases its with
  |nil=>simp
  |cons a r'=>rw[if_neg (by simp)]
 refine wpAny_binaryOp_repeat_ref (T:="list") (U:="int") (by decide) ⟨_,e,rfl⟩ (fun s'=>typeIs_int s' k t) noFill_list_mul F.fills_int_mul F.slot_int_rmul repeat_list F.slot_int_index.lookup
  (call_meets F.slot_int_rmul (typeIs_int s k t) F.entry_int_rmul (F.args_int_rmul_2 _ _) (int___rmul___int_list k t l its.toArray n)
    ⟨e,rfl,⟨_,e,rfl⟩,call_meets F.slot_list_mul ⟨_,e,rfl⟩ F.entry_list_mul (F.args_list_mul_2 _ _) (AutoListH.list___mul___list_int_3 l its.toArray n k t hfit hcap hlong) ⟨e,?_⟩⟩)
 rw[hnew]
 exact⟨.ref _,_,I.yv (t':=s.toks) (r.rep k.toNat) (by rw[len_rep,Nat.mul_comm];exact hz),rfl,q _ I.fresh⟩
theorem zm:bG X (binaryOp .Add) (fun x y H Q=>∃a b xs ys,x= .ref a∧y= .ref b∧H a=some (.tup xs)∧H b=some (.tup ys)∧xs.length+ys.length≤sizeLine∧
 (xs=[]→Q (.ref b) H)∧(xs≠ []→ys=[]→Q (.ref a) H)∧(xs≠ []→ys≠ []→∀p,H p=none→Q (.ref p) (upd H p (.tup (xs++ys))))):=by
 intro pins s σ H x y v u Q I rx ry h
 obtain⟨a,b,xs,ys,rfl,rfl,ha,hb,hz,q0,q1,q2⟩:=h
 by_cases hx:xs=[]
 · cases rx
   cases ry
   obtain⟨its,r1,p1,_⟩:=I.tuple (.of ha)
   obtain⟨its2,r2,p2,_⟩:=I.tuple (.of hb)
   obtain⟨⟨cls,dd,data,sl⟩,ho,hc,n,hd⟩:=id p1
   obtain⟨⟨cls2,dd2,data2,sl2⟩,ho2,hc2,n2,hd2⟩:=id p2
   simp only at hc hd hc2 hd2
   subst hc hd hc2 hd2
   have hi:its=[]:=(L2.Vals.mY r1).mpr hx
   exact concat_meets ⟨_,ho,rfl⟩ ⟨_,ho2,rfl⟩ noFill_tuple_add seq_tuple_add PySem.F.slot_tuple_add PySem.F.entry_tuple_add (PySem.F.args_tuple_add_2 _ _)
    (tuple_addW0 a b its.toArray its2.toArray n n2 dd dd2 sl sl2 (by simp[hi])) ⟨ho,ho2,⟨.ref b,H,I,rfl,q0 hx⟩⟩
 · exact AO pins s σ H _ _ v u Q I rx ry ⟨a,b,xs,ys,rfl,rfl,.of ha,.of hb,hx,hz,q1 hx,q2 hx⟩
theorem pP:fillsNumberSlot (.type "tuple") "mul"=pure false:=
 PySem.fillsNumberSlot_seq (id:="tuple.__mul__") (r:=some (.builtin "tuple.__rmul__")) F.slot_tuple_mul.lookup (by decide+kernel) F.slot_tuple_rmul.lookup (by decide+kernel)
theorem vH:seqRepeat? (.type "tuple")=pure (some (.builtin "tuple.__mul__")):=by
 unfold seqRepeat?
 rw[PySem.seqSlot_of (T:="tuple") (name:="__mul__") (id:="tuple.__mul__") F.slot_tuple_mul.lookup (by decide+kernel),PySem.seqSlot_of (T:="tuple") (name:="__rmul__") (id:="tuple.__rmul__") F.slot_tuple_rmul.lookup (by decide+kernel)]
 rfl
theorem tM(a:Int)(t:Tok)(l:Addr)(its:Array Value)(n:Nat)(dd:Option Addr)(sl:Array (Option Value)):Meets (Builtin.«int.__rmul__» ⟨[.int a t,.ref l],[]⟩) (fun _ R s=>s.heap.get? l=some {cls:= .type "tuple",dict:=dd,data:= .seq its n,slots:=sl}∧R (.ok (.ret Value.notImplemented)) s):=
 .of_wp fun P w A R s h=>by
  obtain⟨hp,g,d,tk,os⟩:=s
  obtain⟨hl,h⟩:=h
  wp_walk
  exact⟨_,rfl,h⟩
theorem tD(l:Addr)(its:Array Value)(n:Nat)(dd:Option Addr)(sl:Array (Option Value))(x:Int)(u:Tok)(h0:(decide (x< -(2^63))||decide (x≥2^63))=false)(h1:(its.isEmpty||x==1)=true):
 Meets (Builtin.«tuple.__mul__» ⟨[.ref l,.int x u],[]⟩) (fun _ R s=>s.heap.get? l=some {cls:= .type "tuple",dict:=dd,data:= .seq its n,slots:=sl}∧R (.ok (.ret (.ref l))) s):=
 .of_wp fun P w A R s h=>by
  obtain⟨hp,g,d,tk,os⟩:=s
  obtain⟨hl,h⟩:=h
  wp_walk
  refine wpAny_ite_false (by rw[h0];rfl) ?_
  wp_walk
  exact⟨_,rfl,h⟩
theorem sh(l:Addr)(its:Array Value)(n:Nat)(dd:Option Addr)(sl:Array (Option Value))(x:Int)(u:Tok)(h0:(decide (x< -(2^63))||decide (x≥2^63))=false)(h1:(its.isEmpty||x==1)=false)(h2:(decide (x≤0)||its.isEmpty)=true):
 Meets (Builtin.«tuple.__mul__» ⟨[.ref l,.int x u],[]⟩) (fun _ R s=>s.heap.get? l=some {cls:= .type "tuple",dict:=dd,data:= .seq its n,slots:=sl}∧R (.ok (.ret (.ref s.heap.objs.size))) {s with heap:=s.heap.push {cls:= .type "tuple",data:= .seq #[]}}):=
 .of_wp fun P w A R s h=>by
  obtain⟨hp,g,d,tk,os⟩:=s
  obtain⟨hl,h⟩:=h
  wp_walk
  refine wpAny_ite_false (by rw[h0];rfl) ?_
  wp_walk
  exact⟨_,rfl,h⟩
theorem sJ(l:Addr)(its:Array Value)(n:Nat)(dd:Option Addr)(sl:Array (Option Value))(x:Int)(u:Tok)(h0:(decide (x< -(2^63))||decide (x≥2^63))=false)(h1:(its.isEmpty||x==1)=false)(h2:(decide (x≤0)||its.isEmpty)=false)(h3:¬((its.size:Int)*x>(2^63-1)/8))(h4:Builtin.Tuple.tupleTooMany (its.size*x)=false)
 (hz:(List.foldl (fun x1 x2=>x1++x2) #[] (List.replicate x.toNat its)).size≤sizeLine):
 Meets (Builtin.«tuple.__mul__» ⟨[.ref l,.int x u],[]⟩) (fun _ R s=>s.heap.get? l=some {cls:= .type "tuple",dict:=dd,data:= .seq its n,slots:=sl}∧R (.ok (.ret (.ref s.heap.objs.size))) {s with heap:=s.heap.push {cls:= .type "tuple",data:= .seq (List.foldl (fun x1 x2=>x1++x2) #[] (List.replicate x.toNat its))}}):=
 .of_wp fun P w A R s h=>by
  obtain⟨hp,g,d,tk,os⟩:=s
  obtain⟨hl,h⟩:=h
  wp_walk
  refine wpAny_ite_false (by rw[h0];rfl) ?_
  wp_walk
  refine wpAny_ite_false (decide_eq_false h3) ?_
  wp_walk
  exact⟨_,rfl,h⟩
theorem BP:bG X (binaryOp .Mult) (fun x y H Q=>∃l k xs,x= .ref l∧y= .int k∧H l=some (.tup xs)∧ -(2^63)≤k∧k<2^63∧xs.length*k.toNat≤sizeLine∧
 ((xs=[]∨k=1)→Q (.ref l) H)∧(¬(xs=[]∨k=1)→∀p,H p=none→Q (.ref p) (upd H p (.tup (List.replicate k.toNat xs).flatten)))):=by
 intro pins s σ H x y v u Q I rx ry h
 obtain⟨l,k,xs,rfl,rfl,hH,h1,h2,hz,q1,q2⟩:=h
 cases rx
 obtain⟨t,rfl⟩:=ry
 obtain⟨its,r,p1,_⟩:=I.tuple (.of hH)
 obtain⟨⟨cls,dd,data,sl⟩,ho,hc,n,hd⟩:=id p1
 simp only at hc hd
 subst hc hd
 have hl:xs.length=its.length:=r.length
 have f0:(decide (k< -(2^63))||decide (k≥2^63))=false:=by
  rw[decide_eq_false (by omega),decide_eq_false (by omega)];rfl
 refine wpAny_binaryOp_repeat_ref (T:="tuple") (U:="int") (by decide) ⟨_,ho,rfl⟩ (fun s'=>typeIs_int s' k t) pP F.fills_int_mul F.slot_int_rmul vH F.slot_int_index.lookup
  (call_meets F.slot_int_rmul (typeIs_int s k t) F.entry_int_rmul (F.args_int_rmul_2 _ _) (tM k t l its.toArray n dd sl) ⟨ho,rfl,⟨_,ho,rfl⟩,?_⟩)
 by_cases hs:xs=[]∨k=1
 · have f1:(its.toArray.isEmpty||k==1)=true:=by
    rcases hs with z|z
    · have:its=[]:=List.length_eq_zero_iff.mp (by rw[←hl,z];rfl)
      rw[this];rfl
    · rw[z];simp
   exact call_meets F.slot_tuple_mul ⟨_,ho,rfl⟩ F.entry_tuple_mul (F.args_tuple_mul_2 _ _) (tD l its.toArray n dd sl k t f0 f1) ⟨ho,⟨.ref l,H,I,rfl,q1 hs⟩⟩
 · have hne:its≠ []:=fun z=>hs (.inl (List.length_eq_zero_iff.mp (by rw[hl,z];rfl)))
   have hk1:k≠1:=fun z=>hs (.inr z)
   have e1:its.toArray.isEmpty=false:=by simpa using hne
   have f1:(its.toArray.isEmpty||k==1)=false:=by rw[e1];simpa using hk1
   have new:∀(us:List Value) (ys:List V),Vals ys us→ys.length≤sizeLine→Inv X pins σ (upd H s.heap.objs.size (.tup ys)) {s with heap:=s.heap.push {cls:= .type "tuple",data:= .seq us.toArray}}:=fun us ys hv hy=>
    I.laid (t':=s.toks) (fun _ _ q=>Heap.get?_push_of_some _ q) (Nat.le_refl _) ⟨hy,us,hv,⟨_,Heap.get?_push_size _ rfl,rfl,_,rfl⟩⟩
   by_cases h0:k≤0
   · have f2:(decide (k≤0)||its.toArray.isEmpty)=true:=by rw[decide_eq_true h0];rfl
     refine call_meets F.slot_tuple_mul ⟨_,ho,rfl⟩ F.entry_tuple_mul (F.args_tuple_mul_2 _ _) (sh l its.toArray n dd sl k t f0 f1 f2) ⟨ho,?_⟩
     have ez:k.toNat=0:=by omega
     rw[ez]at q2
     exact⟨.ref _,_,new [] [] .nil (Nat.zero_le _),rfl,q2 hs _ I.fresh⟩
   · have f2:(decide (k≤0)||its.toArray.isEmpty)=false:=by rw[decide_eq_false h0,e1];rfl
     have hk:(k.toNat:Int)=k:=by omega
     have hlen:its.toArray.size*k.toNat≤sizeLine:=by rw[List.size_toArray,←hl];exact hz
     have hsz:((its.toArray.size:Nat):Int)*k≤(sizeLine:Int):=by
      rw[←hk]
      exact_mod_cast hlen
     have f3:¬(((its.toArray.size:Nat):Int)*k>(2^63-1)/8):=by
      have:((sizeLine:Nat):Int)≤(2^63-1)/8:=by decide
      omega
     have f4:Builtin.Tuple.tupleTooMany (((its.toArray.size:Nat):Int)*k)=false:=by
      unfold Builtin.Tuple.tupleTooMany
      exact decide_eq_false (by omega)
     have hnew:List.foldl (fun x1 x2=>x1++x2) #[] (List.replicate k.toNat its.toArray)=(List.replicate k.toNat its).flatten.toArray:=by
      have:=foldl_rep its k.toNat []
      rw[List.nil_append]at this
      exact this
     have hfl:(List.replicate k.toNat its).flatten.length=its.length*k.toNat:=by rw[len_rep,Nat.mul_comm]
     refine call_meets F.slot_tuple_mul ⟨_,ho,rfl⟩ F.entry_tuple_mul (F.args_tuple_mul_2 _ _) (sJ l its.toArray n dd sl k t f0 f1 f2 f3 f4 (by rw[hnew,List.size_toArray,hfl];exact hlen)) ⟨ho,?_⟩
     rw[hnew]
     exact⟨.ref _,_,new _ _ (r.rep k.toNat) (by rw[len_rep,Nat.mul_comm];exact hz),rfl,q2 hs _ I.fresh⟩
def zL:cO:=fun x y st K=>match x,y with
 | .int i,.int j=>K (.int (i+j)) st
 | .tup xs,.tup ys=>xs.length+ys.length≤sizeLine∧K (.tup (xs++ys)) st
 | .lst xs,.lst ys=>xs.length+ys.length≤sizeLine∧K (.lst (xs++ys)) st
 | .str x,.str y=>x.length+y.length≤sizeLine∧K (.str (x++y)) st
 |_,_=>False
theorem Fx:bG X (binaryOp .Add) (LR zL):=fun pins s σ H x y v u Q I rx ry ⟨α,d,e,st,K,G,F',P,r1,r2,S,q,k⟩=>by
 cases d<;>cases e<;>try exact q.elim
 · unfold Rep at r1 r2
   exact CH pins s σ H x y v u Q I rx ry ⟨_,_,r1,r2,k.here P q S (by unfold Rep;rfl)⟩
 · unfold Rep at r1 r2
   exact vS pins s σ H x y v u Q I rx ry ⟨_,_,r1,r2,q.1,k.here P q.2 S (by unfold Rep;rfl)⟩
 · unfold Rep at r1 r2
   obtain⟨a,vs,rfl,na,ha,ra⟩:=r1
   obtain⟨b,ws,rfl,nb,hb,rb⟩:=r2
   refine Bp pins s σ H _ _ v u Q I rx ry ⟨a,b,vs,ws,rfl,rfl,fZ P ha,fZ P hb,by rw[←ra.length,←rb.length];exact q.1,fun p hp=>?_⟩
   exact k.lst P q.2 S (bg.mpr (eZ (bg.mp ra) (bg.mp rb))) hp
 · rename_i xs ys
   unfold Rep at r1 r2
   obtain⟨a,vs,rfl,na,ha,ra⟩:=r1
   obtain⟨b,ws,rfl,nb,hb,rb⟩:=r2
   have hl1:=ra.length
   have hl2:=rb.length
   refine zm pins s σ H _ _ v u Q I rx ry ⟨a,b,vs,ws,rfl,rfl,P.get ha,P.get hb,by rw[←hl1,←hl2];exact q.1,fun z=>?_,fun _ z=>?_,fun _ _ p hp=>?_⟩
   · refine k.here P q.2 S ?_
     unfold Rep
     have:xs=[]:=by rw[z]at hl1;exact List.length_eq_zero_iff.mp hl1
     subst this
     exact⟨b,ws,rfl,nb,hb,rb⟩
   · refine k.here P q.2 S ?_
     unfold Rep
     have:ys=[]:=by rw[z]at hl2;exact List.length_eq_zero_iff.mp hl2
     subst this
     rw[List.append_nil]
     exact⟨a,vs,rfl,na,ha,ra⟩
   · exact k.tup P q.2 S (bg.mpr (eZ (bg.mp ra) (bg.mp rb))) hp
def zO:cO:=fun x y st K=>match x,y with
 | .int i,.int j=>IntMulOk i j∧K (.int (i*j)) st
 | .lst xs,.int k=>(-(2^63)≤k∧k<2^63∧xs.length*k.toNat≤sizeLine)∧K (.lst (List.replicate k.toNat xs).flatten) st
 | .tup xs,.int k=>(-(2^63)≤k∧k<2^63∧xs.length*k.toNat≤sizeLine)∧K (.tup (List.replicate k.toNat xs).flatten) st
 |_,_=>False
theorem Ej:bG X (binaryOp .Mult) (LR zO):=fun pins s σ H x y v u Q I rx ry ⟨α,d,e,st,K,G,F',P,r1,r2,S,q,k⟩=>by
 cases d<;>cases e<;>try exact q.elim
 · unfold Rep at r1 r2
   have h:bG X (binaryOp .Mult) (rI IntMulOk fun i j=> .int (i*j)):=zY fun _ _ _ _ _ _ _ hc q=>mul_int q hc
   exact h pins s σ H x y v u Q I rx ry ⟨_,_,r1,r2,q.1,k.here P q.2 S (by unfold Rep;rfl)⟩
 · unfold Rep at r1 r2
   obtain⟨a,vs,rfl,na,ha,ra⟩:=r1
   refine BC pins s σ H _ _ v u Q I rx ry ⟨a,_,vs,rfl,r2,fZ P ha,q.1.1,q.1.2.1,by rw[←ra.length];exact q.1.2.2,fun p hp=>?_⟩
   exact k.lst P q.2 S (bg.mpr (kC (bg.mp ra) _)) hp
 · rename_i xs m
   have r1':=r1
   unfold Rep at r1 r2
   obtain⟨a,vs,rfl,na,ha,ra⟩:=r1
   refine BP pins s σ H _ _ v u Q I rx ry ⟨a,_,vs,rfl,r2,P.get ha,q.1.1,q.1.2.1,by rw[←ra.length];exact q.1.2.2,fun hs=>?_,fun _ p hp=>k.tup P q.2 S (bg.mpr (kC (bg.mp ra) _)) hp⟩
   have e:(List.replicate m.toNat xs).flatten=xs:=by
    rcases hs with z|z
    · have:xs=[]:=List.length_eq_zero_iff.mp (by rw[ra.length,z];rfl)
      rw[this];simp
    · rw[z];simp
   have q2:=q.2
   rw[e]at q2
   exact k.here P q2 S r1'
def live(st:ae):D→Bool
 | .ref n=>(match st[n]? with|some (.lst _)=>true|some (.ins _ _)=>true|_=>false)
 |_=>true
theorem rS{α:List (Option Addr)}{H:Hp}{st:ae}{n:Nat}{v:V}(S:aL α st H)(h:live st (.ref n)=true)(r:Rep α H (.ref n) v):∃a,v= .ref a:=by
 unfold live at h
 simp only at h
 split at h
 · rename_i e
   obtain⟨a,ea,_⟩:=S.f_ e
   exact⟨a,dA ea r⟩
 · rename_i e
   obtain⟨a,ea,_⟩:=S.rB e
   exact⟨a,dA ea r⟩
 · cases h
def AD:cO:=fun x y st K=>match y with| .aA=>live st x=true∧K (.bl (match x with| .aA=>false|_=>true)) st|_=>False
theorem A5:bG X (compareOp .IsNot) (LR AD):=bG.imp BG fun x y H Q ⟨α,d,e,st,K,G,F',P,r1,r2,S,q,k⟩=>by
 cases e<;>try exact q.elim
 unfold Rep at r2
 refine⟨r2,k.here P q.2 S ?_⟩
 unfold Rep
 cases d
 case ref n=>
  obtain⟨a,rfl⟩:=rS S q.1 r1
  rfl
 all_goals(unfold Rep at r1;first|(rw[r1];rfl)|(obtain⟨a,vs,rfl,_⟩:=r1;rfl))
def lE:cO:=fun x y st K=>match y with
 | .int i=>(match x with
   | .lst xs=>(match eP xs i with|some d=>K d st|none=>False)
   | .tup xs=>(match eP xs i with|some d=>K d st|none=>False)
   | .ref n=>(match st[n]? with|some (.lst xs)=>(match eP xs i with|some d=>K d st|none=>False)|_=>False)
   |_=>False)
 |_=>False
theorem ay.eP{α:List (Option Addr)}{H:Hp}{ds:List D}{vs:List V}{i:Int}{d:D}(h:ay α H ds vs)(e:L2.eP ds i=some d):∃v,L2.eP vs i=some v∧Rep α H d v:=by
 unfold L2.eP at e⊢
 rw[←h.length]
 cases q:jx ds.length i with
 |none=>rw[q]at e;cases e
 |some j=>rw[q]at e;exact h.get e
theorem Gx:Ao X (LR lE):=fun value slice pins s σ H x y v u Q I rx ry ⟨α,d,e,st,K,G,F',P,r1,r2,S,q,k⟩ hs=>by
 cases e<;>try exact q.elim
 unfold Rep at r2
 cases d<;>try exact q.elim
 · rename_i i n
   unfold lE at q
   simp only at q
   split at q
   · split at q
     · rename_i xs e1 _ d' e2
       obtain⟨a,ea,vs,hv,rv⟩:=S.f_ e1
       have r1':=dA ea r1
       subst r1'
       obtain⟨z,ez,rz⟩:=rv.eP e2
       exact uV value slice pins s σ H _ _ v u Q I rx ry ⟨a,vs,_,z,rfl,r2,.of (P.get hv),ez,k.here P q S rz⟩ hs
     · exact q.elim
   · exact q.elim
 · unfold lE at q
   simp only at q
   split at q
   · rename_i xs d' e2
     unfold Rep at r1
     obtain⟨a,vs,rfl,na,ha,ra⟩:=r1
     obtain⟨z,ez,rz⟩:=ra.eP e2
     exact uV value slice pins s σ H _ _ v u Q I rx ry ⟨a,vs,_,z,rfl,r2,.inl (fZ P ha),ez,k.here P q S rz⟩ hs
   · exact q.elim
 · unfold lE at q
   simp only at q
   split at q
   · rename_i xs d' e2
     unfold Rep at r1
     obtain⟨a,vs,rfl,na,ha,ra⟩:=r1
     obtain⟨z,ez,rz⟩:=ra.eP e2
     exact Ci value slice pins s σ H _ _ v u Q I rx ry ⟨a,vs,_,z,rfl,r2,.of (P.get ha),ez,k.here P q S rz⟩ hs
   · exact q.elim
theorem GH{a b:Expr}{ta tb:DE}{pos:Pos}(ha:PE X a (LE ta))(hb:PE X b (LE tb))(hs:mR b:=by intro _ _;rfl):PE X (.Subscript a b pos) (LE (aq lE ta tb)):=PE.imp (EL Gx ha hb hs) fun _ _ _ h=>LE.op h
end
end L3
namespace L3
open PySem PySem.Spec L2
open PyProof.Rows hiding St
section
variable {X:Cx}
def items?(st:ae):D→Option (List D)
 | .lst xs=>some xs
 | .tup xs=>some xs
 | .ref n=>(match st[n]? with|some (.lst xs)=>some xs|_=>none)
 |_=>none
@[simp] theorem FX(st:ae)(xs:List D):items? st (.lst xs)=some xs:=rfl
@[simp] theorem FU(st:ae)(xs:List D):items? st (.tup xs)=some xs:=rfl
@[simp] theorem items_int(st:ae)(i:Int):items? st (.int i)=none:=rfl
@[simp] theorem GA(st:ae)(i:Bool):items? st (.bl i)=none:=rfl
@[simp] theorem items_str(st:ae)(i:Str):items? st (.str i)=none:=rfl
@[simp] theorem Ge(st:ae):items? st .aA=none:=rfl
theorem aE{st:ae}{n:Nat}{xs:List D}(h:st[n]?=some (.lst xs)):items? st (.ref n)=some xs:=by unfold items?;simp only[h]
theorem ki{α:List (Option Addr)}{H:Hp}{st:ae}{d:D}{v:V}{xs:List D}(S:aL α st H)(r:Rep α H d v)(e:items? st d=some xs):
 ∃p vs,v= .ref p∧ay α H xs vs∧(Rd H p (.lst vs)∨H p=some (.tup vs)):=by
 cases d<;>try(cases e;done)
 · unfold items? at e
   simp only at e
   split at e
   · rename_i ys q
     cases e
     obtain⟨a,ea,vs,h1,h2⟩:=S.f_ q
     have r':=dA ea r
     subst r'
     exact⟨a,vs,rfl,h2,.inl (.of h1)⟩
   · cases e
 · cases e
   unfold Rep at r
   obtain⟨a,vs,rfl,_,h1,h2⟩:=r
   exact⟨a,vs,rfl,h2,.inl h1⟩
 · cases e
   unfold Rep at r
   obtain⟨a,vs,rfl,_,h1,h2⟩:=r
   exact⟨a,vs,rfl,h2,.inr h1⟩
theorem vB{K:PySem.W.Frag}{G F H:Hp}(P:bJ G F H){p:Addr}{vs:List V}(h:Rd G p (.lst vs)∨G p=some (.tup vs)):ji K H p vs∨gs K H p vs:=h.elim (fun z=> .inl (.inl (fZ P z))) fun z=> .inr (.of (P.get z))
theorem g7{α:List (Option Addr)}{H:Hp}{ds:List D}{xs:List V}{d:D}(r:ay α H ds xs)(e:ds=[d]):∃v,xs=[v]∧Rep α H d v:=by
 subst e
 unfold ay at r
 obtain⟨v,q,rfl,h1,h2⟩:=r
 unfold ay at h2
 subst h2
 exact⟨v,rfl,h1⟩
theorem la{α:List (Option Addr)}{H:Hp}{ds:List D}{xs:List V}{d e:D}(r:ay α H ds xs)(q:ds=[d,e]):∃v u,xs=[v,u]∧Rep α H d v∧Rep α H e u:=by
 subst q
 unfold ay at r
 obtain⟨v,q,rfl,h1,h2⟩:=r
 obtain⟨u,rfl,h3⟩:=g7 h2 rfl
 exact⟨v,u,rfl,h1,h3⟩
def qZ:fD:=fun ds st K=>match ds with
 | [.str x]=>x.length≤sizeLine∧K (.int x.length) st
 | [d]=>(match items? st d with|some xs=>K (.int xs.length) st|none=>False)
 |_=>False
theorem Fy:bO X (.builtin "len") (gn qZ):=fun pins s σ H xs us Q I rs ⟨α,ds,st,K,G,F',P,r,S,q,k⟩=>by
 unfold qZ at q
 split at q
 · rename_i x
   obtain⟨v,rfl,r1⟩:=g7 r rfl
   unfold Rep at r1
   subst r1
   exact rY pins s σ H _ us Q I rs ⟨x,rfl,q.1,k.here P q.2 S (by unfold Rep;rfl)⟩
 · rename_i d _
   split at q
   · rename_i ys e
     obtain⟨v,rfl,r1⟩:=g7 r rfl
     obtain⟨p,vs,rfl,r2,h⟩:=ki S r1 e
     refine sI pins s σ H _ us Q I rs ⟨p,vs,rfl,vB P h,k.here P q S (by unfold Rep;rw[r2.length])⟩
   · exact q.elim
 · exact q.elim
def Ga(g:Int→Int):fD:=fun ds st K=>match ds with| [.int i]=>K (.int (g i)) st|_=>False
abbrev wq:fD:=Ga fun i=>if i<0 then-i else i
theorem Fb:bO X (.builtin "abs") (gn wq):=bO.imp zB fun xs H Q ⟨α,ds,st,K,G,F',P,r,S,q,k⟩=>by
 unfold wq Ga at q
 split at q
 · obtain⟨v,rfl,r1⟩:=g7 r rfl
   unfold Rep at r1
   subst r1
   exact⟨_,rfl,k.here P q S (by unfold Rep;rfl)⟩
 · exact q.elim
def wB:fD:=fun ds st K=>match ds with| [.int i]=>K (.int i) st| [.bl b]=>K (.int (if b then 1 else 0)) st|_=>False
theorem Em:bO X (.type "int") (gn wB):=bO.imp yb fun xs H Q ⟨α,ds,st,K,G,F',P,r,S,q,k⟩=>by
 unfold wB at q
 split at q
 · obtain⟨v,rfl,r1⟩:=g7 r rfl
   unfold Rep at r1
   subst r1
   exact .inl ⟨_,rfl,k.here P q S (by unfold Rep;rfl)⟩
 · obtain⟨v,rfl,r1⟩:=g7 r rfl
   unfold Rep at r1
   subst r1
   exact .inr ⟨_,rfl,k.here P q S (by unfold Rep;rfl)⟩
 · exact q.elim
def m5:fD:=fun ds st K=>match ds with| [d]=>(match items? st d with|some xs=>K (.tup xs) st|none=>False)|_=>False
theorem AJ:bO X (.type "tuple") (gn m5):=bO.imp qW fun xs H Q ⟨α,ds,st,K,G,F',P,r,S,q,k⟩=>by
 unfold m5 at q
 split at q
 · rename_i d
   split at q
   · rename_i ys e
     obtain⟨v,rfl,r1⟩:=g7 r rfl
     cases d with
     |tup zs=>
      cases e
      have r0:=r1
      unfold Rep at r1
      obtain⟨a,vs,rfl,na,h1,h2⟩:=r1
      exact⟨a,vs,rfl,.inr ⟨.of (P.get h1),k.here P q S r0⟩⟩
     |_=>
      obtain⟨p,vs,rfl,r2,h⟩:=ki S r1 e
      refine⟨p,vs,rfl,?_⟩
      rcases h with h|h
      · exact .inl ⟨.inl (fZ P h),fun l hl=>k.tup P q S r2 hl⟩
      · first
         |(cases e;done)
         |(exfalso
           unfold items? at e
           simp only at e
           first
            |(split at e
              · rename_i z
                obtain⟨a,ea,vs',h1,h2⟩:=S.f_ z
                have e':=dA ea r1
                cases e'
                rw[h]at h1;cases h1
              · cases e)
            |(unfold Rep at r1
              obtain⟨a,vs',e',_,h1,_⟩:=r1
              cases e'
              rcases h1 with h1|⟨o,h1⟩<;>(rw[h]at h1;cases h1)))
   · exact q.elim
 · exact q.elim
def oE:fD:=fun ds st K=>match ds with| [d]=>(match items? st d with|some xs=>K (.lst xs) st|none=>False)|_=>False
theorem DZ:bO X (.type "list") (gn oE):=bO.imp mn fun xs H Q ⟨α,ds,st,K,G,F',P,r,S,q,k⟩=>by
 unfold oE at q
 split at q
 · split at q
   · rename_i ys e
     obtain⟨v,rfl,r1⟩:=g7 r rfl
     obtain⟨p,vs,rfl,r2,h⟩:=ki S r1 e
     exact⟨p,vs,rfl,vB P h,fun l hl=>k.lst P q S r2 hl⟩
   · exact q.elim
 · exact q.elim
def mM:fD:=fun ds st K=>match ds with| [d]=>(match items? st d with|some xs=>K (.ref st.length) (st++[.lst xs])|none=>False)|_=>False
theorem Ba:bO X (.type "list") (gn mM):=bO.imp mn fun xs H Q ⟨α,ds,st,K,G,F',P,r,S,q,k⟩=>by
 unfold mM at q
 split at q
 · split at q
   · rename_i ys e
     obtain⟨v,rfl,r1⟩:=g7 r rfl
     obtain⟨p,vs,rfl,r2,h⟩:=ki S r1 e
     exact⟨p,vs,rfl,vB P h,fun l hl=>k.new P q S r2 hl⟩
   · exact q.elim
 · exact q.elim
def jb:List D→Option (List Bool)
 | []=>some []
 | .bl b::r=>(jb r).map (b:: ·)
 |_::_=>none
theorem oC{α:List (Option Addr)}{H:Hp}:∀ {ds:List D} {vs:List V} {bs:List Bool},ay α H ds vs→jb ds=some bs→vs=bs.map V.bl
 | [],vs,bs,r,e=>by
   unfold ay at r
   cases e
   exact r
 |d::ds,vs,bs,r,e=>by
  unfold ay at r
  obtain⟨v,q,rfl,h1,h2⟩:=r
  cases d<;>try(cases e;done)
  unfold jb at e
  cases z:jb ds with
  |none=>rw[z]at e;cases e
  |some cs=>
   rw[z]at e
   cases e
   unfold Rep at h1
   rw[h1,oC h2 z]
   rfl
theorem oO:∀ {bs:List Bool} {us:List Value},Vals (bs.map V.bl) us→us=bs.map Value.bool
 | [],_,.nil=>rfl
 |b::bs,_,.cons h t=>by
  have h:_=Value.bool b:=h
  rw[h,oO t]
  rfl
end
end L3
namespace L3
open PySem PySem.Spec L2
open PyProof.Rows hiding St
section
variable {X:Cx}
def rj:fD:=fun ds st K=>match ds with| [.lst xs]=>(match jb xs with|some bs=>K (.bl (bs.all id)) st|none=>False)|_=>False
theorem range_all{α:Type}(l:List α)(f:α→Bool)(tr:Nat→Bool)(h:∀i x,l[i]?=some x→tr i=f x):(List.range l.length).all tr=l.all f:=by
 induction l generalizing tr with
 |nil=>rfl
 |cons a l ih=>
  rw[List.length_cons,List.range_succ_eq_map,List.all_cons,List.all_cons,List.all_map,h 0 a rfl]
  congr 1
  exact ih (tr∘Nat.succ) fun i x e=>h (i+1) x (by simpa using e)
theorem Fp(hc:X.calm=true):bO X (.builtin "all") (gn rj):=fun pins s σ H xs us Q I rs ⟨α,ds,st,K,G,F',P,r,S,q,k⟩=>by
 unfold rj at q
 split at q
 · rename_i ys
   split at q
   · rename_i bs e
     obtain⟨v,rfl,r1⟩:=g7 r rfl
     unfold Rep at r1
     obtain⟨a,vs,rfl,na,h1,h2⟩:=r1
     obtain⟨u,rfl,ru⟩:=vals1 rs
     cases ru
     have hv:=oC h2 e
     subst hv
     obtain⟨z,its,n,rv,hl,eo⟩:=Inv.uc I (fZ P h1)
     have hits:=oO rv
     subst hits
     have isL:s.heap.IsList a (bs.map Value.bool).toArray:=⟨_,eo,rfl,n,rfl⟩
     refine call_all_walk (wpAny_pyIter_list isL ?_)
     have hne:a≠s.heap.objs.size:=Nat.ne_of_lt (Heap.lt_size eo)
     refine⟨s.heap.objs.size,_,_,_,_,_,fun i=>(bs[i]?).getD true,rfl,Walks.list (A:=X.A.in1) (I.ok.hd hc) _ a hne (bs.map Value.bool).toArray,⟨⟨_,Heap.get?_push_size _ rfl,rfl,rfl⟩,⟨_,Heap.get?_push_of_some _ eo,rfl,n,rfl⟩⟩,?_,?_⟩
     · intro i w s' Q' E' hP hQ
       rw[List.getElem?_toArray,List.getElem?_map]at hP
       cases zb:bs[i]? with
       |none=>rw[zb]at hP;cases hP
       |some b=>
        rw[zb]at hP
        cases hP
        simp only[zb]at hQ
        exact wpAny_truthy_bool hQ
     · intro h' tk hk
       have kp:∀b o,s.heap.get? b=some o→h'.get? b=some o:=fun b o q=>hk b o (by
        intro hb
        have:b=s.heap.objs.size:=by simpa using hb
        exact absurd (Heap.lt_size q) (by rw[this];exact Nat.lt_irrefl _)) (Heap.get?_push_of_some _ q)
       have ea:(List.range (bs.map Value.bool).toArray.size).all (fun i=>(bs[i]?).getD true)=bs.all id:=by
        rw[List.size_toArray,List.length_map]
        exact range_all bs id _ fun i x e=>by rw[e];rfl
       rw[ea]
       exact⟨.bl (bs.all id),H,I.kept (t':=tk) kp,rfl,k.here P q S (by unfold Rep;rfl)⟩
   · exact q.elim
 · exact q.elim
def gO(st:ae):D→Option String
 | .aA=>some "NoneType"
 | .bl _=>some "bool"
 | .int _=>some "int"
 | .str _=>some "str"
 | .lst _=>some "list"
 | .tup _=>some "tuple"
 | .ref n=>(match st[n]? with|some (.lst _)=>some "list"|_=>none)
 | .ty _=>none
@[simp] theorem He(st:ae)(xs:List D):gO st (.lst xs)=some "list":=rfl
@[simp] theorem Hr(st:ae)(xs:List D):gO st (.tup xs)=some "tuple":=rfl
@[simp] theorem ty_int(st:ae)(i:Int):gO st (.int i)=some "int":=rfl
@[simp] theorem HA(st:ae)(i:Bool):gO st (.bl i)=some "bool":=rfl
@[simp] theorem ty_str(st:ae)(i:Str):gO st (.str i)=some "str":=rfl
@[simp] theorem Hi(st:ae):gO st .aA=some "NoneType":=rfl
def nV(t c:String):Bool:=t==c||(t=="bool"&&c=="int")
theorem sX{α:List (Option Addr)}{H:Hp}{st:ae}{K:PySem.W.Frag}{d:D}{v:V}{t:String}(S:aL α st H)(r:Rep α H d v)(e:gO st d=some t):gW K H v (.type t):=by
 cases d<;>unfold gO at e<;>try(cases e;done)
 · unfold Rep at r;cases e;subst r;exact .aA
 · unfold Rep at r;cases e;subst r;exact .bl _
 · unfold Rep at r;cases e;subst r;exact .int _
 · unfold Rep at r;cases e;subst r;exact .str _
 · simp only at e
   split at e
   · rename_i z
     cases e
     obtain⟨a,ea,vs',h1,h2⟩:=S.f_ z
     have r':=dA ea r
     subst r'
     exact .lst h1
   · cases e
 · cases e
   unfold Rep at r
   obtain⟨a,vs,rfl,na,h1,h2⟩:=r
   rcases h1 with h1|⟨o,h1⟩
   · exact .lst h1
   · exact .fo h1
 · cases e
   unfold Rep at r
   obtain⟨a,vs,rfl,na,h1,h2⟩:=r
   exact .tup h1
theorem uY{G F H:Hp}{K:PySem.W.Frag}(P:bJ G F H){x:V}{t:Value}(h:gW K G x t):gW K H x t:=by
 cases h with
 |aA=>exact .aA
 |bl x=>exact .bl x
 |int x=>exact .int x
 |str x=>exact .str x
 |nC x=>exact .nC x
 |lst e=>exact .lst (P.get e)
 |fo e=>exact .fo (P.get e)
 |tup e=>exact .tup (P.get e)
 |dK e=>exact .dK (P.get e)
 |dT e=>exact .dT (P.get e)
 |ins e a b c d f=>exact .ins (P.get e) a b c d f
def mS:List String:=["NoneType","bool","int","str","list","tuple"]
def jM:List String:=["bool","int","str","list","tuple"]
theorem u3(K:PySem.W.Frag){t c:String}(ht:t∈mS)(hc:c∈jM):PySem.W.kitOne K (.type t) (.type c)=some (nV t c):=by
 simp only[mS,jM,List.mem_cons,List.not_mem_nil,or_false]at ht hc
 rcases ht with rfl|rfl|rfl|rfl|rfl|rfl<;>rcases hc with rfl|rfl|rfl|rfl|rfl<;>with_unfolding_all rfl
theorem tX{st:ae}{d:D}{t:String}(e:gO st d=some t):t∈mS:=by
 cases d<;>unfold gO at e<;>first
  |(cases e;done)
  |(cases e;decide)
  |(simp only at e;split at e<;>cases e;decide)
theorem kitx_of{pins:List (Addr×Obj)}{σ:L2.St}{H:Hp}{s:Shared}{x:V}{u:Value}{t:String}(I:Inv X pins σ H s)(rx:RelV x u)(ty:gW X.K H x (.type t)):
 ∃Hh:Heap→Prop,PySem.W.KitX X.K u (.type t) Hh∧Hh s.heap∧u≠ .builtin "__main__.__loader__#opaque":=by
 cases ty with
 |aA=>cases (show u=Value.none from rx);exact⟨_,PySem.W.kitx_none,True.intro,fun z=>nomatch z⟩
 |bl y=>cases (show u=Value.bool y from rx);exact⟨_,PySem.W.kitx_bool,True.intro,fun z=>nomatch z⟩
 |int i=>obtain⟨t,q⟩:=(show∃t,u=Value.int i t from rx);cases q;exact⟨_,PySem.W.kitx_int,True.intro,fun z=>nomatch z⟩
 |str y=>obtain⟨t,q⟩:=(show∃t,u=Value.str y t from rx);cases q;exact⟨_,PySem.W.kitx_str,True.intro,fun z=>nomatch z⟩
 |nC y=>obtain⟨t,q⟩:=(show∃t,u=Value.float y t from rx);cases q;exact⟨_,PySem.W.kitx_float,True.intro,fun z=>nomatch z⟩
 | @lst a xs ea=>
   cases (show u=Value.ref a from rx)
   obtain⟨_,_,n,_,h1⟩:=(show cR X.prog X.w H s.heap a (.lst xs)from I.aH a _ ea)
   exact⟨_,PySem.W.kitx_list,⟨_,h1,rfl⟩,fun z=>nomatch z⟩
 | @fo a ob xs ea=>
   cases (show u=Value.ref a from rx)
   obtain⟨_,_,_,n,_,h1⟩:=(show cR X.prog X.w H s.heap a (.fo ob (.lst xs))from I.aH a _ ea)
   exact⟨_,PySem.W.kitx_list,⟨_,h1,rfl⟩,fun z=>nomatch z⟩
 | @tup a xs ea=>
   cases (show u=Value.ref a from rx)
   obtain⟨_,_,_,p⟩:=(show cR X.prog X.w H s.heap a (.tup xs)from I.aH a _ ea)
   obtain⟨o,h1,h2,_⟩:=p
   exact⟨_,PySem.W.kitx_tuple,⟨o,h1,h2⟩,fun z=>nomatch z⟩
 | @dK a kvs ea=>
   cases (show u=Value.ref a from rx)
   obtain⟨_,_,vs,_,p⟩:=(show cR X.prog X.w H s.heap a (.dK kvs)from I.aH a _ ea)
   obtain⟨o,es,ep,h1,h2,_⟩:=p
   exact⟨_,PySem.W.kitx_dict,⟨o,h1,h2.1⟩,fun z=>nomatch z⟩
 | @dT a kvs ea=>
   cases (show u=Value.ref a from rx)
   obtain⟨_,_,xs,_,o,es,ep,h1,h2,_⟩:=(show cR X.prog X.w H s.heap a (.dT kvs)from I.aH a _ ea)
   exact⟨_,PySem.W.kitx_dict,⟨o,h1,h2.1⟩,fun z=>nomatch z⟩
def kT:List D→Option (List String)
 | []=>some []
 | .ty b::r=>(kT r).map (b:: ·)
 |_::_=>none
theorem sV{α:List (Option Addr)}{H:Hp}:∀ {ds:List D} {vs:List V} {bs:List String},ay α H ds vs→kT ds=some bs→vs=bs.map V.ty
 | [],vs,bs,r,e=>by
   unfold ay at r
   cases e
   exact r
 |d::ds,vs,bs,r,e=>by
  unfold ay at r
  obtain⟨v,q,rfl,h1,h2⟩:=r
  cases d<;>try(cases e;done)
  unfold kT at e
  cases z:kT ds with
  |none=>rw[z]at e;cases e
  |some cs=>
   rw[z]at e
   cases e
   unfold Rep at h1
   rw[h1,sV h2 z]
   rfl
theorem tx:∀ {bs:List String} {us:List Value},Vals (bs.map V.ty) us→us=bs.map Value.type
 | [],_,.nil=>rfl
 |b::bs,_,.cons h t=>by
  have h:_=Value.type b:=h
  rw[h,tx t]
  rfl
theorem u7(K:PySem.W.Frag){t:String}(ht:t∈mS):∀cs:List String,(∀c∈cs,c∈jM)→PySem.W.kitAny K (.type t) (cs.map Value.type)=some (cs.any (nV t))
 | [],_=>rfl
 |c::cs,h=>by
  show(match PySem.W.kitOne K (.type t) (.type c)with|some true=>some true|some false=>PySem.W.kitAny K (.type t) (cs.map Value.type)|none=>none)=_
  rw[u3 K ht (h c List.mem_cons_self),List.any_cons]
  cases nV t c with
  |true=>rfl
  |false=>exact u7 K ht cs fun c hc=>h c (List.mem_cons_of_mem _ hc)
def rG:fD:=fun ds st K=>match ds with
 | [d,.ty c]=>(match gO st d with|some t=>c∈jM∧K (.bl (nV t c)) st|none=>False)
 | [d,.tup cs]=>(match gO st d,kT cs with|some t,some cl=>(∀c∈cl,c∈jM)∧K (.bl (cl.any (nV t))) st|_,_=>False)
 |_=>False
theorem Fi:bO X (.builtin "isinstance") (gn rG):=fun pins s σ H xs us Q I rs ⟨α,ds,st,K,G,F',P,r,S,q,k⟩=>by
 unfold rG at q
 split at q
 · rename_i d c
   split at q
   · rename_i t e
     obtain⟨v,v2,rfl,r1,r2⟩:=la r rfl
     obtain⟨u,u2,rfl,ru,ru2⟩:=vals2 rs
     unfold Rep at r2
     subst r2
     cases (show u2=Value.type c from ru2)
     exact wX I ru (uY P (sX S r1 e)) (u3 _ (tX e) q.1) fun tk=>⟨.bl (nV t c),H,I.tok tk,rfl,k.here P q.2 S (by unfold Rep;rfl)⟩
   · exact q.elim
 · rename_i d cs
   split at q
   · rename_i t cl e ec
     obtain⟨v,v2,rfl,r1,r2⟩:=la r rfl
     obtain⟨u,u2,rfl,ru,ru2⟩:=vals2 rs
     unfold Rep at r2
     obtain⟨a,vs,rfl,na,h1,h2⟩:=r2
     cases (show u2=Value.ref a from ru2)
     have hv:=sV h2 ec
     subst hv
     obtain⟨Hh,Z,hh,hne⟩:=kitx_of I ru (uY P (sX S r1 e))
     obtain⟨its,r',pl,hz⟩:=I.tuple (gs.of (P.get h1))
     have hi:=tx r'
     subst hi
     obtain⟨⟨cls,dd,data,sl⟩,ho,hc,n,hd⟩:=pl
     simp only at hc hd
     subst hc hd
     exact PySem.W.kia_tup Z I.fI hh ho (u7 _ (tX e) cl q.1) hne fun tk=>⟨.bl _,H,I.tok tk,rfl,k.here P q.2 S (by unfold Rep;rfl)⟩
   · exact q.elim
 · exact q.elim
end
end L3
namespace L3
open PySem PySem.Spec L2 PySem.SeqAt
open PyProof.Rows hiding St
mutual
def bZ:D→D→Bool
 | .aA,.aA=>true
 | .bl a,.bl b=>a==b
 | .bl a,.int b=>(if a then 1 else 0)==b
 | .int a,.bl b=>a==(if b then 1 else 0)
 | .int a,.int b=>a==b
 | .str a,.str b=>a==b
 | .lst xs,.lst ys=>iu xs ys
 | .tup xs,.tup ys=>iu xs ys
 |_,_=>false
def iu:List D→List D→Bool
 | [],[]=>true
 |x::xs,y::ys=>bZ x y&&iu xs ys
 |_,_=>false
end
def pl:Nat→D→Bool
 |_,.aA=>true
 |_,.bl _=>true
 |_,.int _=>true
 |_,.str _=>true
 |n+1,.lst xs=>xs.all (pl n)
 |n+1,.tup xs=>xs.all (pl n)
 |_,_=>false
mutual
theorem gB:∀(n:Nat) (d:D),pl n d=true→bZ d d=true
 |_,.aA,_=>rfl
 |_,.bl _,_=>by simp[bZ]
 |_,.int _,_=>by simp[bZ]
 |_,.str _,_=>by simp[bZ]
 |n+1,.lst xs,h=>by unfold bZ;exact mi n xs (by unfold pl at h;exact h)
 |n+1,.tup xs,h=>by unfold bZ;exact mi n xs (by unfold pl at h;exact h)
 |0,.lst xs,h=>by cases h
 |0,.tup xs,h=>by cases h
 |_,.ref _,h=>by unfold pl at h;cases h
 |_,.ty _,h=>by unfold pl at h;cases h
theorem mi:∀(n:Nat) (xs:List D),xs.all (pl n)=true→iu xs xs=true
 |_,[],_=>by unfold iu;rfl
 |n,x::xs,h=>by
  rw[List.all_cons,Bool.and_eq_true]at h
  unfold iu
  rw[gB n x h.1,mi n xs h.2]
  rfl
end
mutual
theorem Rep.inj{α:List (Option Addr)}{H:Hp}:∀ {d e:D} {v:V} (n:Nat),pl n d=true→pl n e=true→Rep α H d v→Rep α H e v→d=e
 | .aA,e,v,n,_,he,h1,h2=>by
   unfold Rep at h1;subst h1
   cases e<;>first|(unfold pl at he;cases he;done)|(unfold Rep at h2;cases h2;rfl)|(unfold Rep at h2;cases h2;done)|(unfold Rep at h2;obtain⟨_,_,h2,_⟩:=h2;cases h2)|rfl|(cases h2;done)|(obtain⟨_,_,h2,_⟩:=h2;cases h2)|(obtain⟨_,_,h2⟩:=h2;cases h2)
 | .bl b,e,v,n,_,he,h1,h2=>by
   unfold Rep at h1;subst h1
   cases e<;>first|(unfold pl at he;cases he;done)|(unfold Rep at h2;cases h2;rfl)|(unfold Rep at h2;cases h2;done)|(unfold Rep at h2;obtain⟨_,_,h2,_⟩:=h2;cases h2)|(cases h2;rfl)|(cases h2;done)|(obtain⟨_,_,h2,_⟩:=h2;cases h2)|(obtain⟨_,_,h2⟩:=h2;cases h2)
 | .int b,e,v,n,_,he,h1,h2=>by
   unfold Rep at h1;subst h1
   cases e<;>first|(unfold pl at he;cases he;done)|(unfold Rep at h2;cases h2;rfl)|(unfold Rep at h2;cases h2;done)|(unfold Rep at h2;obtain⟨_,_,h2,_⟩:=h2;cases h2)|(cases h2;rfl)|(cases h2;done)|(obtain⟨_,_,h2,_⟩:=h2;cases h2)|(obtain⟨_,_,h2⟩:=h2;cases h2)
 | .str b,e,v,n,_,he,h1,h2=>by
   unfold Rep at h1;subst h1
   cases e<;>first|(unfold pl at he;cases he;done)|(unfold Rep at h2;cases h2;rfl)|(unfold Rep at h2;cases h2;done)|(unfold Rep at h2;obtain⟨_,_,h2,_⟩:=h2;cases h2)|(cases h2;rfl)|(cases h2;done)|(obtain⟨_,_,h2,_⟩:=h2;cases h2)|(obtain⟨_,_,h2⟩:=h2;cases h2)
 | .ty b,e,v,n,hd,he,h1,h2=>by unfold pl at hd;cases hd
 | .ref b,e,v,n,hd,he,h1,h2=>by unfold pl at hd;cases hd
 | .lst xs,e,v,0,hd,he,h1,h2=>by cases hd
 | .tup xs,e,v,0,hd,he,h1,h2=>by cases hd
 | .lst xs,e,v,n+1,hd,he,h1,h2=>by
   unfold Rep at h1
   obtain⟨a,vs,rfl,na,ha,ra⟩:=h1
   cases e<;>unfold Rep at h2<;>try(cases h2;done)
   · unfold pl at he;cases he
   · obtain⟨a',vs',e',na',ha',ra'⟩:=h2
     cases e'
     have:vs=vs':=by
      rcases ha with ha|⟨o,ha⟩<;>rcases ha' with ha'|⟨o',ha'⟩<;>(rw[ha]at ha';first|(cases ha';rfl)|(cases ha';done))
     subst this
     rw[ay.inj n (by unfold pl at hd;exact hd) (by unfold pl at he;exact he) ra ra']
   · obtain⟨a',vs',e',na',ha',ra'⟩:=h2
     cases e'
     rcases ha with ha|⟨o,ha⟩<;>(rw[ha]at ha';cases ha')
 | .tup xs,e,v,n+1,hd,he,h1,h2=>by
   unfold Rep at h1
   obtain⟨a,vs,rfl,na,ha,ra⟩:=h1
   cases e<;>unfold Rep at h2<;>try(cases h2;done)
   · unfold pl at he;cases he
   · obtain⟨a',vs',e',na',ha',ra'⟩:=h2
     cases e'
     rcases ha' with ha'|⟨o,ha'⟩<;>(rw[ha]at ha';cases ha')
   · obtain⟨a',vs',e',na',ha',ra'⟩:=h2
     cases e'
     rw[ha]at ha'
     cases ha'
     rw[ay.inj n (by unfold pl at hd;exact hd) (by unfold pl at he;exact he) ra ra']
theorem ay.inj{α:List (Option Addr)}{H:Hp}:∀ {ds es:List D} {vs:List V} (n:Nat),ds.all (pl n)=true→es.all (pl n)=true→ay α H ds vs→ay α H es vs→ds=es
 | [],es,vs,n,_,_,h1,h2=>by
   unfold ay at h1
   subst h1
   cases es with
   |nil=>rfl
   |cons e es=>unfold ay at h2;obtain⟨_,_,h,_⟩:=h2;cases h
 |d::ds,es,vs,n,hd,he,h1,h2=>by
  unfold ay at h1
  obtain⟨v,r,rfl,r1,r2⟩:=h1
  cases es with
  |nil=>unfold ay at h2;cases h2
  |cons e es=>
   unfold ay at h2
   obtain⟨v',r',h,q1,q2⟩:=h2
   cases h
   rw[List.all_cons,Bool.and_eq_true]at hd he
   rw[Rep.inj n hd.1 he.1 r1 q1,ay.inj n hd.2 he.2 r2 q2]
end
theorem iJ:∀ {xs ys:List D},xs.length≠ys.length→iu xs ys=false
 | [],[],h=>absurd rfl h
 | [],_::_,_=>by unfold iu;rfl
 |_::_,[],_=>by unfold iu;rfl
 |x::xs,y::ys,h=>by
  unfold iu
  rw[iJ (by simpa using h),Bool.and_false]
theorem ka:∀ {xs ys:List D},xs.length=ys.length→iu xs ys=(List.range xs.length).all fun j=>bZ (xs.getD j .aA) (ys.getD j .aA)
 | [],[],_=>by unfold iu;rfl
 | [],_::_,h=>by cases h
 |_::_,[],h=>by cases h
 |x::xs,y::ys,h=>by
  unfold iu
  rw[List.length_cons,List.range_succ_eq_map,List.all_cons,List.all_map,ka (by simpa using h)]
  rfl
section
variable {X:Cx}{pins:List (Addr×Obj)}{σ:L2.St}{H:Hp}{s:Shared}{α:List (Option Addr)}
theorem ie{xs:List D}{vs:List V}{its:List Value}(r:ay α H xs vs)(v:Vals vs its)(j:Nat)(hj:j<its.length):∃x,xs[j]?=some (xs.getD j .aA)∧Rep α H (xs.getD j .aA) x∧RelV x its[j]:=by
 have h1:=r.length
 have h2:=v.length
 have hx:j<xs.length:=by omega
 have e:xs[j]?=some (xs.getD j .aA):=by rw[List.getElem?_eq_getElem hx,List.getD_eq_getElem?_getD,List.getElem?_eq_getElem hx];rfl
 obtain⟨x,q,rr⟩:=r.get e
 obtain⟨u,q2,rv⟩:=v.get q
 rw[List.getElem?_eq_getElem hj]at q2
 cases q2
 exact⟨x,e,rr,rv⟩
theorem gp{xs:List D}{n:Nat}(h:xs.all (pl n)=true)(j:Nat):pl n (xs.getD j .aA)=true:=by
 rw[List.getD_eq_getElem?_getD]
 cases e:xs[j]? with
 |none=>cases n<;>rfl
 |some d=>exact List.all_eq_true.mp h d (List.mem_of_getElem? e)
def qA:D→Bool
 | .aA=>true
 | .bl _=>true
 | .int _=>true
 | .str _=>true
 |_=>false
theorem uN{A:Around}{d e:D}{x y:V}{u v:Value}(hd:qA d=true)(he:qA e=true)(rd:Rep α H d x)(re:Rep α H e y)(rx:RelV x u)(ry:RelV y v):RcAt A s u v (bZ d e)∧EqAt A s u v (bZ d e):=by
 cases d<;>cases e<;>try(first|(cases hd;done)|(cases he;done))
 all_goals(unfold Rep at rd re;subst rd re)
 all_goals(first|(obtain⟨t,rfl⟩:=rx;obtain⟨t',rfl⟩:=ry)|(obtain⟨t,rfl⟩:=rx;cases ry)|(cases rx;obtain⟨t,rfl⟩:=ry)|(cases rx;cases ry))
 all_goals unfold bZ
 · exact⟨RcAt.none_none,EqAt.same _⟩
 · exact⟨RcAt.none_bool _,EqAt.none_bool _⟩
 · exact⟨RcAt.none_int _ _,EqAt.none_int _ _⟩
 · exact⟨RcAt.none_str _ _,EqAt.none_str _ _⟩
 · exact⟨RcAt.bool_none _,EqAt.bool_none _⟩
 · exact⟨RcAt.bool_bool _ _,EqAt.bool_bool _ _⟩
 · exact⟨RcAt.bool_int _ _ _,EqAt.bool_int _ _ _⟩
 · exact⟨RcAt.bool_str _ _ _,EqAt.bool_str _ _ _⟩
 · exact⟨RcAt.int_none _ _,EqAt.int_none _ _⟩
 · exact⟨RcAt.int_bool _ _ _,EqAt.int_bool _ _ _⟩
 · exact⟨RcAt.int_int _ _ _ _,EqAt.int_int _ _ _ _⟩
 · exact⟨RcAt.int_str _ _ _ _,EqAt.int_str _ _ _ _⟩
 · exact⟨RcAt.str_none _ _,EqAt.str_none _ _⟩
 · exact⟨RcAt.str_bool _ _ _,EqAt.str_bool _ _ _⟩
 · exact⟨RcAt.str_int _ _ _ _,EqAt.str_int _ _ _ _⟩
 · exact⟨RcAt.str_str _ _ _ _,EqAt.str_str _ _ _ _⟩
theorem lst_is(I:Inv X pins σ H s){xs:List D}{x:V}{u:Value}(r:Rep α H (.lst xs) x)(rx:RelV x u):∃a vs its,u= .ref a∧ay α H xs vs∧Vals vs its∧s.heap.IsList a its.toArray:=by
 unfold Rep at r
 obtain⟨a,vs,rfl,na,ha,ra⟩:=r
 cases rx
 obtain⟨z,its,n,rv,hl,eo⟩:=Inv.uc I ha
 exact⟨a,vs,its,rfl,ra,rv,⟨_,eo,rfl,n,rfl⟩⟩
theorem tup_is(I:Inv X pins σ H s){xs:List D}{x:V}{u:Value}(r:Rep α H (.tup xs) x)(rx:RelV x u):∃a vs its,u= .ref a∧ay α H xs vs∧Vals vs its∧s.heap.IsTuple a its.toArray:=by
 unfold Rep at r
 obtain⟨a,vs,rfl,na,ha,ra⟩:=r
 cases rx
 obtain⟨its,r',p,hz⟩:=I.tuple (gs.of ha)
 exact⟨a,vs,its,rfl,ra,r',p⟩
theorem qh(I:Inv X pins σ H s){A:Around}{xs:List D}{e:D}{x y:V}{u v:Value}(he:qA e=true)(rd:Rep α H (.lst xs) x)(re:Rep α H e y)(rx:RelV x u)(ry:RelV y v)(hu:A.units<cLine):
 (RcAt A s u v (bZ (.lst xs) e)∧EqAt A s u v (bZ (.lst xs) e))∧RcAt A s v u (bZ e (.lst xs))∧EqAt A s v u (bZ e (.lst xs)):=by
 obtain⟨a,vs,its,rfl,_,_,hl⟩:=lst_is I rd rx
 cases e<;>try(cases he;done)
 all_goals(unfold Rep at re;subst re)
 all_goals(first|(obtain⟨t,rfl⟩:=ry)|(cases ry))
 all_goals unfold bZ
 · exact⟨⟨RcAt.list_none hl hu,EqAt.list_none hl hu⟩,RcAt.none_list hl hu,EqAt.none_list hl hu⟩
 · exact⟨⟨RcAt.list_bool _ hl hu,EqAt.list_bool _ hl hu⟩,RcAt.bool_list _ hl hu,EqAt.bool_list _ hl hu⟩
 · exact⟨⟨RcAt.list_int _ _ hl hu,EqAt.list_int _ _ hl hu⟩,RcAt.int_list _ _ hl hu,EqAt.int_list _ _ hl hu⟩
 · exact⟨⟨RcAt.list_str _ _ hl hu,EqAt.list_str _ _ hl hu⟩,RcAt.str_list _ _ hl hu,EqAt.str_list _ _ hl hu⟩
theorem qz(I:Inv X pins σ H s){A:Around}{xs:List D}{e:D}{x y:V}{u v:Value}(he:qA e=true)(rd:Rep α H (.tup xs) x)(re:Rep α H e y)(rx:RelV x u)(ry:RelV y v)(hu:A.units<cLine):
 (RcAt A s u v (bZ (.tup xs) e)∧EqAt A s u v (bZ (.tup xs) e))∧RcAt A s v u (bZ e (.tup xs))∧EqAt A s v u (bZ e (.tup xs)):=by
 obtain⟨a,vs,its,rfl,_,_,hl⟩:=tup_is I rd rx
 cases e<;>try(cases he;done)
 all_goals(unfold Rep at re;subst re)
 all_goals(first|(obtain⟨t,rfl⟩:=ry)|(cases ry))
 all_goals unfold bZ
 · exact⟨⟨RcAt.tuple_none hl hu,EqAt.tuple_none hl hu⟩,RcAt.none_tuple hl hu,EqAt.none_tuple hl hu⟩
 · exact⟨⟨RcAt.tuple_bool _ hl hu,EqAt.tuple_bool _ hl hu⟩,RcAt.bool_tuple _ hl hu,EqAt.bool_tuple _ hl hu⟩
 · exact⟨⟨RcAt.tuple_int _ _ hl hu,EqAt.tuple_int _ _ hl hu⟩,RcAt.int_tuple _ _ hl hu,EqAt.int_tuple _ _ hl hu⟩
 · exact⟨⟨RcAt.tuple_str _ _ hl hu,EqAt.tuple_str _ _ hl hu⟩,RcAt.str_tuple _ _ hl hu,EqAt.str_tuple _ _ hl hu⟩
theorem ve{A:Around}{n:Nat}{d e:D}{x y:V}{a b:Addr}(hd:pl n d=true)(he:pl n e=true)(rd:Rep α H d x)(re:Rep α H e y)(rx:RelV x (.ref a))(ry:RelV y (.ref b))(h:RcAt A s (.ref a) (.ref b) (bZ d e)):
 RcAt A s (.ref a) (.ref b) (bZ d e)∧EqAt A s (.ref a) (.ref b) (bZ d e):=by
 refine⟨h,?_⟩
 by_cases hab:a=b
 · subst hab
   have hx:x=y:=RelV.inj rx ry
   subst hx
   have:=Rep.inj n hd he rd re
   subst this
   rw[gB n d hd]
   exact EqAt.same _
 · exact EqAt.of_refs hab h
theorem wd(I:Inv X pins σ H s):∀(n:Nat) (A:Around) (d e:D) (x y:V) (u v:Value),pl n d=true→pl n e=true→Rep α H d x→Rep α H e y→RelV x u→RelV y v→A.units+n<cLine→
 RcAt A s u v (bZ d e)∧EqAt A s u v (bZ d e):=by
 intro n
 induction n with
 |zero=>
  intro A d e x y u v hd he rd re rx ry hu
  refine uN ?_ ?_ rd re rx ry
  · cases d<;>first|rfl|(cases hd)
  · cases e<;>first|rfl|(cases he)
 |succ n ih=>
  intro A d e x y u v hd he rd re rx ry hu
  have hu0:A.units<cLine:=by omega
  have hin:A.in1.units+n<cLine:=by rw[Around.in1_units];omega
  cases d<;>try(cases hd;done)
  case lst xs=>
   cases e<;>try(cases he;done)
   case lst ys=>
    have rd0:=rd
    have re0:=re
    have rx0:=rx
    have ry0:=ry
    obtain⟨a,vs,its,rfl,r1,v1,l1⟩:=lst_is I rd rx
    obtain⟨b,ws,jts,rfl,r2,v2,l2⟩:=lst_is I re ry
    have e1:=r1.length
    have e2:=v1.length
    have e3:=r2.length
    have e4:=v2.length
    refine ve hd he rd0 re0 rx0 ry0 ?_
    unfold bZ
    by_cases hlen:xs.length=ys.length
    · rw[ka hlen]
      have hsz:its.toArray.size=jts.toArray.size:=by simp only[List.size_toArray];omega
      have hx:xs.length=its.toArray.size:=by simp only[List.size_toArray];omega
      rw[hx]
      refine RcAt.lists l1 l2 hsz hu0 fun j h1 h2=>?_
      have h1':j<its.length:=by simpa using h1
      have h2':j<jts.length:=by simpa using h2
      obtain⟨p,_,q1,q2⟩:=ie r1 v1 j h1'
      obtain⟨p',_,q1',q2'⟩:=ie r2 v2 j h2'
      exact(ih A.in1 _ _ p p' _ _ (gp (by unfold pl at hd;exact hd) j) (gp (by unfold pl at he;exact he) j) q1 q1' (by simpa using q2) (by simpa using q2') hin).2
    · rw[iJ hlen]
      exact RcAt.lists_lengths l1 l2 (by simp only[List.size_toArray,bne_iff_ne,ne_eq];omega) hu0
   case tup ys=>
    obtain⟨a,vs,its,rfl,r1,v1,l1⟩:=lst_is I rd rx
    obtain⟨b,ws,jts,rfl,r2,v2,l2⟩:=tup_is I re ry
    unfold bZ
    exact⟨RcAt.list_tuple l1 l2 hu0,EqAt.list_tuple l1 l2 hu0⟩
   all_goals exact(qh I rfl rd re rx ry hu0).1
  case tup xs=>
   cases e<;>try(cases he;done)
   case tup ys=>
    have rd0:=rd
    have re0:=re
    have rx0:=rx
    have ry0:=ry
    obtain⟨a,vs,its,rfl,r1,v1,l1⟩:=tup_is I rd rx
    obtain⟨b,ws,jts,rfl,r2,v2,l2⟩:=tup_is I re ry
    have e1:=r1.length
    have e2:=v1.length
    have e3:=r2.length
    have e4:=v2.length
    refine ve hd he rd0 re0 rx0 ry0 ?_
    unfold bZ
    have key:=RcAt.tuples (e:=fun j=>bZ (xs.getD j .aA) (ys.getD j .aA)) l1 l2 hu0 fun j h1 h2=>by
     have h1':j<its.length:=by simpa using h1
     have h2':j<jts.length:=by simpa using h2
     obtain⟨p,_,q1,q2⟩:=ie r1 v1 j h1'
     obtain⟨p',_,q1',q2'⟩:=ie r2 v2 j h2'
     exact(ih A.in1 _ _ p p' _ _ (gp (by unfold pl at hd;exact hd) j) (gp (by unfold pl at he;exact he) j) q1 q1' (by simpa using q2) (by simpa using q2') hin).2
    by_cases hlen:xs.length=ys.length
    · rw[ka hlen]
      have hsz:its.toArray.size=jts.toArray.size:=by simp only[List.size_toArray];omega
      have hx:xs.length=its.toArray.size:=by simp only[List.size_toArray];omega
      rw[hsz,Nat.min_self,beq_self_eq_true,Bool.and_true,←hsz,←hx]at key
      exact key
    · rw[iJ hlen]
      have hne:(its.toArray.size==jts.toArray.size)=false:=by simp only[List.size_toArray,beq_eq_false_iff_ne,ne_eq];omega
      rw[hne,Bool.and_false]at key
      exact key
   case lst ys=>
    obtain⟨a,vs,its,rfl,r1,v1,l1⟩:=tup_is I rd rx
    obtain⟨b,ws,jts,rfl,r2,v2,l2⟩:=lst_is I re ry
    unfold bZ
    exact⟨RcAt.tuple_list l1 l2 hu0,EqAt.tuple_list l1 l2 hu0⟩
   all_goals exact(qz I rfl rd re rx ry hu0).1
  all_goals
   cases e<;>try(cases he;done)
   case lst ys=>exact(qh I rfl re rd ry rx hu0).2
   case tup ys=>exact(qz I rfl re rd ry rx hu0).2
   all_goals exact uN rfl rfl rd re rx ry
def DJ:cO:=fun x y st K=>pl 40 x=true∧pl 40 y=true∧K (.bl (bZ x y)) st
theorem GQ{k:Nat}(hr:cq k X.A):bG X (compareOp .Eq) (LR DJ):=fun pins s σ H x y v u Q I rx ry ⟨α,d,e,st,K,G,F',P,r1,r2,S,q,k⟩=>by
 have hu:=hr.units
 exact(wd I 40 X.A d e x y v u q.1 q.2.1 (r1.mono P.same) (r2.mono P.same) rx ry (by omega)).1 _ _ _ _ ⟨.bl (bZ d e),H,I,rfl,k.here P q.2.2 S (by unfold Rep;rfl)⟩
def Ef:cO:=fun x y st K=>match x,y with
 | .int i,.int j=>K (.bl (!decide (i=j))) st
 | .bl i,.bl j=>K (.bl (!decide (i=j))) st
 | .str i,.str j=>K (.bl (!decide (i=j))) st
 |_,_=>False
theorem Gv:bG X (compareOp .NotEq) (LR Ef):=bG.imp Eo fun x y H Q ⟨α,d,e,st,K,G,F',P,r1,r2,S,q,k⟩=>by
 cases d<;>cases e<;>try exact q.elim
 all_goals(unfold Rep at r1 r2;subst r1 r2)
 · exact⟨rfl,k.here P q S (by unfold Rep;congr 2;exact decide_eq_decide.mpr ⟨fun h=>by cases h;rfl,fun h=>by rw[h]⟩)⟩
 · exact⟨rfl,k.here P q S (by unfold Rep;congr 2;exact decide_eq_decide.mpr ⟨fun h=>by cases h;rfl,fun h=>by rw[h]⟩)⟩
 · exact⟨rfl,k.here P q S (by unfold Rep;congr 2;exact decide_eq_decide.mpr ⟨fun h=>by cases h;rfl,fun h=>by rw[h]⟩)⟩
end
end L3
namespace L3
open PySem PySem.Spec L2
open PyProof.Rows hiding St
def LC(α:List (Option Addr))(G F:Hp)(K:bH→ae→Prop)(Q:L2.St→Hp→Prop):Prop:=∀σd' st',K σd' st'→∀α' G' H' σ',Step α G α' G'→bJ G' F H'→dh α' G' σd' σ'→aL α' st' G'→Q σ' H'
structure rk(α:List (Option Addr))(G F:Hp)(DD:jC)(D:Ends):Prop where
 nx:LC α G F DD.nx D.nx
 rt:LK α G F DD.rt D.rt
 bk:LC α G F DD.bk D.bk
 ct:LC α G F DD.ct D.ct
inductive FY(t:DS)(D:Ends)(σ:L2.St)(H:Hp):Prop
 |mk (α:List (Option Addr)) (σd:bH) (st:ae) (DD:jC) (G F:Hp) (P:bJ G F H) (R:dh α G σd σ) (S:aL α st G) (h:t DD σd st) (k:rk α G F DD D):FY t D σ H
def LS(t:DS):TS:=FY t
theorem LC.at{α α1:List (Option Addr)}{G F G1:Hp}{K:bH→ae→Prop}{Q:L2.St→Hp→Prop}(h:LC α G F K Q)(s:Step α G α1 G1):LC α1 G1 F K Q:=fun d st' k α' G' H' v s' P R S=>h d st' k α' G' H' v (s.trans s') P R S
theorem LC.here{α:List (Option Addr)}{G F H:Hp}{K:bH→ae→Prop}{Q:L2.St→Hp→Prop}(h:LC α G F K Q)(P:bJ G F H){σd:bH}{st:ae}{σ:L2.St}(k:K σd st)(R:dh α G σd σ)(S:aL α st G):Q σ H:=h σd st k α G H σ Step.refl P R S
theorem rk.at{α α1:List (Option Addr)}{G F G1:Hp}{DD:jC}{D:Ends}(h:rk α G F DD D)(s:Step α G α1 G1):rk α1 G1 F DD D:=⟨h.nx.at s,h.rt.at s,h.bk.at s,h.ct.at s⟩
section
variable {X:Cx}{a b c e o i:Expr}{es:List Expr}{ta tb tc te:DE}{pos:Pos}{st:Stmt}{sts:List Stmt}{t u:DS}
theorem PS.imp{t t':TS}(h:PS X st t)(f:∀D σ H,t' D σ H→t D σ H):PS X st t':=fun pins s σ H D I q=>h pins s σ H D I (f D σ H q)
theorem fG.imp{t t':TS}(h:fG X sts t)(f:∀D σ H,t' D σ H→t D σ H):fG X sts t':=fun pins s σ H D I q=>h pins s σ H D I (f D σ H q)
def cT:DS:=fun D σ st=>D.nx σ st
def aQ(t u:DS):DS:=fun D σ st=>t {D with nx:=u D} σ st
theorem Bg:fG X [] (LS cT):=fG.imp AM fun D σ H ⟨α,σd,st,DD,G,F,P,R,S,t,k⟩=>k.nx.here P t R S
theorem Be(h:PS X st (LS t)):fG X [st] (LS t):=Ay h
theorem zD(h:PS X st (LS t))(h2:fG X sts (LS u)):fG X (st::sts) (LS (aQ t u)):=fG.imp (y8 h h2) fun D σ H ⟨α,σd,st,DD,G,F,P,R,S,t,k⟩=>
 ⟨α,σd,st,_,G,F,P,R,S,t,fun σd' st' q α' G' H' σ' s' P' R' S'=>⟨α',σd',st',DD,G',F,P',R',S',q,k.at s'⟩,k.rt,k.bk,k.ct⟩
def bT(te:DE):DS:=fun D σ st=>te σ st D.rt
theorem Eb(h:PE X e (LE te)):PS X (.Return (some e) pos) (LS (bT te)):=PS.imp (C7 h) fun D σ H ⟨α,σd,st,DD,G,F,P,R,S,t,k⟩=>⟨α,σd,st,_,G,F,P,R,S,t,k.rt⟩
def iZ(te:DE):DS:=fun D σ st=>te σ st fun _ st1=>D.nx σ st1
theorem AG(h:PE X e (LE te))(hs:swapsWith e none pos.line X.env=pure false:=by rfl):PS X (.Expr e pos) (LS (iZ te)):=PS.imp (Bc h hs) fun D σ H ⟨α,σd,st,DD,G,F,P,R,S,t,k⟩=>
 ⟨α,σd,st,_,G,F,P,R,S,t,fun d st1 q α1 G1 H1 v s1 P1 S1 r1=>(k.nx.at s1).here P1 q (R.step s1) S1⟩
def dE(c:DT)(t u:DS):DS:=fun D σ st=>c σ st fun b st1=>if b=true then t D σ st1 else u D σ st1
theorem Fo{x y:List Stmt}{tc:DT}(hc:PT X c (LT tc))(ha:fG X x (LS t))(hb:fG X y (LS u)):PS X (.If c x y pos) (LS (dE tc t u)):=PS.imp (FJ hc ha hb) fun D σ H ⟨α,σd,st,DD,G,F,P,R,S,t,k⟩=>by
 refine⟨α,σd,st,_,G,F,P,R,S,t,fun b st1 q α1 G1 H1 s1 P1 S1=>?_⟩
 cases b with
 |true=>exact⟨α1,σd,st1,DD,G1,F,P1,R.step s1,S1,q,k.at s1⟩
 |false=>exact⟨α1,σd,st1,DD,G1,F,P1,R.step s1,S1,q,k.at s1⟩
abbrev eS:=D→bH→Option bH
def bD(i:Nat):eS:=fun d σ=>some (σ.set i (some d))
def i5(i j:Nat):eS:=fun d σ=>match d with| .tup [x,y]=>some ((σ.set i (some x)).set j (some y))|_=>none
inductive FP(t:eS)(v:V)(σ:L2.St)(H:Hp)(Q:L2.St→Hp→Prop):Prop
 |mk (α:List (Option Addr)) (σd:bH) (st:ae) (d:D) (K:bH→ae→Prop) (G F:Hp) (P:bJ G F H) (R:dh α G σd σ) (S:aL α st G) (r:Rep α G d v) (h:∃σ',t d σd=some σ'∧K σ' st) (k:LC α G F K Q):FP t v σ H Q
def LG(t:eS):TG:=FP t
theorem PG.imp{tg:Expr}{t t':TG}(h:PG X tg t)(f:∀v σ H Q,t' v σ H Q→t v σ H Q):PG X tg t':=fun pins s σ H v u Q I r q=>h pins s σ H v u Q I r (f v σ H Q q)
theorem BB{tg:Expr}{i:Nat}(h:PG X tg (g9 i)):PG X tg (LG (bD i)):=PG.imp h fun v σ H Q ⟨α,σd,st,d,K,G,F,P,R,S,r,⟨σ',e,q⟩,k⟩=>by
 cases e
 exact k.here P q (R.set i r) S
theorem Cv{tg:Expr}{i j:Nat}(h:PG X tg (yN X.K 2 (mK (g9 i) (mK (g9 j) zi)))):PG X tg (LG (i5 i j)):=PG.imp h fun v σ H Q ⟨α,σd,st,d,K,G,F,P,R,S,r,⟨σ',e,q⟩,k⟩=>by
 unfold i5 at e
 split at e
 · rename_i x y
   cases e
   unfold Rep at r
   obtain⟨a,vs,rfl,na,h1,h2⟩:=r
   obtain⟨v1,v2,rfl,r1,r2⟩:=la h2 rfl
   exact⟨a,_,rfl,.of (P.get h1),rfl,v1,_,rfl,v2,_,rfl,rfl,k.here P q ((R.set i r1).set j r2) S⟩
 · cases e
def cf(i:Nat)(te:DE):DS:=fun D σ st=>te σ st fun d st1=>D.nx (σ.set i (some d)) st1
theorem Ca{i:Nat}(h:PS X st (kG (LE te) (g9 i))):PS X st (LS (cf i te)):=PS.imp h fun D σ H ⟨α,σd,st,DD,G,F,P,R,S,t,k⟩=>
 ⟨α,σd,st,_,G,F,P,R,S,t,fun d st1 q α1 G1 H1 v s1 P1 S1 r1=>(k.nx.at s1).here P1 q ((R.step s1).set i r1) S1⟩
def wz(tg:eS)(te:DE):DS:=fun D σ st=>te σ st fun d st1=>∃σ',tg d σ=some σ'∧D.nx σ' st1
theorem Dg{tg:eS}(h:PS X st (kG (LE te) (LG tg))):PS X st (LS (wz tg te)):=PS.imp h fun D σ H ⟨α,σd,st,DD,G,F,P,R,S,t,k⟩=>
 ⟨α,σd,st,_,G,F,P,R,S,t,fun d st1 q α1 G1 H1 v s1 P1 S1 r1=>⟨α1,σd,st1,d,DD.nx,G1,F,P1,R.step s1,S1,r1,q,k.nx.at s1⟩⟩
def zc(i j:Nat)(ta:DA):DS:=fun D σ st=>ta σ st fun ds st1=>match ds with| [x,y]=>D.nx ((σ.set i (some x)).set j (some y)) st1|_=>False
theorem Df{i j:Nat}{ta:DA}(h:PS X st (Dh i j (LA ta))):PS X st (LS (zc i j ta)):=PS.imp h fun D σ H ⟨α,σd,st,DD,G,F,P,R,S,t,k⟩=>by
 refine⟨α,σd,st,_,G,F,P,R,S,t,fun ds st1 q α1 G1 H1 vs s1 P1 S1 r1=>?_⟩
 match ds,q,r1 with
 | [x,y],q,r1=>
   obtain⟨v1,v2,rfl,q1,q2⟩:=la r1 rfl
   exact⟨v1,v2,rfl,(k.nx.at s1).here P1 q (((R.step s1).set i q1).set j q2) S1⟩
def vE(i:Nat)(r:cO)(te:DE):DS:=fun D σ st=>match σ[i]? with|some (some x)=>te σ st fun y st1=>r x y st1 fun z st2=>D.nx (σ.set i (some z)) st2|_=>False
def sA(f:Int→Int→Int):cO:=fun x y st K=>match x,y with| .int i,.int j=>K (.int (f i j)) st|_,_=>False
theorem Dz{i:Nat}{f:Int→Int→Int}(h:PS X st (Ct i (LE te) (CU f))):PS X st (LS (vE i (sA f) te)):=PS.imp h fun D σ H ⟨α,σd,st,DD,G,F,P,R,S,t,k⟩=>by
 unfold vE at t
 split at t
 · rename_i x e
   obtain⟨v,ev,rv⟩:=R.at' i x e
   refine⟨v,ev,α,σd,st,_,G,F,P,R,S,t,fun y st1 q α1 G1 H1 w s1 P1 S1 r1=>?_⟩
   cases x<;>cases y<;>try exact q.elim
   have rv':=rv
   unfold Rep at rv r1
   exact⟨_,_,rv,r1,(k.nx.at s1).here P1 q ((R.step s1).set i (by unfold Rep;rfl)) S1⟩
 · exact t.elim
def vI(x y d:D)(st:ae)(K:ae→Prop):Prop:=match x,y with
 | .ref n,.int k=>(match st[n]? with
   |some (.lst xs)=>(match jx xs.length k with|some j=>K (st.set n (.lst (xs.set j d)))|none=>False)
   |_=>False)
 |_,_=>False
def Dt(to ti te:DE):DS:=fun D σ st=>te σ st fun d st1=>to σ st1 fun x st2=>ti σ st2 fun y st3=>vI x y d st3 fun st4=>D.nx σ st4
theorem zz{to ti:DE}(h:PS X st (kG (LE te) (vQ (LE to) (LE ti) rq))):PS X st (LS (Dt to ti te)):=PS.imp h fun D σ H ⟨α,σd,st,DD,G,F,P,R,S,t,k⟩=>by
 refine⟨α,σd,st,_,G,F,P,R,S,t,fun d st1 q α1 G1 H1 v s1 P1 S1 r1=>?_⟩
 refine⟨α1,σd,st1,_,G1,F,P1,R.step s1,S1,q,fun x st2 q2 α2 G2 H2 v2 s2 P2 S2 r2=>?_⟩
 refine⟨α2,σd,st2,_,G2,F,P2,(R.step s1).step s2,S2,q2,fun y st3 q3 α3 G3 H3 v3 s3 P3 S3 r3=>?_⟩
 cases x<;>cases y<;>try exact q3.elim
 rename_i n kk
 unfold vI at q3
 simp only at q3
 split at q3
 · rename_i xs e
   split at q3
   · rename_i j ej
     obtain⟨p,ep,vs,hv,rv⟩:=S3.f_ e
     have r2':=dA ep (r2.step s3)
     subst r2'
     unfold Rep at r3
     have hm:some p∈α3:=List.mem_of_getElem? ep
     have rd:=(r1.step s2).step s3
     refine⟨p,vs,kk,j,rfl,r3,P3.get hv,by rw[←rv.length];exact ej,?_⟩
     refine(((k.nx.at s1).at s2).at s3) σd _ q3 α3 (upd G3 p (.lst (vs.set j v))) _ σ (Step.write hm) (P3.write hv) ((((R.step s1).step s2).step s3).step (Step.write hm)) ?_
     exact S3.write ep ⟨vs.set j v,aT,(bg.mpr (pA rd j (bg.mp rv))).step (Step.write hm)⟩
   · exact q3.elim
 · exact q3.elim
def ug(c:DT)(tb:DS):DS:=fun D σ st=>∃W:Nat→bH→ae→Prop,(∃m,W m σ st)∧∀m σ st,W m σ st→
 c σ st fun b st1=>if b=true then tb {D with nx:=fun σ' st'=>∃m',m'<m∧W m' σ' st',ct:=fun σ' st'=>∃m',m'<m∧W m' σ' st',bk:=D.nx} σ st1 else D.nx σ st1
theorem zo{tc:DT}(h:PS X st (xt (LT tc) (LS t))):PS X st (LS (ug tc t)):=PS.imp h fun D σ H ⟨α,σd,st,DD,G,F,P,R,S,⟨W,⟨m0,w0⟩,turn⟩,k⟩=>by
 refine⟨fun m σ' H'=>∃α' σd' st' G',Step α G α' G'∧bJ G' F H'∧dh α' G' σd' σ'∧aL α' st' G'∧W m σd' st',⟨m0,α,σd,st,G,Step.refl,P,R,S,w0⟩,?_⟩
 rintro m σ1 H1 ⟨α1,σd1,st1,G1,s1,P1,R1,S1,w1⟩
 refine⟨α1,σd1,st1,_,G1,F,P1,R1,S1,turn m σd1 st1 w1,fun b st2 q α2 G2 H2 s2 P2 S2=>?_⟩
 cases b with
 |false=>exact((k.nx.at s1).at s2).here P2 q (R1.step s2) S2
 |true=>
  refine⟨fun σ' H'=>∃m',m'<m∧∃α' σd' st' G',Step α G α' G'∧bJ G' F H'∧dh α' G' σd' σ'∧aL α' st' G'∧W m' σd' st',fun σ' H' z=>z,?_⟩
  refine⟨α2,σd1,st2,_,G2,F,P2,R1.step s2,S2,q,?_⟩
  refine⟨?_,(k.rt.at s1).at s2,(k.nx.at s1).at s2,?_⟩
  · rintro σd3 st3 ⟨m',hm,w3⟩ α3 G3 H3 σ3 s3 P3 R3 S3
    exact⟨m',hm,α3,σd3,st3,G3,(s1.trans s2).trans s3,P3,R3,S3,w3⟩
  · rintro σd3 st3 ⟨m',hm,w3⟩ α3 G3 H3 σ3 s3 P3 R3 S3
    exact⟨m',hm,α3,σd3,st3,G3,(s1.trans s2).trans s3,P3,R3,S3,w3⟩
abbrev DI:=bH→ae→(List D→(ae→Prop)→ae→Prop)→Prop
structure rZ(J:It)(α:List (Option Addr))(G:Hp)(ok:ae→Prop)(xs:List D):Prop where
 stop:∀(n:Nat) α' G' F' H' st',Step α G α' G'→bJ G' F' H'→aL α' st' G'→ok st'→xs.length≤n→J.stop n H'
 go:∀(n:Nat) d α' G' F' H' st',Step α G α' G'→bJ G' F' H'→aL α' st' G'→ok st'→xs[n]?=some d→J.go n H'
 lM:∀(n:Nat) d α' G' F' H' st' x H'',Step α G α' G'→bJ G' F' H'→aL α' st' G'→ok st'→xs[n]?=some d→J.lM n H' x H''→∃G'',Step α' G' α' G''∧bJ G'' F' H''∧aL α' st' G''∧Rep α' G'' d x
def LI(t:DI):TI:=fun σ H R=>∃α σd st K G F,bJ G F H∧dh α G σd σ∧aL α st G∧t σd st K∧∀xs ok st1,K xs ok st1→∀J α1 G1 H1,Step α G α1 G1→bJ G1 F H1→aL α1 st1 G1→rZ J α1 G1 ok xs→R J H1
def rW(d:D)(st1:ae)(K:List D→(ae→Prop)→ae→Prop):Prop:=match d with
 | .lst xs=>K xs (fun _=>True) st1
 | .tup xs=>K xs (fun _=>True) st1
 | .ref n=>(match st1[n]? with|some (.lst xs)=>K xs (fun st'=>st'[n]?=some (.lst xs)) st1|_=>False)
 |_=>False
def Er(t:DE):DI:=fun σ st K=>t σ st fun d st1=>rW d st1 K
theorem uZ{K:PySem.W.Frag}{a:Addr}{α:List (Option Addr)}{G:Hp}{ok:ae→Prop}{xs:List D}
 (h:∀α' G' st',Step α G α' G'→aL α' st' G'→ok st'→∃vs,Rd G' a (.lst vs)∧ay α' G' xs vs):rZ (Cc K a) α G ok xs where
 stop:=fun n α' G' F' H' st' s P S o hn=>by
  obtain⟨vs,h1,h2⟩:=h α' G' st' s S o
  exact⟨vs,.inl (fZ P h1),by rw[←h2.length];exact hn⟩
 go:=fun n d α' G' F' H' st' s P S o hn=>by
  obtain⟨vs,h1,h2⟩:=h α' G' st' s S o
  obtain⟨v,e,_⟩:=h2.get hn
  exact⟨vs,v,.inl (fZ P h1),e⟩
 lM:=fun n d α' G' F' H' st' x H'' s P S o hn y=>by
  obtain⟨vs,h1,h2⟩:=h α' G' st' s S o
  obtain⟨v,e,r⟩:=h2.get hn
  obtain⟨rfl,y⟩:=y
  have:=y vs (.inl (fZ P h1))
  rw[e]at this
  cases this
  exact⟨G',Step.refl,P,S,r⟩
theorem B9{K:PySem.W.Frag}{a:Addr}{α:List (Option Addr)}{G:Hp}{ok:ae→Prop}{xs:List D}
 (h:∀α' G' st',Step α G α' G'→aL α' st' G'→ok st'→∃vs,G' a=some (.tup vs)∧ay α' G' xs vs):rZ (BX K a) α G ok xs where
 stop:=fun n α' G' F' H' st' s P S o hn=>by
  obtain⟨vs,h1,h2⟩:=h α' G' st' s S o
  exact⟨vs,.of (P.get h1),by rw[←h2.length];exact hn⟩
 go:=fun n d α' G' F' H' st' s P S o hn=>by
  obtain⟨vs,h1,h2⟩:=h α' G' st' s S o
  obtain⟨v,e,_⟩:=h2.get hn
  exact⟨vs,v,.of (P.get h1),e⟩
 lM:=fun n d α' G' F' H' st' x H'' s P S o hn y=>by
  obtain⟨vs,h1,h2⟩:=h α' G' st' s S o
  obtain⟨v,e,r⟩:=h2.get hn
  obtain⟨rfl,y⟩:=y
  have:=y vs (.of (P.get h1))
  rw[e]at this
  cases this
  exact⟨G',Step.refl,P,S,r⟩
theorem yO{α α':List (Option Addr)}{G G':Hp}{a:Addr}{vs:List V}{xs:List D}(s:Step α G α' G')(na:some a∉α)(h1:Rd G a (.lst vs))(h2:ay α G xs vs):Rd G' a (.lst vs)∧ay α' G' xs vs:=by
 refine⟨?_,h2.step s⟩
 rcases h1 with h|⟨o,h⟩
 · exact .inl (s.ext _ _ na h)
 · exact .inr ⟨o,s.ext _ _ na h⟩
theorem DF{l tg:Expr}{tl:DE}(hl:PE X l (LE tl)):PI X tg l (LI (Er tl)):=by
 intro pins s σ H R I h
 obtain⟨α,σd,st,K,G,F,P,RS,S,t,k⟩:=h
 refine bF (hl pins s σ H (fun x H1=>∃d α1 G1 st1,Step α G α1 G1∧bJ G1 F H1∧aL α1 st1 G1∧Rep α1 G1 d x∧rW d st1 K) I ⟨α,σd,st,_,G,F,P,RS,S,t,fun d st1 q α1 G1 H1 v s1 P1 S1 r1=>⟨d,α1,G1,st1,s1,P1,S1,r1,q⟩⟩) fun v s1 ⟨x,H1,I1,rx,d,α1,G1,st1,s1',P1,S1,r1,q⟩=>?_
 unfold rW at q
 have viaL:∀ {a:Addr} {vs:List V},x= .ref a→Rd H1 a (.lst vs)→R (Cc X.K a) H1→wpAny (model X.prog X.w) X.A (pyIter v) (Ad X pins σ tg R) X.xe s1:=by
  intro a vs ex hr hR
  subst ex
  cases rx
  obtain⟨its,rv,p,hz⟩:=I1.list (.inl hr)
  refine wpAny_pyIter_list p.isList ?_
  refine⟨s1.heap.objs.size,[s1.heap.objs.size],_,_,H1,rfl,I1.kept (t':=s1.toks) fun b o e=>Heap.get?_push_of_some _ e,wF a _,⟨_,Heap.get?_push_size _ rfl,rfl,rfl⟩,fun b hb=>?_,hR⟩
  have e:b=s1.heap.objs.size:=by simpa using hb
  subst e
  exact I1.se (Nat.le_refl _) (I1.aH.fresh (Nat.le_refl _))
 have viaT:∀ {a:Addr} {vs:List V},x= .ref a→H1 a=some (.tup vs)→R (BX X.K a) H1→wpAny (model X.prog X.w) X.A (pyIter v) (Ad X pins σ tg R) X.xe s1:=by
  intro a vs ex hr hR
  subst ex
  cases rx
  obtain⟨its,rv,p,hz⟩:=I1.tuple (gs.of hr)
  refine wpAny_pyIter_tuple (show s1.heap.IsTuple a its.toArray from p) ?_
  refine⟨s1.heap.objs.size,[s1.heap.objs.size],_,_,H1,rfl,I1.kept (t':=s1.toks) fun b o e=>Heap.get?_push_of_some _ e,vN a _,⟨_,Heap.get?_push_size _ rfl,rfl,rfl⟩,fun b hb=>?_,hR⟩
  have e:b=s1.heap.objs.size:=by simpa using hb
  subst e
  exact I1.se (Nat.le_refl _) (I1.aH.fresh (Nat.le_refl _))
 cases d<;>try exact q.elim
 · rename_i n
   simp only at q
   split at q
   · rename_i xs e
     obtain⟨a,ea,vs,h1,h2⟩:=S1.f_ e
     have r1':=dA ea r1
     subst r1'
     refine viaL rfl (fZ P1 (.of h1)) (k _ _ st1 q _ α1 G1 H1 s1' P1 S1 (uZ fun α' G' st' s S o=>?_))
     obtain⟨b,eb,ws,g1,g2⟩:=S.f_ o
     have hb:b=a:=by
      rcases s.pre _ _ ea with z|z<;>(rw[z]at eb;cases eb)
      rfl
     subst hb
     exact⟨ws,.of g1,g2⟩
   · exact q.elim
 · unfold Rep at r1
   obtain⟨a,vs,rfl,na,ha,ra⟩:=r1
   exact viaL rfl (fZ P1 ha) (k _ _ st1 q _ α1 G1 H1 s1' P1 S1 (uZ fun α' G' st' s S o=>⟨vs,yO s na ha ra⟩))
 · unfold Rep at r1
   obtain⟨a,vs,rfl,na,ha,ra⟩:=r1
   exact viaT rfl (P1.get ha) (k _ _ st1 q _ α1 G1 H1 s1' P1 S1 (B9 fun α' G' st' s S o=>⟨vs,s.ext _ _ na ha,ra.step s⟩))
def cX(lo:Int)(n:Nat):List D:=(List.range n).map fun(k:Nat)=>D.int (lo+(k:Int))
theorem oK{lo:Int}{n k:Nat}:(cX lo n)[k]?=if k<n then some (.int (lo+(k:Int)))else none:=by
 unfold cX
 rw[List.getElem?_map]
 by_cases h:k<n
 · rw[List.getElem?_range h,if_pos h];rfl
 · rw[List.getElem?_eq_none (by simpa using h),if_neg h];rfl
theorem eA{lo:Int}{n:Nat}:(cX lo n).length=n:=by unfold cX;simp
theorem sW{α:List (Option Addr)}{G:Hp}{lo:Int}{n:Nat}:rZ (qE lo n) α G (fun _=>True) (cX lo n) where
 stop:=fun m α' G' F' H' st' s P S o hn=>by rw[eA]at hn;exact hn
 go:=fun m d α' G' F' H' st' s P S o hn=>by
  rw[oK]at hn
  split at hn
  · assumption
  · cases hn
 lM:=fun m d α' G' F' H' st' x H'' s P S o hn y=>by
  obtain⟨rfl,rfl⟩:=y
  rw[oK]at hn
  split at hn
  · cases hn
    exact⟨G',Step.refl,P,S,by unfold Rep;rfl⟩
  · cases hn
theorem PI.imp{tg iter:Expr}{t t':TI}(h:PI X tg iter t)(f:∀σ H R,t' σ H R→t σ H R):PI X tg iter t':=fun pins s σ H R I q=>h pins s σ H R I (f σ H R q)
def Aj(ds:List D)(st1:ae)(K:List D→(ae→Prop)→ae→Prop):Prop:=match ds with
 | [.int j]=>(-(2^62)≤j∧j<2^62)∧K (cX 0 j.toNat) (fun _=>True) st1
 |_=>False
def z8(ds:List D)(st1:ae)(K:List D→(ae→Prop)→ae→Prop):Prop:=match ds with
 | [.int i,.int j]=>(-(2^62)≤i∧i<2^62∧ -(2^62)≤j∧j<2^62)∧K (cX i (j-i).toNat) (fun _=>True) st1
 |_=>False
def AX(t:DA):DI:=fun σ st K=>t σ st fun ds st1=>Aj ds st1 K
def BM(t:DA):DI:=fun σ st K=>t σ st fun ds st1=>z8 ds st1 K
theorem w6{tg iter:Expr}{t:DA}(h:PI X tg iter (vV (LA t))):PI X tg iter (LI (AX t)):=PI.imp h fun σ H R ⟨α,σd,st,K,G,F,P,RS,S,t,k⟩=>by
 refine⟨α,σd,st,_,G,F,P,RS,S,t,fun ds st1 q α1 G1 H1 vs s1 P1 S1 r1=>?_⟩
 match ds,q,r1 with
 | [.int j],q,r1=>
   obtain⟨v,rfl,r2⟩:=g7 r1 rfl
   unfold Rep at r2
   subst r2
   exact⟨j,rfl,q.1.1,q.1.2,k _ _ st1 q.2 _ α1 G1 H1 s1 P1 S1 sW⟩
theorem wN{tg iter:Expr}{t:DA}(h:PI X tg iter (wm (LA t))):PI X tg iter (LI (BM t)):=PI.imp h fun σ H R ⟨α,σd,st,K,G,F,P,RS,S,t,k⟩=>by
 refine⟨α,σd,st,_,G,F,P,RS,S,t,fun ds st1 q α1 G1 H1 vs s1 P1 S1 r1=>?_⟩
 match ds,q,r1 with
 | [.int i,.int j],q,r1=>
   obtain⟨v,u,rfl,r2,r3⟩:=la r1 rfl
   unfold Rep at r2 r3
   subst r2 r3
   exact⟨i,j,rfl,q.1,k _ _ st1 q.2 _ α1 G1 H1 s1 P1 S1 sW⟩
def gh(tg:eS)(body:DS)(ok:ae→Prop)(E:jC):List D→bH→ae→Prop
 | [],σ,st=>ok st∧E.nx σ st
 |x::xs,σ,st=>ok st∧∃σ1,tg x σ=some σ1∧body {E with nx:=gh tg body ok E xs,ct:=gh tg body ok E xs,bk:=E.nx} σ1 st
def jr(src:DI)(tg:eS)(body:DS):DS:=fun D σ st=>src σ st fun xs ok st1=>gh tg body ok D xs σ st1
theorem C5{src:DI}{tg:eS}(h:PS X st (Cb (LI src) (LG tg) (LS t))):PS X st (LS (jr src tg t)):=PS.imp h fun D σ H ⟨α,σd,st,DD,G,F,P,R,S,tt,k⟩=>by
 refine⟨α,σd,st,_,G,F,P,R,S,tt,fun xs ok st1 q J α1 G1 H1 s1 P1 S1 it=>?_⟩
 refine⟨fun i m σ' H'=>∃α' σd' st' G',Step α1 G1 α' G'∧bJ G' F H'∧dh α' G' σd' σ'∧aL α' st' G'∧gh tg t ok DD (xs.drop i) σd' st'∧m=xs.length-i,⟨xs.length,α1,σd,st1,G1,Step.refl,P1,R.step s1,S1,q,rfl⟩,?_⟩
 rintro i m σ2 H2 ⟨α2,σd2,st2,G2,s2,P2,R2,S2,q2,rfl⟩
 cases e:xs[i]? with
 |none=>
  have hl:xs.length≤i:=List.getElem?_eq_none_iff.mp e
  rw[List.drop_eq_nil_of_le hl]at q2
  unfold gh at q2
  exact .inl ⟨it.stop i α2 G2 F H2 st2 s2 P2 S2 q2.1 hl,((k.nx.at s1).at s2).here P2 q2.2 R2 S2⟩
 |some d=>
  have hl:i<xs.length:=(List.getElem?_eq_some_iff.mp e).1
  have ed:xs.drop i=d::xs.drop (i+1):=by
   rw[List.drop_eq_getElem_cons hl]
   congr 1
   rw[List.getElem?_eq_getElem hl]at e
   exact Option.some.inj e
  rw[ed]at q2
  unfold gh at q2
  obtain⟨aH,σ3,e3,q3⟩:=q2
  refine .inr ⟨it.go i d α2 G2 F H2 st2 s2 P2 S2 aH e,fun σ' H'=>∃α' σd' st' G',Step α1 G1 α' G'∧bJ G' F H'∧dh α' G' σd' σ'∧aL α' st' G'∧gh tg t ok DD (xs.drop (i+1)) σd' st',?_,?_⟩
  · rintro σ' H' ⟨α',σd',st',G',z1,z2,z3,z4,z5⟩
    exact⟨xs.length-(i+1),by omega,α',σd',st',G',z1,z2,z3,z4,z5,rfl⟩
  · intro x H' y
    obtain⟨G3,s3,P3,S3,r3⟩:=it.lM i d α2 G2 F H2 st2 x H' s2 P2 S2 aH e y
    refine⟨α2,σd2,st2,d,fun σ' st'=>σ'=σ3∧st'=st2,G3,F,P3,R2.step s3,S3,r3,⟨σ3,e3,rfl,rfl⟩,?_⟩
    rintro σ' st' ⟨rfl,rfl⟩ α4 G4 H4 σ4 s4 P4 R4 S4
    have s24:=(s2.trans s3).trans s4
    refine⟨α4,σ',st',_,G4,F,P4,R4,S4,q3,?_,((k.rt.at s1).at s24),(k.nx.at s1).at s24,?_⟩
    · intro σd5 st5 q5 α5 G5 H5 σ5 s5 P5 R5 S5
      exact⟨α5,σd5,st5,G5,s24.trans s5,P5,R5,S5,q5⟩
    · intro σd5 st5 q5 α5 G5 H5 σ5 s5 P5 R5 S5
      exact⟨α5,σd5,st5,G5,s24.trans s5,P5,R5,S5,q5⟩
end
end L3
namespace L3
open PySem PySem.Spec L2
open PyProof.Rows hiding St
def fB(fr:List (Option Nat))(σ:bH):bH:=fr.map fun o=>o.bind fun j=>(σ[j]?).join
theorem dh.comp{α:List (Option Addr)}{G:Hp}{σd:bH}{σ:L2.St}{fr:List (Option Nat)}(h:dh α G σd σ):dh α G (fB fr σd) (σC fr σ):=by
 refine⟨by unfold fB σC;simp,fun i d e=>?_⟩
 unfold fB at e
 rw[List.getElem?_map]at e
 cases q:fr[i]? with
 |none=>rw[q]at e;cases e
 |some o=>
  rw[q]at e
  cases o with
  |none=>simp at e
  |some j=>
   simp only[Option.map_some,Option.some.injEq,Option.bind_some]at e
   have ej:σd[j]?=some (some d):=by
    cases r:σd[j]? with
    |none=>rw[r]at e;cases e
    |some u=>rw[r]at e;simp at e;rw[e]
   obtain⟨v,ev,rv⟩:=h.at' j d ej
   refine⟨v,?_,rv⟩
   unfold σC
   rw[List.getElem?_map,q]
   simp[ev]
def cU(tg:eS)(c:DT)(te:DE)(ok:ae→Prop)(σc:bH):List D→List D→ae→(List D→ae→Prop)→Prop
 | [],acc,st,K=>ok st∧K acc st
 |x::xs,acc,st,K=>ok st∧∃σ2,tg x σc=some σ2∧c σ2 st fun b st1=>if b=true then te σ2 st1 fun y st2=>cU tg c te ok σc xs (acc++[y]) st2 K else cU tg c te ok σc xs acc st1 K
def dc(src:DI)(fr:List (Option Nat))(tg:eS)(c:DT)(te:DE):DE:=fun σ st K=>src σ st fun xs ok st1=>xs.length≤sizeLine∧cU tg c te ok (fB fr σ) xs [] st1 fun ys st2=>K (.lst ys) st2
def mF(src:DI)(fr:List (Option Nat))(tg:eS)(c:DT)(te:DE):DE:=fun σ st K=>src σ st fun xs ok st1=>xs.length≤sizeLine∧cU tg c te ok (fB fr σ) xs [] st1 fun ys st2=>K (.ref st2.length) (st2++[.lst ys])
def ck:DT:=fun _ st K=>K true st
def pe(fr:List (Option Nat))(tg:eS):Prop:=∀(σ:bH) (d:D) (σ2:bH),tg d (fB fr σ)=some σ2→σ2.length=(fB fr σ).length∧∀(i:Nat) (e:D),(fB fr σ)[i]?=some (some e)→σ2[i]?=some (some e)
theorem lW{fr:List (Option Nat)}{σ:bH}{k:Nat}(h:fr[k]?=some none){e:D}(q:(fB fr σ)[k]?=some (some e)):False:=by
 unfold fB at q
 rw[List.getElem?_map,h]at q
 simp at q
theorem cp{fr:List (Option Nat)}{k:Nat}(h:fr[k]?=some none:=by rfl):pe fr (bD k):=fun σ d σ2 e=>by
 cases e
 refine⟨List.length_set,fun i x q=>?_⟩
 by_cases hi:i=k
 · subst hi;exact(lW h q).elim
 · rw[List.getElem?_set_ne (Ne.symm hi)];exact q
theorem qb{fr:List (Option Nat)}{k j:Nat}(h:fr[k]?=some none:=by rfl)(h':fr[j]?=some none:=by rfl):pe fr (i5 k j):=fun σ d σ2 e=>by
 unfold i5 at e
 split at e
 · cases e
   refine⟨by rw[List.length_set,List.length_set],fun i x q=>?_⟩
   by_cases hi:i=k
   · subst hi;exact(lW h q).elim
   · by_cases hj:i=j
     · subst hj;exact(lW h' q).elim
     · rw[List.getElem?_set_ne (Ne.symm hj),List.getElem?_set_ne (Ne.symm hi)];exact q
 · cases e
section
variable {X:Cx}
theorem DB{c:Expr}{t:DT}(h:PT X c (LT t)):mG X [c] (LT t):=BK h
theorem ze:mG X [] (LT ck):=fun pins s σ H Q I ⟨α,σd,st,K,G,F,P,R,S,t,k⟩=>BL pins s σ H Q I (k true st t α G H Step.refl P S)
theorem LE.comp{src:DI}{fr:List (Option Nat)}{tg:eS}{c:DT}{te:DE}(fit:pe fr tg){σ:L2.St}{H:Hp}{Q:VK}{α:List (Option Addr)}{σd:bH}{st:ae}{KE:List D→ae→Prop}{G F:Hp}(P:bJ G F H)(R:dh α G σd σ)(S:aL α st G)
 (t:src σd st fun xs ok st1=>xs.length≤sizeLine∧cU tg c te ok (fB fr σd) xs [] st1 KE)
 (fin:∀ys st2 α2 G2 H2 l vs,KE ys st2→Step α G α2 G2→bJ G2 (upd F l (.lst vs)) H2→F l=none→aL α2 st2 G2→ay α2 G2 ys vs→Q (.ref l) H2):
 oG (LI src) fr (LG tg) (LT c) (LE te) σ H Q:=by
 refine⟨α,σd,st,_,G,F,P,R,S,t,fun xs ok st1 q J α1 G1 H1 s1 P1 S1 it l hl=>?_⟩
 obtain⟨hsz,q⟩:=q
 obtain⟨hG,hF⟩:=P1.none hl
 refine⟨fun i m σ' H'=>∃α' st' G' acc vs,Step α1 G1 α' G'∧bJ G' (upd F l (.lst vs)) H'∧dh α' G' (fB fr σd) σ'∧aL α' st' G'∧ay α' G' acc vs∧acc.length≤i∧i≤xs.length∧cU tg c te ok (fB fr σd) (xs.drop i) acc st' KE∧m=xs.length-i,
  ⟨xs.length,α1,st1,G1,[],[],Step.refl,P1.hide hl,(R.step s1).comp,S1,by unfold ay;rfl,Nat.le_refl _,Nat.zero_le _,q,rfl⟩,?_⟩
 rintro i m σ2 H2 ⟨α2,st2,G2,acc,vs,s2,P2,R2,S2,ra,hacc,hi,q2,rfl⟩
 cases e:xs[i]? with
 |none=>
  have hl2:xs.length≤i:=List.getElem?_eq_none_iff.mp e
  rw[List.drop_eq_nil_of_le hl2]at q2
  unfold cU at q2
  exact .inl ⟨it.stop i α2 G2 _ H2 st2 s2 P2 S2 q2.1 hl2,fin acc st2 α2 G2 H2 l vs q2.2 (s1.trans s2) P2 hF S2 ra⟩
 |some d=>
  have hl2:i<xs.length:=(List.getElem?_eq_some_iff.mp e).1
  have ed:xs.drop i=d::xs.drop (i+1):=by
   rw[List.drop_eq_getElem_cons hl2]
   congr 1
   rw[List.getElem?_eq_getElem hl2]at e
   exact Option.some.inj e
  rw[ed]at q2
  unfold cU at q2
  obtain⟨aH,σ3,e3,q3⟩:=q2
  refine .inr ⟨it.go i d α2 G2 _ H2 st2 s2 P2 S2 aH e,fun σ' H'=>∃α' st' G' acc vs,Step α1 G1 α' G'∧bJ G' (upd F l (.lst vs)) H'∧dh α' G' (fB fr σd) σ'∧aL α' st' G'∧ay α' G' acc vs∧acc.length≤i+1∧cU tg c te ok (fB fr σd) (xs.drop (i+1)) acc st' KE,?_,?_⟩
  · rintro σ' H' ⟨α',st',G',acc',vs',z1,z2,z3,z4,z5,z6,z7⟩
    exact⟨xs.length-(i+1),by omega,α',st',G',acc',vs',z1,z2,z3,z4,z5,z6,hl2,z7,rfl⟩
  · intro x H' y
    obtain⟨G3,s3,P3,S3,r3⟩:=it.lM i d α2 G2 _ H2 st2 x H' s2 P2 S2 aH e y
    refine⟨α2,fB fr σd,st2,d,fun σ' st'=>σ'=σ3∧st'=st2,G3,_,P3,R2.step s3,S3,r3,⟨σ3,e3,rfl,rfl⟩,?_⟩
    rintro σ' st' ⟨rfl,rfl⟩ α4 G4 H4 σ4 s4 P4 R4 S4
    have s24:=(s2.trans s3).trans s4
    have Rc:dh α4 G4 (fB fr σd) σ4:=⟨by rw[←(fit σd d σ' e3).1];exact R4.len,fun j z hz=>R4.at' j z ((fit σd d σ' e3).2 j z hz)⟩
    refine⟨α4,σ',st',_,G4,_,P4,R4,S4,q3,fun b st5 q5 α5 G5 H5 s5 P5 S5=>?_⟩
    cases b with
    |false=>exact⟨α5,st5,G5,acc,vs,s24.trans s5,P5,Rc.step s5,S5,((ra.step s3).step s4).step s5,by omega,q5⟩
    |true=>
     refine⟨α5,σ',st5,_,G5,_,P5,R4.step s5,S5,q5,fun z st6 q6 α6 G6 H6 v6 s6 P6 S6 r6=>?_⟩
     have hr:=(((ra.step s3).step s4).step s5).step s6
     refine⟨vs,(P6.frame aT).1,by rw[←hr.length];omega,α6,st6,G6,acc++[z],vs++[v6],(s24.trans s5).trans s6,?_,(Rc.step s5).step s6,S6,bg.mpr (eZ (bg.mp hr) (.cons r6 .nil)),by rw[List.length_append,List.length_singleton];omega,q6⟩
     have:=P6.Hv (p:=l) (o':= .lst (vs++[v6])) aT
     rw[AU]at this
     exact this
theorem Dy{scope:Scope}{Nc:List Str}{elt tg iter:Expr}{ifs:List Expr}{pos:Pos}{src:DI}{fr:List (Option Nat)}{dtg:eS}{c:DT}{te:DE}(S:bj X scope Nc fr)(hi:PI X tg iter (LI src))
 (hg:∀C s H ex,PG (eN X scope Nc C s H ex) tg (LG dtg)) (ht:∀C s H ex,mG (eN X scope Nc C s H ex) ifs (LT c)) (he:∀C s H ex,PE (eN X scope Nc C s H ex) elt (LE te)) (fit:pe fr dtg)
 (hx:X.xe=fun _ _=>False:=by rfl) (hc:X.calm=true:=by rfl) (hs:∀x,foldedSetIterable iter X.env x=pure x:=by intro _;rfl):PE X (.ListComp elt [⟨tg,iter,ifs,0⟩] scope pos) (LE (dc src fr dtg c te)):=
 PE.imp (vk hx hc S hi hg ht he hs) fun σ H Q ⟨α,σd,st,K,G,F,P,R,S,t,k⟩=>LE.comp fit P R S t fun ys st2 α2 G2 H2 l vs q s2 P2 hl S2 r=>by
  have hg:G2 l=none:=(P2.frame aT).2
  refine k _ st2 q α2 (upd G2 l (.lst vs)) H2 (.ref l) (s2.trans (Step.laid hg)) (P2.show hl) (S2.laid hg) ?_
  unfold Rep
  exact⟨l,vs,rfl,S2.i_ hg,.of aT,r.step (Step.laid hg)⟩
theorem BQ{scope:Scope}{Nc:List Str}{elt tg iter:Expr}{ifs:List Expr}{pos:Pos}{src:DI}{fr:List (Option Nat)}{dtg:eS}{c:DT}{te:DE}(S:bj X scope Nc fr)(hi:PI X tg iter (LI src))
 (hg:∀C s H ex,PG (eN X scope Nc C s H ex) tg (LG dtg)) (ht:∀C s H ex,mG (eN X scope Nc C s H ex) ifs (LT c)) (he:∀C s H ex,PE (eN X scope Nc C s H ex) elt (LE te)) (fit:pe fr dtg)
 (hx:X.xe=fun _ _=>False:=by rfl) (hc:X.calm=true:=by rfl) (hs:∀x,foldedSetIterable iter X.env x=pure x:=by intro _;rfl):PE X (.ListComp elt [⟨tg,iter,ifs,0⟩] scope pos) (LE (mF src fr dtg c te)):=
 PE.imp (vk hx hc S hi hg ht he hs) fun σ H Q ⟨α,σd,st,K,G,F,P,R,S,t,k⟩=>LE.comp fit P R S t fun ys st2 α2 G2 H2 l vs q s2 P2 hl S2 r=>by
  have hg:G2 l=none:=(P2.frame aT).2
  refine k _ _ q (α2++[some l]) (upd G2 l (.lst vs)) H2 (.ref l) (s2.trans (Step.cell hg)) (P2.show hl) (S2.cell hg ⟨vs,aT,r.step (Step.cell hg)⟩) ?_
  unfold Rep
  refine .inr ⟨l,?_,rfl⟩
  rw[List.getElem?_append_right (by rw[S2.len];exact Nat.le_refl _),S2.len,Nat.sub_self]
  rfl
theorem A_{st:Stmt}{k:Nat}{src:DI}{fr:List (Option Nat)}{dtg:eS}{c:DT}{te:DE}(fit:pe fr dtg)(h:PS X st (kG (oG (LI src) fr (LG dtg) (LT c) (LE te)) (g9 k))):PS X st (LS (cf k (dc src fr dtg c te))):=
 PS.imp h fun D σ H ⟨α,σd,st,DD,G,F,P,R,S,t,q⟩=>LE.comp fit P R S t fun ys st2 α2 G2 H2 l vs qq s2 P2 hl S2 r=>by
  have hg:G2 l=none:=(P2.frame aT).2
  have s3:=s2.trans (Step.laid (o:= .lst vs) hg)
  refine q.nx _ st2 qq α2 (upd G2 l (.lst vs)) H2 _ s3 (P2.show hl) ((R.step s3).set k ?_) (S2.laid hg)
  unfold Rep
  exact⟨l,vs,rfl,S2.i_ hg,.of aT,r.step (Step.laid hg)⟩
def bx(N:List Str)(ds:List D):bH:=ds.map some++List.replicate (N.length-ds.length) none
theorem dh.start{α:List (Option Addr)}{G:Hp}{N:List Str}{ds:List D}{vs:List V}(r:ay α G ds vs):dh α G (bx N ds) (L2.start N vs):=by
 have hl:=r.length
 refine⟨by unfold bx L2.start;simp[hl],fun i d e=>?_⟩
 unfold bx at e
 by_cases hi:i<ds.length
 · rw[List.getElem?_append_left (by simpa using hi),List.getElem?_map]at e
   cases q:ds[i]? with
   |none=>rw[q]at e;cases e
   |some x=>
    rw[q]at e
    cases e
    obtain⟨v,ev,rv⟩:=r.get q
    refine⟨v,?_,rv⟩
    unfold L2.start
    rw[List.getElem?_append_left (by rw[List.length_map];omega),List.getElem?_map,ev]
    rfl
 · rw[List.getElem?_append_right (by simpa using hi),List.getElem?_replicate]at e
   split at e<;>cases e
theorem Fz{P:Program}{w:World}{K:PySem.W.Frag}{mg:Str→Option Value}{base:Heap}{x qual:Str}{st:Stmt}{f:Addr}{fd:FuncData}{N ps:List Str}{k:Nat}{sp:cM}{t:DS}(F:kR K x qual st f fd)(S:bf N ps (ag st))
 (hbody:∀(cdv:Value) (A:Around) (outer:List Env) (s:Shared) (H:Hp) (E:XK),cq k (A.deeper (envOfC qual (ag st) s.heap.objs.size f cdv))→fG (lG aO P w K mg base N qual (ag st) f cdv A outer s H E).qI (aW st) (LS t))
 (hsp:∀ds st K,sp ds st K→ds.length=ps.length∧t {nx:=fun _ st'=>K .aA st',rt:=K} (bx N ds) st):ax P w K mg base aO (k+1) f fd ps (aR sp):=by
 refine F.ok S (fun vs H Q E h=>?_) fun cdv A outer s H vs Q E hr h=>⟨_,hbody cdv A outer s H E hr,?_⟩
 · obtain⟨α,ds,st,K,G,F,P,r,S,q,k⟩:=h
   rw[←r.length]
   exact(hsp ds st K q).1
 · obtain⟨α,ds,st,K,G,F,P,r,S,q,k⟩:=h
   refine⟨α,bx N ds,st,_,G,F,P,dh.start r,S,(hsp ds st K q).2,?_,k,?_,?_⟩
   · intro σd' st' kk α' G' H' σ' s' P' R' S'
     exact k .aA st' kk α' G' H' .aA s' P' S' (by unfold Rep;rfl)
   · intro σd' st' kk
     exact kk.elim
   · intro σd' st' kk
     exact kk.elim
def kO(to te:DE):DE:=fun σ st K=>to σ st fun x st1=>match x with
 | .ref n=>(match st1[n]? with
   |some (.lst _)=>te σ st1 fun y st2=>∃y',[y]=[y']∧(match st2[n]? with|some (.lst xs)=>xs.length<sizeLine∧K .aA (st2.set n (.lst (xs++[y'])))|_=>False)
   |_=>False)
 |_=>False
end
end L3
namespace L3
open PySem PySem.Spec L2
open PyProof.Rows hiding St
structure aG(K:PySem.W.Frag)(mg:Str→Option Value)(x qual:Str)(st:Stmt)(ps:List Str)(f:Addr)(fd:FuncData):Prop where
 fn:kR K x qual st f fd
 mg:mg x=some (.ref f)
 bd:Binds K fd ps []
def oR(sc:Scope)(N:List Str)(scope:Scope)(Nc:List Str)(fr:List (Option Nat)):Bool:=
 (scope.kind== .function)&&scope.names.all (fun x=>x.2 != .cell||scope.names.lookup x.1==some .cell)&&scope.names.all (fun x=>x.2 != .local||scope.names.lookup x.1==some .local)&&
 scope.names.all (fun x=>x.2 != .free||sc.names.lookup x.1==some .cell||sc.names.lookup x.1==some .free)&&(fr.length==Nc.length)&&
 (List.range fr.length).all fun i=>match fr[i]?,Nc[i]? with
   |some (some j),some x=>(N[j]?==some x)&&(scope.names.lookup x==some .free)&&(sc.names.lookup x==some .cell||sc.names.lookup x==some .free)
   |_,_=>true
theorem bj.look{X:Cx}{scope:Scope}{Nc:List Str}{fr:List (Option Nat)}(sc:Scope)(N:List Str)(h:oR sc N scope Nc fr=true)(hsc:X.env.scope=sc:=by rfl)(hN:X.N=N:=by rfl):bj X scope Nc fr:=by
 unfold oR at h
 simp only[Bool.and_eq_true]at h
 obtain⟨⟨⟨⟨⟨h1,h2⟩,h3⟩,h4⟩,h5⟩,h6⟩:=h
 subst hsc hN
 refine⟨by simpa using h1,fun x hx hk=>?_,fun x hx hk=>?_,fun x hx hk=>?_,by simpa using h5,fun i j x e1 e2=>?_⟩
 · have:=List.all_eq_true.mp h2 x hx
   rw[hk]at this
   simpa using this
 · have:=List.all_eq_true.mp h3 x hx
   rw[hk]at this
   simpa using this
 · have:=List.all_eq_true.mp h4 x hx
   rw[hk]at this
   have z:X.env.scope.names.lookup x.1=some .cell∨X.env.scope.names.lookup x.1=some .free:=by simpa using this
   exact z
 · have hi:i<fr.length:=(List.getElem?_eq_some_iff.mp e2).1
   have:=List.all_eq_true.mp h6 i (List.mem_range.mpr hi)
   rw[e1,e2]at this
   simp only[Bool.and_eq_true,Bool.or_eq_true,beq_iff_eq]at this
   exact⟨this.1.1,this.1.2,this.2⟩
section
variable {X:Cx}
theorem GN{e:Expr}{es:List Expr}{pos p:Pos}{x:Str}{id:String}{r:fD}{t:DA}(hc:bO X (.builtin id) (gn r))(ha:PA X (e::es) (LA t))(hm:X.mg x=none)(hv:bootBuiltins x=some (.builtin id))(hg:Gl X x:=by rfl)(hn:x≠"__name__":=by decide)(hdb:(x==("__debug__":Str))=false:=by decide)
 (he:starEach (e::es) X.env=(false,eval e X.env)::starEach es X.env:=by rfl) (hpl:(backTo pos (starEach es X.env)).any (·.1)=false:=by rfl):PE X (.Call (.Name x p) (e::es) [] pos) (LE (bV r t)):=PE.imp (zg hc hg hm hv ha hn hdb he hpl) fun _ _ _ h=>LE.cb h
theorem GW{e:Expr}{es:List Expr}{pos p:Pos}{x:Str}{T:String}{r:fD}{t:DA}(hc:bO X (.type T) (gn r))(ha:PA X (e::es) (LA t))(hm:X.mg x=none)(hv:bootBuiltins x=some (.type T))(hg:Gl X x:=by rfl)(hn:x≠"__name__":=by decide)(hdb:(x==("__debug__":Str))=false:=by decide)
 (he:starEach (e::es) X.env=(false,eval e X.env)::starEach es X.env:=by rfl) (hpl:(backTo pos (starEach es X.env)).any (·.1)=false:=by rfl):PE X (.Call (.Name x p) (e::es) [] pos) (LE (bV r t)):=PE.imp (yp hc hg hm hv ha hn hdb he hpl) fun _ _ _ h=>LE.cb h
theorem GK{pos:Pos}{x:Str}{T:String}(hm:X.mg x=none)(hv:bootBuiltins x=some (.type T))(hg:Gl X x:=by rfl)(hn:x≠"__name__":=by decide)(hdb:(x==("__debug__":Str))=false:=by decide):PE X (.Name x pos) (LE (dC (.ty T))):=
 mW (v:= .ty T) (AF hg hm hv rfl hn hdb) fun _ _=>by unfold Rep;rfl
theorem GD{e:Expr}{es:List Expr}{pos p:Pos}{x qual:Str}{st:Stmt}{ps:List Str}{f:Addr}{fd:FuncData}{k:Nat}{S:cM}{t:DA}(A:aG X.K X.mg x qual st ps f fd)(F:ax X.prog X.w X.K X.mg X.base aO k f fd ps (aR S))(hr:cq k X.A)
 (ha:PA X (e::es) (LA t)) (hg:Gl X x:=by rfl) (hdb:(x==("__debug__":Str))=false:=by decide) (he:starEach (e::es) X.env=(false,eval e X.env)::starEach es X.env:=by rfl) (hpl:(backTo pos (starEach es X.env)).any (·.1)=false:=by rfl):
 PE X (.Call (.Name x p) (e::es) [] pos) (LE (a_ S t)):=CZ F hr hg A.mg A.fn.kp A.bd ha hdb he hpl
def C0(d:D)(b:Bool):Bool:=match d with| .bl c=>c==b|_=>false
def FN(d:D):Bool:=match d with| .aA=>true|_=>false
theorem AR{α:List (Option Addr)}{H:Hp}{st:ae}{d:D}{v:V}{u:Value}{b:Bool}(S:aL α st H)(hl:live st d=true)(r:Rep α H d v)(ru:RelV v u):(u==Value.bool b)=C0 d b:=by
 cases d
 case ref n=>
  obtain⟨a,rfl⟩:=rS S hl r
  cases ru;rfl
 all_goals unfold Rep at r
 case bl c=>
  subst r
  cases ru
  cases c<;>cases b<;>rfl
 all_goals first
  |(subst r;first|(cases ru;rfl)|(obtain⟨t,rfl⟩:=ru;rfl))
  |(obtain⟨a,vs,rfl,_⟩:=r;cases ru;rfl)
theorem LE.append{to te:DE}{σ:L2.St}{H:Hp}{Q:VK}(h:LE (kO to te) σ H Q):Gf X.K "list" uQ (LE to) (LA (af te ao)) σ H Q:=by
 obtain⟨α,σd,st,K,G,F,P,R,S,t,k⟩:=h
 refine⟨α,σd,st,_,G,F,P,R,S,t,fun x st1 q α1 G1 H1 v s1 P1 S1 r1=>?_⟩
 cases x<;>try exact q.elim
 rename_i n
 simp only at q
 split at q
 · rename_i ys e
   obtain⟨p,ep,vs,h1,h2⟩:=S1.f_ e
   have r1':=dA ep r1
   subst r1'
   refine⟨.inl ⟨rfl,vs,.inl (.of (P1.get h1))⟩,α1,σd,st1,fun ds st2=>∃y,ds=[y]∧(match st2[n]? with|some (.lst xs)=>xs.length<sizeLine∧K .aA (st2.set n (.lst (xs++[y])))|_=>False),G1,F,P1,R.step s1,S1,?_,?_⟩
   · refine Eq.mp ?_ q
     rfl
   · rintro ds st2 ⟨y,rfl,q2⟩ α2 G2 H2 ws s2 P2 S2 r2
     obtain⟨w,rfl,rw'⟩:=g7 r2 rfl
     split at q2
     · rename_i xs e2
       obtain⟨p2,ep2,us,g1,g2⟩:=S2.f_ e2
       have:p2=p:=by
        rcases s2.pre _ _ ep with z|z<;>(rw[z]at ep2;cases ep2)
        rfl
       subst this
       have hm:some p2∈α2:=List.mem_of_getElem? ep2
       refine⟨p2,us,w,rfl,rfl,P2.get g1,by rw[←g2.length];exact q2.1,?_⟩
       refine((k.at s1).at s2) _ _ q2.2 α2 (upd G2 p2 (.lst (us++[w]))) _ .aA (Step.write hm) (P2.write g1) ?_ (by unfold Rep;rfl)
       exact S2.write ep2 ⟨us++[w],aT,(bg.mpr (eZ (bg.mp g2) (.cons rw' .nil))).step (Step.write hm)⟩
     · exact q2.elim
 · exact q.elim
theorem y0{o e:Expr}{to te:DE}{apos cpos:Pos}(ho:PE X o (LE to))(he:PE X e (LE te))(hbase:attributeBase o "append" X.env (eval o X.env)=eval o X.env:=by rfl)
 (hfew:((backTo cpos (starEach [e] X.env)).all (fun x=> !x.1)&&(backToKw cpos (keywordEach [] X.env)).all (fun x=>x.1.isSome)
   &&decide (([e]:List Expr).length+([]:List Keyword).length+(if([]:List Keyword).isEmpty then 0 else 1)<30))=true:=by rfl)
 (hline:(apos.endLine==cpos.line)=true:=by rfl) (hs:starEach [e] X.env=(false,eval e X.env)::starEach [] X.env:=by rfl) (hplain:(backTo cpos (starEach [] X.env)).any (·.1)=false:=by rfl):PE X (.Call (.Attribute o "append" apos) [e] [] cpos) (LE (kO to te)):=
 PE.imp (Fu PySem.F.plainAttrs_list PySem.F.slot_list_append PySem.F.type_list_append qr ho (pE he t7 hs) hbase hfew hline hs hplain) fun _ _ _ h=>LE.append h
end
end L3
namespace L3
open PySem L2
open PySem.Spec hiding items?
open PyProof.Rows hiding St
section
variable {X:Cx}
@[irreducible] def dw:cO:=zL
theorem fe:bG X (binaryOp .Add) (LR dw):=by unfold dw;exact Fx
@[irreducible] def lg:cO:=zM
theorem pw:bG X (binaryOp .Sub) (LR lg):=by unfold lg;exact ED
@[irreducible] def dy:cO:=zO
theorem fK:bG X (binaryOp .Mult) (LR dy):=by unfold dy;exact Ej
@[irreducible] def lK:cO:=yi
theorem x_:bG X (binaryOp .FloorDiv) (LR lK):=by unfold lK;exact CK
@[irreducible] def gq:cO:=An
theorem kv:bG X (binaryOp .Mod) (LR gq):=by unfold gq;exact Fl
@[irreducible] def mf:cO:=zK
theorem rh:bG X (binaryOp .Pow) (LR mf):=by unfold mf;exact Fm
@[irreducible] def lO:cO:=Cg
theorem tP:bG X (compareOp .Lt) (LR lO):=by unfold lO;exact GY
@[irreducible] def ym:cO:=Dd
theorem GU:bG X (compareOp .LtE) (LR ym):=by unfold ym;exact Gy
@[irreducible] def kJ:cO:=CF
theorem pY:bG X (compareOp .Gt) (LR kJ):=by unfold kJ;exact GV
@[irreducible] def wU:cO:=DW
theorem Gn:bG X (compareOp .GtE) (LR wU):=by unfold wU;exact GZ
@[irreducible] def kK:cO:=Ef
theorem sO:bG X (compareOp .NotEq) (LR kK):=by unfold kK;exact Gv
@[irreducible] def gF:cO:=DJ
theorem hZ{k:Nat}(hr:cq k X.A):bG X (compareOp .Eq) (LR gF):=by unfold gF;exact GQ hr
@[irreducible] def iP:tT:=Aa
theorem EF:uW X (unaryOp .USub) (z9 iP):=by unfold iP;exact Fv
@[irreducible] def bw:cO:=lE
theorem Gi{a b:Expr}{ta tb:DE}{pos:Pos}(ha:PE X a (LE ta))(hb:PE X b (LE tb))(hs:mR b:=by intro _ _;rfl):PE X (.Subscript a b pos) (LE (aq bw ta tb)):=by unfold bw;exact GH ha hb hs
@[irreducible] def eg:fD:=qZ
theorem d_:bO X (.builtin "len") (gn eg):=by unfold eg;exact Fy
@[irreducible] def p_:fD:=wq
theorem zZ:bO X (.builtin "abs") (gn p_):=by unfold p_;exact Fb
@[irreducible] def sP:fD:=wB
theorem FD:bO X (.type "int") (gn sP):=by unfold sP;exact Em
@[irreducible] def d7:fD:=m5
theorem eY:bO X (.type "tuple") (gn d7):=by unfold d7;exact AJ
@[irreducible] def jD:fD:=oE
theorem mh:bO X (.type "list") (gn jD):=by unfold jD;exact DZ
@[irreducible] def j0:fD:=mM
theorem uU:bO X (.type "list") (gn j0):=by unfold j0;exact Ba
@[irreducible] def pZ:fD:=rj
theorem EA(hc:X.calm=true):bO X (.builtin "all") (gn pZ):=by unfold pZ;exact Fp hc
@[irreducible] def js:fD:=rG
theorem oX:bO X (.builtin "isinstance") (gn js):=by unfold js;exact Fi
@[irreducible] def lX:D→ae→(List D→(ae→Prop)→ae→Prop)→Prop:=rW
def eE(t:DE):DI:=fun σ st K=>t σ st fun d st1=>lX d st1 K
theorem D_{l tg:Expr}{tl:DE}(hl:PE X l (LE tl)):PI X tg l (LI (eE tl)):=by unfold eE lX;exact DF hl
@[irreducible] def rD:List D→ae→(List D→(ae→Prop)→ae→Prop)→Prop:=Aj
@[irreducible] def rE:List D→ae→(List D→(ae→Prop)→ae→Prop)→Prop:=z8
def dJ(t:DA):DI:=fun σ st K=>t σ st fun ds st1=>rD ds st1 K
def mI(t:DA):DI:=fun σ st K=>t σ st fun ds st1=>rE ds st1 K
theorem wW{tg iter:Expr}{t:DA}(h:PI X tg iter (vV (LA t))):PI X tg iter (LI (dJ t)):=by unfold dJ rD;exact w6 h
theorem w4{tg iter:Expr}{t:DA}(h:PI X tg iter (wm (LA t))):PI X tg iter (LI (mI t)):=by unfold mI rE;exact wN h
@[irreducible] def t9:D→D→D→ae→(ae→Prop)→Prop:=vI
def eL(to ti te:DE):DS:=fun D σ st=>te σ st fun d st1=>to σ st1 fun x st2=>ti σ st2 fun y st3=>t9 x y d st3 fun st4=>D.nx σ st4
theorem yQ{st:Stmt}{to ti te:DE}(h:PS X st (kG (LE te) (vQ (LE to) (LE ti) rq))):PS X st (LS (eL to ti te)):=by unfold eL t9;exact zz h
end
section
variable {st:ae}{K:DK}{i j:Int}{b c:Bool}{xs ys:List D}{d e:D}{n:Nat}
theorem d8(k:K (.int (i+j)) st):dw (.int i) (.int j) st K:=by unfold dw;exact k
theorem A7(h:xs.length+ys.length≤sizeLine)(k:K (.tup (xs++ys)) st):dw (.tup xs) (.tup ys) st K:=by unfold dw;exact⟨h,k⟩
theorem ma(k:K (.int (i-j)) st):lg (.int i) (.int j) st K:=by unfold lg;exact⟨trivial,k⟩
theorem fE(h:IntMulOk i j)(k:K (.int (i*j)) st):dy (.int i) (.int j) st K:=by unfold dy;exact⟨h,k⟩
theorem vj(h: -(2^63)≤i∧i<2^63∧xs.length*i.toNat≤sizeLine)(k:K (.lst (List.replicate i.toNat xs).flatten) st):dy (.lst xs) (.int i) st K:=by unfold dy;exact⟨h,k⟩
theorem vn(h: -(2^63)≤i∧i<2^63∧xs.length*i.toNat≤sizeLine)(k:K (.tup (List.replicate i.toNat xs).flatten) st):dy (.tup xs) (.int i) st K:=by unfold dy;exact⟨h,k⟩
theorem u4(h0:j≠0)(h:j.natAbs.log2<9000)(k:K (.int (i.fdiv j)) st):lK (.int i) (.int j) st K:=by unfold lK;exact⟨⟨h0,h⟩,k⟩
theorem jc(h0:j≠0)(k:K (.int (i.fmod j)) st):gq (.int i) (.int j) st K:=by unfold gq;exact⟨h0,k⟩
theorem o8(h:zt i j)(k:K (.int (i^j.toNat)) st):mf (.int i) (.int j) st K:=by unfold mf;exact⟨h,k⟩
theorem mP(k:K (.bl (decide (i<j))) st):lO (.int i) (.int j) st K:=by unfold lO;exact⟨trivial,k⟩
theorem En(k:K (.bl (decide (i≤j))) st):ym (.int i) (.int j) st K:=by unfold ym;exact⟨trivial,k⟩
theorem m6(k:K (.bl (decide (j<i))) st):kJ (.int i) (.int j) st K:=by unfold kJ;exact⟨trivial,k⟩
theorem Es(k:K (.bl (decide (j≤i))) st):wU (.int i) (.int j) st K:=by unfold wU;exact⟨trivial,k⟩
theorem Ae(k:K (.bl (!decide (i=j))) st):kK (.int i) (.int j) st K:=by unfold kK;exact k
theorem mZ(h1:pl 40 d=true)(h2:pl 40 e=true)(k:K (.bl (bZ d e)) st):gF d e st K:=by unfold gF;exact⟨h1,h2,k⟩
theorem BN(a b:Int):(a==b)=decide (a=b):=by
 by_cases h:a=b
 · subst h;simp
 · simp[h]
theorem yo(k:K (.bl (decide (i=j))) st):gF (.int i) (.int j) st K:=by
 refine mZ rfl rfl ?_
 have:bZ (.int i) (.int j)=decide (i=j):=by unfold bZ;exact BN i j
 rw[this];exact k
theorem jo(k:K (.int (-i)) st):iP (.int i) st K:=by unfold iP;exact k
theorem zx(h:items? st d=some xs)(a:eP xs i=some e)(k:K e st):lE d (.int i) st K:=by
 cases d<;>unfold items? at h<;>first
  |(cases h;done)
  |(cases h;simp only[lE,a];exact k)
  |(simp only at h
    split at h
    · rename_i q
      cases h
      simp only[lE,q,a]
      exact k
    · cases h)
theorem aJ(h:items? st d=some xs)(a:eP xs i=some e)(k:K e st):bw d (.int i) st K:=by unfold bw;exact zx h a k
theorem du(h:items? st d=some xs)(k:K (.int xs.length) st):eg [d] st K:=by
 unfold eg qZ
 split
 · rename_i z;cases z;cases h
 · rename_i z;cases z;rw[h];exact k
 · rename_i z1 z2;exact absurd rfl (z2 d)
theorem BA(i:Int):(if i<0 then-i else i)=((i.natAbs:Nat):Int):=by split<;>omega
theorem x5(k:K (.int ((i.natAbs:Nat):Int)) st):p_ [.int i] st K:=by unfold p_;show K (.int (if i<0 then-i else i)) st;rw[BA];exact k
theorem uR(k:K (.int (if b then 1 else 0)) st):sP [.bl b] st K:=by unfold sP;exact k
theorem d5(h:items? st d=some xs)(k:K (.tup xs) st):d7 [d] st K:=by unfold d7 m5;simp only[h];exact k
theorem kH(h:items? st d=some xs)(k:K (.lst xs) st):jD [d] st K:=by unfold jD oE;simp only[h];exact k
theorem tK(h:items? st d=some xs)(k:K (.ref st.length) (st++[.lst xs])):j0 [d] st K:=by unfold j0 mM;simp only[h];exact k
theorem Cq{bs:List Bool}(h:jb xs=some bs)(k:K (.bl (bs.all id)) st):pZ [.lst xs] st K:=by unfold pZ rj;simp only[h];exact k
theorem mj{t c:String}(h:gO st d=some t)(hc:c∈jM)(k:K (.bl (nV t c)) st):js [d,.ty c] st K:=by unfold js rG;simp only[h];exact⟨hc,k⟩
theorem mx{K:List D→(ae→Prop)→ae→Prop}(h:items? st d=some xs)(k:∀ok:ae→Prop,ok st→K xs ok st):lX d st K:=by
 unfold lX rW
 cases d<;>unfold items? at h<;>first
  |(cases h;done)
  |(cases h;exact k _ trivial)
  |(simp only at h
    split at h
    · rename_i q
      cases h
      simp only[q]
      exact k _ q
    · cases h)
theorem qf{K:List D→(ae→Prop)→ae→Prop}(k:K xs (fun _=>True) st):lX (.lst xs) st K:=by unfold lX;exact k
theorem jQ{K:List D→(ae→Prop)→ae→Prop}(k:K xs (fun _=>True) st):lX (.tup xs) st K:=by unfold lX;exact k
theorem eW{K:List D→(ae→Prop)→ae→Prop}(h: -(2^62)≤j∧j<2^62)(k:K (cX 0 j.toNat) (fun _=>True) st):rD [.int j] st K:=by unfold rD;exact⟨h,k⟩
theorem A6{K:List D→(ae→Prop)→ae→Prop}(h: -(2^62)≤i∧i<2^62∧ -(2^62)≤j∧j<2^62)(k:K (cX i (j-i).toNat) (fun _=>True) st):rE [.int i,.int j] st K:=by unfold rE;exact⟨h,k⟩
theorem iB{K:ae→Prop}{m:Nat}(h:st[n]?=some (.lst xs))(e:jx xs.length i=some m)(k:K (st.set n (.lst (xs.set m d)))):t9 (.ref n) (.int i) d st K:=by unfold t9 vI;simp only[h,e];exact k
end
end L3
namespace L3
open PySem L2
open PySem.Spec hiding items?
open PyProof.Rows hiding St
def tN(K:PySem.W.Frag):Bool:=K.all fun p=>p.2.cls != .type "list"
theorem nH{a:Addr}{o:Obj}:∀ {l:List (Addr×Obj)},l.lookup a=some o→(a,o)∈l
 | [],h=>by cases h
 |(b,u)::r,h=>by
  rw[List.lookup_cons]at h
  split at h
  · rename_i z
    cases h
    have:a=b:=by simpa using z
    subst this
    exact List.mem_cons_self
  · exact List.mem_cons_of_mem _ (nH h)
theorem qU{K:PySem.W.Frag}(h:tN K=true){a:Addr}{o:Obj}(e:K.lookup a=some o):o.cls≠ .type "list":=by
 have:=List.all_eq_true.mp h (a,o) (nH e)
 simpa using this
theorem qF{α:List (Option Addr)}{G:Hp}:∀ns:List Int,ay α G (ns.map D.int) (ns.map V.int)
 | []=>by unfold ay;rfl
 |n::ns=>by
  rw[List.map_cons,List.map_cons]
  unfold ay
  exact⟨_,_,rfl,by unfold Rep;rfl,qF ns⟩
end L3
namespace L3
open PySem L2
open PySem.Spec hiding items?
open PyProof.Rows hiding St
def notStar:Expr→Bool
 | .Starred .. =>false
 |_=>true
theorem cC{e:Expr}{es:List Expr}{env:Env}(h:notStar e=true):starEach (e::es) env=(false,eval e env)::starEach es env:=by
 cases e<;>first|rfl|cases h
def fz:List Expr→Bool
 | []=>true
 |e::es=>notStar e&&fz es
theorem iX{pos:Pos}{env:Env}:∀ {es:List Expr},fz es=true→(backTo pos (starEach es env)).any (·.1)=false
 | [],_=>rfl
 |e::es,h=>by
  unfold fz at h
  rw[Bool.and_eq_true]at h
  rw[cC h.1]
  have ih:=iX (pos:=pos) (env:=env) h.2
  unfold backTo at ih⊢
  rw[List.map_cons,List.any_cons,ih]
  rfl
def j7:Expr→Bool
 | .Slice .. =>false
 |_=>true
def mz:Expr→Bool
 | .Name .. =>true
 | .Call .. =>true
 | .Subscript .. =>true
 | .Attribute .. =>true
 |_=>false
def iN:Expr→Bool
 | .ListComp .. =>false
 | .SetComp .. =>false
 | .DictComp .. =>false
 |_=>true
section
variable {X:Cx}
theorem zu{b:Expr}(h:j7 b=true):mR b:=by
 intro o i
 cases b<;>first|rfl|cases h
theorem v_{e:Expr}(h:mz e=true):∀whole,isTrue e X.env whole=(do let v ←whole;standAt e.pos;holding [v] (truthy v)):=by
 intro whole
 cases e<;>first|(cases h;done)|rfl
theorem pM{e:Expr}{tg:Option Expr}{n:Nat}{env:Env}(h:iN e=true):swapsWith e tg n env=pure false:=by
 cases e<;>first|(cases h;done)|rfl
theorem yY{e:Expr}{es:List Expr}{te:DE}{tr:DA}(ha:PE X e (LE te))(hr:PA X es (LA tr))(hs:notStar e=true:=by rfl):PA X (e::es) (LA (af te tr)):=pE ha hr (cC hs)
theorem Ex{e:Expr}{es:List Expr}{pos p:Pos}{x:Str}{id:String}{r:fD}{t:DA}(hc:bO X (.builtin id) (gn r))(ha:PA X (e::es) (LA t))(hm:X.mg x=none)(hv:bootBuiltins x=some (.builtin id))(hn:x≠"__name__")(hdb:(x==("__debug__":Str))=false)(hg:Gl X x:=by rfl)(hs:notStar e=true:=by rfl)(hs2:fz es=true:=by rfl):
 PE X (.Call (.Name x p) (e::es) [] pos) (LE (bV r t)):=GN hc ha hm hv hg hn hdb (cC hs) (iX hs2)
theorem Fc{e:Expr}{es:List Expr}{pos p:Pos}{x:Str}{T:String}{r:fD}{t:DA}(hc:bO X (.type T) (gn r))(ha:PA X (e::es) (LA t))(hm:X.mg x=none)(hv:bootBuiltins x=some (.type T))(hn:x≠"__name__")(hdb:(x==("__debug__":Str))=false)(hg:Gl X x:=by rfl)(hs:notStar e=true:=by rfl)(hs2:fz es=true:=by rfl):
 PE X (.Call (.Name x p) (e::es) [] pos) (LE (bV r t)):=GW hc ha hm hv hg hn hdb (cC hs) (iX hs2)
theorem Ek{e:Expr}{es:List Expr}{pos p:Pos}{x qual:Str}{st:Stmt}{ps:List Str}{f:Addr}{fd:FuncData}{k:Nat}{S:cM}{t:DA}(A:aG X.K X.mg x qual st ps f fd)(F:ax X.prog X.w X.K X.mg X.base aO k f fd ps (aR S))(hr:cq k X.A)
 (ha:PA X (e::es) (LA t)) (hdb:(x==("__debug__":Str))=false) (hg:Gl X x:=by rfl) (hs:notStar e=true:=by rfl) (hs2:fz es=true:=by rfl):
 PE X (.Call (.Name x p) (e::es) [] pos) (LE (a_ S t)):=GD A F hr ha hg hdb (cC hs) (iX hs2)
theorem Ew{a b:Expr}{ta tb:DE}{pos:Pos}(ha:PE X a (LE ta))(hb:PE X b (LE tb))(hs:j7 b=true:=by rfl):PE X (.Subscript a b pos) (LE (aq bw ta tb)):=Gi ha hb (zu hs)
theorem Bt{e:Expr}{te:DE}(he:PE X e (LE te))(h:mz e=true:=by rfl):PT X e (LT (aY te)):=Dx he (v_ h)
theorem yI{e:Expr}{te:DE}{pos:Pos}(he:PE X e (LE te))(h:iN e=true:=by rfl):PS X (.Expr e pos) (LS (iZ te)):=AG he (pM h)
theorem Ax{i:Nat}{x:Str}{e:Expr}{te:TE}{pos pos':Pos}(hN:X.N.Nodup)(hi:X.N[i]?=some x)(hx:Loc X.env.scope x)(he:PE X e te)(hf:X.fn x=true∨X.env.scope.names.lookup x=some .local:=by first|exact .inl rfl|exact .inr rfl)(h:iN e=true:=by rfl):
 PS X (.Assign [.Name x pos'] e pos) (kG te (g9 i)):=CT hN hi hx he (pM h) hf
theorem Av{i:Nat}{x:Str}{pos:Pos}(hd:(x==("__debug__":Str))=false)(hcd:(x==("__classdict__":Str))=false)(hv:tj X.env.scope x)(hN:X.N[i]?=some x:=by rfl):PE X (.Name x pos) (LE (aa i)):=Ey (Ck hN hv hd hcd)
theorem Du{o i e:Expr}{to ti te:TE}{pos pos':Pos}(he:PE X e te)(ho:PE X o to)(hi:PE X i ti)(h1:iN e=true:=by rfl)(h2:j7 i=true:=by rfl):PS X (.Assign [.Subscript o i pos'] e pos) (kG te (vQ to ti rq)):=
 wL he (Cw ho hi set_list (by intro v;cases i<;>first|rfl|cases h2)) (by unfold swapsWithSole;exact pM h1) (by cases e<;>rfl) rfl
end
end L3
namespace L3
open PySem L2
open PySem.Spec hiding items?
open PyProof.Rows hiding St
@[irreducible] def JE(X:Cx)(e:Expr)(t:DE):Prop:=PE X e (LE t)
@[irreducible] def JT(X:Cx)(e:Expr)(t:DT):Prop:=PT X e (LT t)
@[irreducible] def JW(X:Cx)(e:Expr)(t:DT):Prop:=PW X e (LT t)
@[irreducible] def JA(X:Cx)(es:List Expr)(t:DA):Prop:=PA X es (LA t)
@[irreducible] def JS(X:Cx)(s:Stmt)(t:DS):Prop:=PS X s (LS t)
@[irreducible] def JB(X:Cx)(s:List Stmt)(t:DS):Prop:=fG X s (LS t)
@[irreducible] def JG(X:Cx)(e:Expr)(t:eS):Prop:=PG X e (LG t)
@[irreducible] def JI(X:Cx)(tg e:Expr)(t:DI):Prop:=PI X tg e (LI t)
@[irreducible] def JC(X:Cx)(es:List Expr)(t:DT):Prop:=mG X es (LT t)
section
variable {X:Cx}{a b c e o i:Expr}{es:List Expr}{ta tb tc te to ti:DE}{t u:DT}{ar:DA}{pos p pos':Pos}{s:Stmt}{ss:List Stmt}{T U:DS}
theorem ye{n:Nat}{x:Str}(hd:(x==("__debug__":Str))=false)(hcd:(x==("__classdict__":Str))=false)(hv:tj X.env.scope x)(hN:X.N[n]?=some x:=by rfl):JE X (.Name x pos) (aa n):=by unfold JE;exact Av hd hcd hv hN
theorem tO{x:Str}{T:String}(hm:X.mg x=none)(hv:bootBuiltins x=some (.type T))(hn:x≠"__name__")(hdb:(x==("__debug__":Str))=false)(hg:Gl X x):JE X (.Name x pos) (dC (.ty T)):=by unfold JE;exact GK hm hv hg hn hdb
theorem au{k:Int}{j:Nat}:JE X (.Constant (.int k) j pos) (dC (.int k)):=by unfold JE;exact Et
theorem hW{k:Bool}{j:Nat}:JE X (.Constant (.bool k) j pos) (dC (.bl k)):=by unfold JE;exact Gw
theorem Ah{j:Nat}:JE X (.Constant .none j pos) (dC .aA):=by unfold JE;exact Fe
theorem bI{op:Operator}{r:cO}(ho:bG X (binaryOp op) (LR r))(ha:JE X a ta)(hb:JE X b tb):JE X (.BinOp a op b pos) (aq r ta tb):=by unfold JE at*;exact GB ho ha hb
theorem kq(ha:JE X a ta):JE X (.UnaryOp .USub a pos) (mv iP ta):=by unfold JE at*;exact Gu EF ha
theorem Eu(ha:JE X a ta):JE X (.UnaryOp .Not a pos) (rg (aY ta)):=by unfold JE at*;exact E2 ha
theorem vZ{op:BoolOp}(ha:JE X a ta):JE X (.BoolOp op [a] pos) ta:=by unfold JE at*;exact FH ha
theorem we(ha:JE X a ta)(hb:JE X (.BoolOp .And (b::es) pos) tb):JE X (.BoolOp .And (a::b::es) pos) (mL ta tb):=by unfold JE at*;exact ET ha hb
theorem o9{op:CmpOp}{r:cO}(ho:bG X (compareOp op) (LR r))(hm:behindInMarks op b=false)(ha:JE X a ta)(hb:JE X b tb):JE X (.Compare a [op] [b] pos) (aq r ta tb):=by unfold JE at*;exact E5 ho ha hb hm
theorem FI(hc:JT X c t)(ha:JE X a ta)(hb:JE X b tb):JE X (.IfExp c a b pos) (DV t ta tb):=by unfold JE at*;unfold JT at hc;exact EB hc ha hb
theorem oP{n:Nat}(h:JA X es ar):JE X (.Tuple es n pos) (ow ar):=by unfold JE;unfold JA at h;exact EO h
theorem pv(h:JA X es ar):JE X (.List es pos) (nZ ar):=by unfold JE;unfold JA at h;exact Ep h
theorem zP(h:JA X es ar):JE X (.List es pos) (wD ar):=by unfold JE;unfold JA at h;exact EV h
theorem ak:JA X [] ao:=by unfold JA;exact t7
theorem ab(ha:JE X e te)(hr:JA X es ar)(hs:notStar e=true:=by rfl):JA X (e::es) (af te ar):=by unfold JA at*;unfold JE at ha;exact yY ha hr hs
theorem aZ(ha:JE X a ta)(hb:JE X b tb)(hs:j7 b=true:=by rfl):JE X (.Subscript a b pos) (aq bw ta tb):=by unfold JE at*;exact Ew ha hb hs
theorem dG{x:Str}{id:String}{r:fD}(hc:bO X (.builtin id) (gn r))(ha:JA X (e::es) ar)(hm:X.mg x=none)(hv:bootBuiltins x=some (.builtin id))(hn:x≠"__name__")(hdb:(x==("__debug__":Str))=false)(hg:Gl X x)(hs:notStar e=true:=by rfl)(hs2:fz es=true:=by rfl):JE X (.Call (.Name x p) (e::es) [] pos) (bV r ar):=by
 unfold JE;unfold JA at ha;exact Ex hc ha hm hv hn hdb hg hs hs2
theorem fv{x:Str}{T:String}{r:fD}(hc:bO X (.type T) (gn r))(ha:JA X (e::es) ar)(hm:X.mg x=none)(hv:bootBuiltins x=some (.type T))(hn:x≠"__name__")(hdb:(x==("__debug__":Str))=false)(hg:Gl X x)(hs:notStar e=true:=by rfl)(hs2:fz es=true:=by rfl):JE X (.Call (.Name x p) (e::es) [] pos) (bV r ar):=by
 unfold JE;unfold JA at ha;exact Fc hc ha hm hv hn hdb hg hs hs2
theorem bQ{x qual:Str}{st:Stmt}{ps:List Str}{f:Addr}{fd:FuncData}{k:Nat}{S:cM}(A:aG X.K X.mg x qual st ps f fd)(F:ax X.prog X.w X.K X.mg X.base aO k f fd ps (aR S))(hr:cq k X.A)(ha:JA X (e::es) ar)(hdb:(x==("__debug__":Str))=false)(hg:Gl X x)(hs:notStar e=true:=by rfl)(hs2:fz es=true:=by rfl):
 JE X (.Call (.Name x p) (e::es) [] pos) (a_ S ar):=by unfold JE;unfold JA at ha;exact Ek A F hr ha hdb hg hs hs2
theorem yA{apos cpos:Pos}(ho:JE X o to)(he:JE X e te)(hbase:attributeBase o "append" X.env (eval o X.env)=eval o X.env:=by rfl)(hline:(apos.endLine==cpos.line)=true:=by rfl)(hs:notStar e=true:=by rfl):JE X (.Call (.Attribute o "append" apos) [e] [] cpos) (kO to te):=by
 unfold JE at*
 refine y0 ho he hbase ?_ hline (cC hs) rfl
 rw[cC hs]
 rfl
theorem bM{op:CmpOp}{r:cO}(ho:bG X (compareOp op) (LR r))(hm:behindInMarks op b=false)(ha:JE X a ta)(hb:JE X b tb):JT X (.Compare a [op] [b] pos) (aY (aq r ta tb)):=by unfold JE at*;unfold JT;exact Cj ho ha hb hm
theorem iw(ha:JT X a t):JT X (.UnaryOp .Not a pos) (gG t):=by unfold JT at*;exact BV ha
theorem gY(he:JE X e te)(h:mz e=true:=by rfl):JT X e (aY te):=by unfold JT;unfold JE at he;exact Bt he h
theorem m4(ha:JT X a t):JW X (.BoolOp .And [a] pos) t:=by unfold JW;unfold JT at ha;exact AQ ha
theorem iH(ha:JT X a t):JW X (.BoolOp .Or [a] pos) t:=by unfold JW;unfold JT at ha;exact Dv ha
theorem pB(ha:JT X a t)(hb:JW X (.BoolOp .And (b::es) pos) u):JW X (.BoolOp .And (a::b::es) pos) (ly t u):=by unfold JW at*;unfold JT at ha;exact CO ha hb
theorem ip(ha:JT X a t)(hb:JW X (.BoolOp .Or (b::es) pos) u):JW X (.BoolOp .Or (a::b::es) pos) (hJ t u):=by unfold JW at*;unfold JT at ha;exact E7 ha hb
theorem gR(h:JW X e t):JT X e t:=by unfold JT;unfold JW at h;exact PW.pt h
theorem gc{l tg:Expr}(hl:JE X l ta):JI X tg l (eE ta):=by unfold JI;unfold JE at hl;exact D_ hl
theorem dX{tg:Expr}(hg:Gl X "range")(hm:X.mg "range"=none)(ha:JA X [a] ar)(hs:notStar a=true:=by rfl):JI X tg (.Call (.Name "range" p) [a] [] pos) (dJ ar):=by unfold JI;unfold JA at ha;exact wW (xI hg hm ha (cC hs))
theorem zr{tg:Expr}(hg:Gl X "range")(hm:X.mg "range"=none)(ha:JA X [a,b] ar)(hs:notStar a=true:=by rfl)(hs2:notStar b=true:=by rfl):JI X tg (.Call (.Name "range" p) [a,b] [] pos) (mI ar):=by unfold JI;unfold JA at ha;exact w4 (yl hg hm ha (by rw[cC hs,cC hs2];rfl) (cC hs2))
theorem dH{k:Nat}{x:Str}(hN:X.N.Nodup)(hx:Loc X.env.scope x)(hf:X.fn x=true∨X.env.scope.names.lookup x=some .local)(hi:X.N[k]?=some x:=by rfl):JG X (.Name x pos) (bD k):=by unfold JG;exact BB (jO hN hi hx hf)
theorem o4{k j n:Nat}{x y:Str}{px py:Pos}(hc:X.calm=true)(hN:X.N.Nodup)(hx:Loc X.env.scope x)(hf:X.fn x=true∨X.env.scope.names.lookup x=some .local)(hy:Loc X.env.scope y)(hg:X.fn y=true∨X.env.scope.names.lookup y=some .local)(hi:X.N[k]?=some x:=by rfl)(hj:X.N[j]?=some y:=by rfl):
 JG X (.Tuple [.Name x px,.Name y py] n pos) (i5 k j):=by unfold JG;exact Cv (yf hc (jU (jO hN hi hx hf) (jU (jO hN hj hy hg) u6)))
theorem cz:JC X [] ck:=by unfold JC;exact ze
theorem xU(h:JT X c t):JC X [c] t:=by unfold JC;unfold JT at h;exact DB h
theorem fA{scope:Scope}{Nc:List Str}{elt tg iter:Expr}{ifs:List Expr}{src:DI}{fr:List (Option Nat)}{dtg:eS}(S:bj X scope Nc fr)(hi:JI X tg iter src)(hg:∀C s H ex,JG (eN X scope Nc C s H ex) tg dtg)(ht:∀C s H ex,JC (eN X scope Nc C s H ex) ifs t)(he:∀C s H ex,JE (eN X scope Nc C s H ex) elt te)(fit:pe fr dtg)
 (hx:X.xe=fun _ _=>False:=by rfl) (hc:X.calm=true:=by rfl) (hs:∀x,foldedSetIterable iter X.env x=pure x:=by intro _;rfl):JE X (.ListComp elt [⟨tg,iter,ifs,0⟩] scope pos) (dc src fr dtg t te):=by
 unfold JE JI JG JC at*;exact Dy S hi hg ht he fit hx hc hs
theorem p7{scope:Scope}{Nc:List Str}{elt tg iter:Expr}{ifs:List Expr}{src:DI}{fr:List (Option Nat)}{dtg:eS}(S:bj X scope Nc fr)(hi:JI X tg iter src)(hg:∀C s H ex,JG (eN X scope Nc C s H ex) tg dtg)(ht:∀C s H ex,JC (eN X scope Nc C s H ex) ifs t)(he:∀C s H ex,JE (eN X scope Nc C s H ex) elt te)(fit:pe fr dtg)
 (hx:X.xe=fun _ _=>False:=by rfl) (hc:X.calm=true:=by rfl) (hs:∀x,foldedSetIterable iter X.env x=pure x:=by intro _;rfl):JE X (.ListComp elt [⟨tg,iter,ifs,0⟩] scope pos) (mF src fr dtg t te):=by
 unfold JE JI JG JC at*;exact BQ S hi hg ht he fit hx hc hs
theorem cJ:JB X [] cT:=by unfold JB;exact Bg
theorem aF(h:JS X s T):JB X [s] T:=by unfold JB;unfold JS at h;exact Be h
theorem aw(h:JS X s T)(h2:JB X ss U):JB X (s::ss) (aQ T U):=by unfold JB at*;unfold JS at h;exact zD h h2
theorem bo(h:JE X e te):JS X (.Return (some e) pos) (bT te):=by unfold JS;unfold JE at h;exact Eb h
theorem iV(h:JE X e te)(hc:iN e=true:=by rfl):JS X (.Expr e pos) (iZ te):=by unfold JS;unfold JE at h;exact yI h hc
theorem dt{x y:List Stmt}(hc:JT X c t)(ha:JB X x T)(hb:JB X y U):JS X (.If c x y pos) (dE t T U):=by unfold JS;unfold JB at*;unfold JT at hc;exact Fo hc ha hb
theorem yT{x:List Stmt}(hc:JT X c t)(hb:JB X x T)(hx:X.xe=fun _ _=>False:=by rfl):JS X (.While c x [] pos) (ug t T):=by unfold JS;unfold JB at hb;unfold JT at hc;exact zo (yW (by rw[hx];exact PassesOwn.never) hc hb)
theorem jn{tg iter:Expr}{x:List Stmt}{src:DI}{dtg:eS}(hi:JI X tg iter src)(hg:JG X tg dtg)(hb:JB X x T)(hx:X.xe=fun _ _=>False:=by rfl)(hc:X.calm=true:=by rfl)(hs:∀x,foldedSetIterable iter X.env x=pure x:=by intro _;rfl):JS X (.For tg iter x [] pos) (jr src dtg T):=by
 unfold JS;unfold JI at hi;unfold JG at hg;unfold JB at hb;exact C5 (C3 (by rw[hx];exact PassesOwn.never) hc hi hg hb hs)
theorem cn{k:Nat}{x:Str}(hN:X.N.Nodup)(hx:Loc X.env.scope x)(he:JE X e te)(hf:X.fn x=true∨X.env.scope.names.lookup x=some .local:=by first|exact .inl rfl|exact .inr rfl)(h:iN e=true:=by rfl)(hi:X.N[k]?=some x:=by rfl):JS X (.Assign [.Name x pos'] e pos) (cf k te):=by
 unfold JS;unfold JE at he;exact Ca (Ax hN hi hx he hf h)
theorem iW{scope:Scope}{Nc:List Str}{elt tg iter:Expr}{ifs:List Expr}{src:DI}{fr:List (Option Nat)}{dtg:eS}{k:Nat}{x:Str}(hN:X.N.Nodup)(hl:Loc X.env.scope x)(S:bj X scope Nc fr)(hi:JI X tg iter src)(hg:∀C s H ex,JG (eN X scope Nc C s H ex) tg dtg)(ht:∀C s H ex,JC (eN X scope Nc C s H ex) ifs t)(he:∀C s H ex,JE (eN X scope Nc C s H ex) elt te)(fit:pe fr dtg)
 (hf:X.fn x=true∨X.env.scope.names.lookup x=some .local:=by first|exact .inl rfl|exact .inr rfl) (hsw:swapsWith (.ListComp elt [⟨tg,iter,ifs,0⟩] scope p) (some (.Name x pos')) pos.line X.env=pure true:=by rfl) (hni:X.N[k]?=some x:=by rfl) (hx:X.xe=fun _ _=>False:=by rfl) (hc:X.calm=true:=by rfl) (hs:∀x,foldedSetIterable iter X.env x=pure x:=by intro _;rfl):
 JS X (.Assign [.Name x pos'] (.ListComp elt [⟨tg,iter,ifs,0⟩] scope p) pos) (cf k (dc src fr dtg t te)):=by
 unfold JS;unfold JE JI JG JC at*;exact A_ fit (AW hx hc S hi hg ht he hN hni hl hf hsw hs)
theorem dZ(he:JE X e te)(ho:JE X o to)(hi:JE X i ti)(h1:iN e=true:=by rfl)(h2:j7 i=true:=by rfl):JS X (.Assign [.Subscript o i pos'] e pos) (eL to ti te):=by unfold JS;unfold JE at*;exact yQ (Du he ho hi h1 h2)
theorem Dm{k:Nat}{x:Str}{op:Operator}{f:Int→Int→Int}(hN:X.N.Nodup)(hx:Loc X.env.scope x)(he:JE X e te)(ho:DY X op (CU f))(hf:X.fn x=true∨X.env.scope.names.lookup x=some .local:=by first|exact .inl rfl|exact .inr rfl)(hi:X.N[k]?=some x:=by rfl):JS X (.AugAssign (.Name x pos') op e pos) (vE k (sA f) te):=by
 unfold JS;unfold JE at he;exact Dz (CN hN hi hx he ho hf)
theorem DX{k j kt k2:Nat}{x y:Str}{px py pt pt2:Pos}(hN:X.N.Nodup)(hij:k≠j)(hx:X.env.scope.names.lookup x=some .local)(hy:X.env.scope.names.lookup y=some .local)(ha:JA X [a,b] ar)
 (hw:swappedStores [.Tuple [.Name x px,.Name y py] kt pt] (.Tuple [a,b] k2 pt2) X.env=pure (some [x,y]):=by rfl) (hc:X.calm=true:=by rfl) (hi:X.N[k]?=some x:=by rfl) (hj:X.N[j]?=some y:=by rfl) (hs:swapsWithSole [.Tuple [.Name x px,.Name y py] kt pt] (.Tuple [a,b] k2 pt2) pos.line X.env=pure false:=by rfl):
 JS X (.Assign [.Tuple [.Name x px,.Name y py] kt pt] (.Tuple [a,b] k2 pt2) pos) (zc k j ar):=by unfold JS;unfold JA at ha;exact Df (Cf hc hN hi hj hij hx hy ha hw hs)
theorem xO{tg:Expr}{dtg:eS}(he:JE X e te)(hg:JG X tg dtg)(hs:swapsWithSole [tg] e pos.line X.env=pure false:=by rfl)(hw:swappedStores [tg] e X.env=pure none:=by rfl)(h1:(assignEach [tg] X.env).map (·.2)=[assign tg X.env]:=by rfl):JS X (.Assign [tg] e pos) (wz dtg te):=by
 unfold JS;unfold JE at he;unfold JG at hg;exact Dg (wL he hg hs hw h1)
end
theorem cD{P:Program}{w:World}{K:PySem.W.Frag}{mg:Str→Option Value}{base:Heap}{x qual:Str}{st:Stmt}{f:Addr}{fd:FuncData}{N ps:List Str}{k:Nat}{sp:cM}{t:DS}(F:kR K x qual st f fd)(S:bf N ps (ag st))
 (hbody:∀(cdv:Value) (A:Around) (outer:List Env) (s:Shared) (H:Hp) (E:XK),cq k (A.deeper (envOfC qual (ag st) s.heap.objs.size f cdv))→JB (lG aO P w K mg base N qual (ag st) f cdv A outer s H E).qI (aW st) t)
 (hsp:∀ds st K,sp ds st K→ds.length=ps.length∧t {nx:=fun _ st'=>K .aA st',rt:=K} (bx N ds) st):ax P w K mg base aO (k+1) f fd ps (aR sp):=by
 unfold JB at hbody;exact Fz F S hbody hsp
end L3
namespace HT
open PySem PyProof.Rows
section
variable {prog:Program}{w:World}{A:Around}{E:Value→Shared→Prop}{s:Shared}
theorem lV{t sl:Addr}{items:Array Value}{vl vu:Value}{lo hi:Option Int}{Q:Value→Shared→Prop}(ht:IsTup s.heap t items)(hs:s.heap.IsSliceOf sl vl vu .none)(pl:IsPart vl lo)(pu:IsPart vu hi)
 (hw:bz items.size 0 lo=0∧bz items.size items.size hi=items.size) (h:Q (.ref t) s):wpAny (model prog w) A (getItem (.ref t) (.ref sl)) Q E s:=by
 obtain⟨os,hos,hcs,hds⟩:=id hs
 have hTs:s.TypeIs (.ref sl) "slice":=⟨os,hos,hcs⟩
 unfold getItem
 try with_reducible refine wpAny_holding ?_
 first|refine wpAny_bind (wpAny_pure ?_)|skip
 refine wpAny_bind (wpAny_sequenceKey ht.typeIs (by decide) ?_)
 refine wpAny_bind (wpAny_callSpecial?_slot (name:=Str.ofString "__getitem__") ht.typeIs PyProof.Rows.slot_tuple_getitem
  (wpAny_call_entry PyProof.Rows.slot_tuple_getitem ht.typeIs entry_tuple_getitem ?_ (args_tuple_getitem _ _)))
 show wpAny _ _ (Builtin.Tuple.tupleItemsOf (.ref t) >>= _) _ _ s
 refine wpAny_bind (tupleItemsOf_ ht ?_)
 refine wpAny_bind (wpAny_typeOf hTs ?_)
 rw[if_pos (by decide)]
 refine wpAny_bind (ke hs pl pu ?_)
 have hyes:(((bz items.size 0 lo:Nat):Int)==0&&(1:Int)==1&&(bz items.size items.size hi-bz items.size 0 lo)==items.size)=true:=by
  rw[hw.1,hw.2]
  simp
 show wpAny _ _ (if(((bz items.size 0 lo:Nat):Int)==0&&(1:Int)==1&&(bz items.size items.size hi-bz items.size 0 lo)==items.size)=true then _ else _) _ _ s
 rw[if_pos hyes]
 refine wpAny_bind ?_
 unfold Builtin.Tuple.tupleIsExact
 exact wpAny_bind (wpAny_typeOf ht.typeIs (wpAny_pure (wpAny_bind (wpAny_rule (wpAny_pure ⟨_,rfl,wpAny_pure h⟩)))))
end
end HT
namespace L3
open PySem L2
open PySem.Spec hiding items?
open PyProof.Rows hiding St
abbrev DO:=bH→ae→(Option Int→ae→Prop)→Prop
def m7:DO:=fun _ st K=>K none st
def rl(t:DE):DO:=fun σ st K=>t σ st fun d st1=>match d with| .int i=>K (some i) st1|_=>False
def cutD(xs:List D)(lo hi:Option Int):List D:=(xs.drop (HT.bz xs.length 0 lo)).take (HT.bz xs.length xs.length hi-HT.bz xs.length 0 lo)
def rT(d:D)(lo hi:Option Int)(st:ae)(K:DK):Prop:=match d with
 | .lst xs=>K (.lst (cutD xs lo hi)) st
 | .tup xs=>K (.tup (cutD xs lo hi)) st
 | .ref n=>(match st[n]? with|some (.lst xs)=>K (.lst (cutD xs lo hi)) st|_=>False)
 |_=>False
@[irreducible] def jZ:D→Option Int→Option Int→ae→DK→Prop:=rT
def oJ(t:DE)(lo hi:DO):DE:=fun σ st K=>t σ st fun d st1=>lo σ st1 fun l st2=>hi σ st2 fun u st3=>jZ d l u st3 K
theorem oq{α:List (Option Addr)}{G:Hp}{xs:List D}{vs:List V}{lo hi:Option Int}(r:ay α G xs vs):ay α G (cutD xs lo hi) (kX vs lo hi):=by
 unfold cutD kX
 rw[←r.length]
 exact bg.mpr (nK _ (nD _ (bg.mp r)))
def Hz(α:List (Option Addr))(G F:Hp)(K:Option Int→ae→Prop)(Q:Option Int→Hp→Prop):Prop:=∀o st',K o st'→∀α' G' H',Step α G α' G'→bJ G' F H'→aL α' st' G'→Q o H'
inductive Gg(t:DO)(σ:L2.St)(H:Hp)(Q:Option Int→Hp→Prop):Prop
 |mk (α:List (Option Addr)) (σd:bH) (st:ae) (K:Option Int→ae→Prop) (G F:Hp) (P:bJ G F H) (R:dh α G σd σ) (S:aL α st G) (h:t σd st K) (k:Hz α G F K Q):Gg t σ H Q
def LO(t:DO):TO:=Gg t
section
variable {X:Cx}
theorem PO.imp{e:Option Expr}{t t':TO}(h:PO X e t)(f:∀σ H Q,t' σ H Q→t σ H Q):PO X e t':=fun pins s σ H Q I q=>h pins s σ H Q I (f σ H Q q)
theorem BF:PO X none (LO m7):=PO.imp AN fun σ H Q ⟨α,σd,st,K,G,F,P,R,S,t,k⟩=>k none st t α G H Step.refl P S
theorem Bx{e:Expr}{te:DE}(h:PE X e (LE te)):PO X (some e) (LO (rl te)):=PO.imp (AZ h) fun σ H Q ⟨α,σd,st,K,G,F,P,R,S,t,k⟩=>by
 refine⟨α,σd,st,_,G,F,P,R,S,t,fun d st1 q α1 G1 H1 v s1 P1 S1 r1=>?_⟩
 cases d<;>try exact q.elim
 unfold Rep at r1
 exact⟨_,r1,k _ st1 q α1 G1 H1 s1 P1 S1⟩
def Ho(x:V)(lo hi:Option Int)(H:Hp)(Q:VK):Prop:=∃α d st K G F,bJ G F H∧Rep α G d x∧aL α st G∧jZ d lo hi st K∧LK α G F K Q
theorem A3:yq X (fun x lo hi H Q=>∃a xs,x= .ref a∧H a=some (.tup xs)∧((HT.bz xs.length 0 lo=0∧HT.bz xs.length xs.length hi=xs.length)→Q (.ref a) H)∧(¬(HT.bz xs.length 0 lo=0∧HT.bz xs.length xs.length hi=xs.length)→∀p,H p=none→Q (.ref p) (upd H p (.tup (kX xs lo hi))))):=by
 intro pins s σ H x v vl vu lo hi sl Q I rx hs pl pu h
 obtain⟨a,xs,rfl,hx,q1,q2⟩:=h
 by_cases hw:HT.bz xs.length 0 lo=0∧HT.bz xs.length xs.length hi=xs.length
 · cases rx
   obtain⟨its,r,ht,hz⟩:=I.tuple (gs.of hx)
   have hlen:its.toArray.size=xs.length:=by rw[List.size_toArray];exact r.length.symm
   exact⟨"tuple",_,PyProof.Rows.slot_tuple_getitem.lookup,ht.typeIs,HT.lV ht hs pl pu (by rw[hlen];exact hw) ⟨.ref a,H,I,rfl,q1 hw⟩⟩
 · exact C4 pins s σ H _ v vl vu lo hi sl Q I rx hs pl pu ⟨a,xs,rfl,.of hx,hw,q2 hw⟩
theorem wK{xs:List D}{lo hi:Option Int}(hw:HT.bz xs.length 0 lo=0∧HT.bz xs.length xs.length hi=xs.length):cutD xs lo hi=xs:=by
 unfold cutD
 rw[hw.1,hw.2]
 simp
theorem Dk:yq X Ho:=by
 intro pins s σ H x v vl vu lo hi sl Q I rx hs pl pu ⟨α,d,st,K,G,F',P,r1,S,q,k⟩
 unfold jZ rT at q
 cases d<;>try exact q.elim
 · rename_i n
   simp only at q
   split at q
   · rename_i xs e
     obtain⟨a,ea,vs,h1,h2⟩:=S.f_ e
     have r1':=dA ea r1
     subst r1'
     exact vf pins s σ H _ v vl vu lo hi sl Q I rx hs pl pu ⟨a,vs,rfl,.inl (.of (P.get h1)),fun p hp=>k.lst P q S (oq h2) hp⟩
   · exact q.elim
 · unfold Rep at r1
   obtain⟨a,vs,rfl,na,ha,ra⟩:=r1
   exact vf pins s σ H _ v vl vu lo hi sl Q I rx hs pl pu ⟨a,vs,rfl,.inl (fZ P ha),fun p hp=>k.lst P q S (oq ra) hp⟩
 · rename_i xs
   have r0:=r1
   unfold Rep at r1
   obtain⟨a,vs,rfl,na,ha,ra⟩:=r1
   refine A3 pins s σ H _ v vl vu lo hi sl Q I rx hs pl pu ⟨a,vs,rfl,P.get ha,fun hw=>?_,fun _ p hp=>k.tup P q S (oq ra) hp⟩
   rw[←ra.length]at hw
   simp only at q
   rw[wK hw]at q
   exact k.here P q S r0
theorem AV{e:Expr}{lo hi:Option Expr}{te:DE}{tl th:DO}{p2 pos:Pos}(he:PE X e (LE te))(hl:PO X lo (LO tl))(hh:PO X hi (LO th)):PE X (.Subscript e (.Slice lo hi none p2) pos) (LE (oJ te tl th)):=PE.imp (zj Dk he hl hh) fun σ H Q ⟨α,σd,st,K,G,F,P,R,S,t,k⟩=>by
 refine⟨α,σd,st,_,G,F,P,R,S,t,fun d st1 q α1 G1 H1 v s1 P1 S1 r1=>?_⟩
 refine⟨α1,σd,st1,_,G1,F,P1,R.step s1,S1,q,fun l st2 q2 α2 G2 H2 s2 P2 S2=>?_⟩
 refine⟨α2,σd,st2,_,G2,F,P2,(R.step s1).step s2,S2,q2,fun u st3 q3 α3 G3 H3 s3 P3 S3=>?_⟩
 exact⟨α3,d,st3,K,G3,F,P3,(r1.step s2).step s3,S3,q3,((k.at s1).at s2).at s3⟩
@[irreducible] def JO(X:Cx)(e:Option Expr)(t:DO):Prop:=PO X e (LO t)
theorem uK:JO X none m7:=by unfold JO;exact BF
theorem uJ{e:Expr}{te:DE}(h:JE X e te):JO X (some e) (rl te):=by unfold JO;unfold JE at h;exact Bx h
theorem u_{e:Expr}{lo hi:Option Expr}{te:DE}{tl th:DO}{p2 pos:Pos}(he:JE X e te)(hl:JO X lo tl)(hh:JO X hi th):JE X (.Subscript e (.Slice lo hi none p2) pos) (oJ te tl th):=by unfold JE at*;unfold JO at*;exact AV he hl hh
end
theorem xF{st:ae}{K:DK}{xs:List D}{lo hi:Option Int}(k:K (.lst (cutD xs lo hi)) st):jZ (.lst xs) lo hi st K:=by unfold jZ;exact k
theorem yd{st:ae}{K:DK}{xs:List D}{lo hi:Option Int}{n:Nat}(h:st[n]?=some (.lst xs))(k:K (.lst (cutD xs lo hi)) st):jZ (.ref n) lo hi st K:=by unfold jZ rT;simp only[h];exact k
end L3
namespace L3
open PySem L2
open PySem.Spec hiding items?
open PyProof.Rows hiding St
section
variable {prog:Program}{w:World}{A:Around}{E:Value→Shared→Prop}{s:Shared}
theorem vA{iT tp:Addr}{n:Nat}{its:Array Value}{v:Value}{Q:Value→Shared→Prop}(hI:s.heap.IsTupleIter iT tp n)(hT:s.heap.IsTuple tp its)(hv:its[n]?=some v)
 (q:∀g,g.IsTupleIter iT tp (n+1)→Heap.SameBut iT s.heap g→Q v {s with heap:=g}):wpAny (model prog w) A (Builtin.SmallTypes.nextOf (.ref iT)) Q E s:=by
 obtain⟨oI,eI,cI,dI⟩:=id hI
 obtain⟨oT,eT,_,nT,dT⟩:=hT
 unfold Builtin.SmallTypes.nextOf
 refine wpAny_bind (wpAny_callSpecial?_slot (name:=Str.ofString "__next__") hI.typeIs F.slot_tuple_iterator_next (wpAny_call_entry F.slot_tuple_iterator_next hI.typeIs F.entry_tuple_iterator_next ?_ (F.args_tuple_iterator_next_1 _)))
 show wpAny _ _ (field (.ref iT) 0 >>= _) _ _ s
 refine wpAny_bind (wpAny_field eI dI (x:= .ref tp) rfl ?_)
 show wpAny _ _ (if(Value.ref tp==Value.none)=true then _ else _) _ _ s
 rw[if_neg (show¬((Value.ref tp==Value.none)=true)from Bool.false_ne_true)]
 show wpAny _ _ (field (.ref iT) 1 >>= _) _ _ s
 refine wpAny_bind (wpAny_field eI dI (x:= .int n 0) rfl ?_)
 show wpAny _ _ (seqItems? (.ref tp) >>= _) _ _ s
 refine wpAny_bind (wpAny_seqItems eT dT ?_)
 simp only[Int.toNat_natCast,hv]
 refine wpAny_bind (wpAny_setField eI dI (by simp) (wpAny_pure ⟨v,rfl,wpAny_pure (q _ ?_ (Heap.SameBut.update ..))⟩))
 refine⟨_,Heap.get?_update_self _ eI (Obj.isFreed_of_fields (Obj.data_mapFields dI _)),(Obj.cls_mapFields ..).trans cI,?_⟩
 rw[Obj.data_mapFields dI]
 simp[rawInt]
theorem xo{iT tp:Addr}{n:Nat}{its:Array Value}{Q:Value→Shared→Prop}(hh:A.handled=none)(hI:s.heap.IsTupleIter iT tp n)(hT:s.heap.IsTuple tp its)(hv:its[n]?=none)
 (q:∀g e,Heap.ExtBut iT s.heap g→(∃o,g.get? e=some o∧o.cls= .type "StopIteration")→E (.ref e) {s with heap:=g}):wpAny (model prog w) A (Builtin.SmallTypes.nextOf (.ref iT)) Q E s:=by
 obtain⟨oI,eI,cI,dI⟩:=id hI
 obtain⟨oT,eT,_,nT,dT⟩:=hT
 unfold Builtin.SmallTypes.nextOf
 refine wpAny_bind (wpAny_callSpecial?_slot (name:=Str.ofString "__next__") hI.typeIs F.slot_tuple_iterator_next (wpAny_call_entry F.slot_tuple_iterator_next hI.typeIs F.entry_tuple_iterator_next ?_ (F.args_tuple_iterator_next_1 _)))
 show wpAny _ _ (field (.ref iT) 0 >>= _) _ _ s
 refine wpAny_bind (wpAny_field eI dI (x:= .ref tp) rfl ?_)
 show wpAny _ _ (if(Value.ref tp==Value.none)=true then _ else _) _ _ s
 rw[if_neg (show¬((Value.ref tp==Value.none)=true)from Bool.false_ne_true)]
 show wpAny _ _ (field (.ref iT) 1 >>= _) _ _ s
 refine wpAny_bind (wpAny_field eI dI (x:= .int n 0) rfl ?_)
 show wpAny _ _ (seqItems? (.ref tp) >>= _) _ _ s
 refine wpAny_bind (wpAny_seqItems eT dT ?_)
 simp only[Int.toNat_natCast,hv]
 refine wpAny_bind (wpAny_rule (wpAny_bind (wpAny_setField eI dI (by simp) ?_)))
 show wpAny _ _ (newExc (.type "StopIteration") [] >>= _) _ _ _
 refine wpAny_bind ?_
 simp only[newExc,newTuple]
 refine wpAny_bind (wpAny_newObj_type ?_ (by size_fits))
 refine wpAny_bind (m:=firstArgMember _ _) (wpAny_of_eq (a:=Value.none) (by first|rfl|(simp only[firstArgMember];rfl)) ?_)
 refine wpAny_newObj_type ?_ (by size_fits)
 simp only[raiseNew]
 refine wpAny_bind (wpAny_handled ?_)
 first|rw[show A.in1.handled=none from hh]|rw[hh]
 refine wpAny_bind (wpAny_pure (wpAny_throw ?_))
 exact q _ _ (((Heap.SameBut.update ..).extBut.push _).push _) ⟨_,Heap.get?_push_size _ rfl,rfl⟩
end
end L3
namespace L3
open PySem L2
open PySem.Spec hiding items?
open PyProof.Rows hiding St
section
variable {st:ae}{K:DK}{i j:Int}{b c:Bool}{xs ys:List D}{d e:D}{n:Nat}
theorem eqT(h:i=j)(k:K (.bl true) st):gF (.int i) (.int j) st K:=yo (by rw[decide_eq_true h];exact k)
theorem Hw(h:i≠j)(k:K (.bl false) st):gF (.int i) (.int j) st K:=yo (by rw[decide_eq_false h];exact k)
theorem eq2(h1:i=j→K (.bl true) st)(h2:i≠j→K (.bl false) st):gF (.int i) (.int j) st K:=by
 by_cases h:i=j
 · exact eqT h (h1 h)
 · exact Hw h (h2 h)
theorem neT(h:i≠j)(k:K (.bl true) st):kK (.int i) (.int j) st K:=Ae (by rw[decide_eq_false h];exact k)
theorem zV(h:i=j)(k:K (.bl false) st):kK (.int i) (.int j) st K:=Ae (by rw[decide_eq_true h];exact k)
theorem ne2(h1:i≠j→K (.bl true) st)(h2:i=j→K (.bl false) st):kK (.int i) (.int j) st K:=by
 by_cases h:i=j
 · exact zV h (h2 h)
 · exact neT h (h1 h)
theorem Hu(h:i<j)(k:K (.bl true) st):lO (.int i) (.int j) st K:=mP (by rw[decide_eq_true h];exact k)
theorem Hf(h:j≤i)(k:K (.bl false) st):lO (.int i) (.int j) st K:=mP (by rw[decide_eq_false (by omega)];exact k)
theorem Hy(h1:i<j→K (.bl true) st)(h2:j≤i→K (.bl false) st):lO (.int i) (.int j) st K:=by
 by_cases h:i<j
 · exact Hu h (h1 h)
 · exact Hf (by omega) (h2 (by omega))
theorem Hb(h:j<i)(k:K (.bl true) st):kJ (.int i) (.int j) st K:=m6 (by rw[decide_eq_true h];exact k)
theorem FO(h:i≤j)(k:K (.bl false) st):kJ (.int i) (.int j) st K:=m6 (by rw[decide_eq_false (by omega)];exact k)
theorem Hj(h1:j<i→K (.bl true) st)(h2:i≤j→K (.bl false) st):kJ (.int i) (.int j) st K:=by
 by_cases h:j<i
 · exact Hb h (h1 h)
 · exact FO (by omega) (h2 (by omega))
theorem Ai{P:Prop}(h:xs.length≤1000)(k:P):xs.length≤sizeLine∧P:=⟨by rw[sizeLine_eq];omega,k⟩
theorem cj{m:Nat}(h:m≤1000):m≤sizeLine:=by rw[sizeLine_eq];omega
theorem pU(h0:0≤i)(e:xs[i.toNat]?=some d):eP xs i=some d:=by
 have:=h8 e
 rw[Int.toNat_of_nonneg h0]at this
 exact this
theorem Dl{m:Nat}(h0:0≤i)(h:i.toNat<m):jx m i=some i.toNat:=by
 unfold jx
 have:i<(m:Int):=by omega
 simp[h0,this]
end
theorem kW{tg:eS}{body:DS}{ok:ae→Prop}{E:jC}(I:List D→bH→ae→Prop)(hend:∀σ st,I [] σ st→ok st∧E.nx σ st)
 (hstep:∀x xs σ st,I (x::xs) σ st→(∀σ' st',I xs σ' st'→gh tg body ok E xs σ' st')→ok st∧∃σ1,tg x σ=some σ1∧body {E with nx:=gh tg body ok E xs,ct:=gh tg body ok E xs,bk:=E.nx} σ1 st):
 ∀xs σ st,I xs σ st→gh tg body ok E xs σ st
 | [],σ,st,h=>by unfold gh;exact hend σ st h
 |x::xs,σ,st,h=>by unfold gh;exact hstep x xs σ st h fun σ' st' h'=>kW I hend hstep xs σ' st' h'
theorem gD{tg:eS}{c:DT}{te:DE}{ok:ae→Prop}{σc:bH}{K:List D→ae→Prop}(I:List D→List D→ae→Prop)(hend:∀acc st,I [] acc st→ok st∧K acc st)
 (hstep:∀x xs acc st,I (x::xs) acc st→(∀acc' st',I xs acc' st'→cU tg c te ok σc xs acc' st' K)→ok st∧∃σ2,tg x σc=some σ2∧c σ2 st fun b st1=>if b=true then te σ2 st1 fun y st2=>cU tg c te ok σc xs (acc++[y]) st2 K else cU tg c te ok σc xs acc st1 K):
 ∀xs acc st,I xs acc st→cU tg c te ok σc xs acc st K
 | [],acc,st,h=>by unfold cU;exact hend acc st h
 |x::xs,acc,st,h=>by unfold cU;exact hstep x xs acc st h fun acc' st' h'=>gD I hend hstep xs acc' st' h'
theorem comp_map{tg:eS}{te:DE}{ok:ae→Prop}{σc:bH}{st:ae}{K:List D→ae→Prop}{g:D→D}(aH:ok st)(xs:List D)(hx:∀x∈xs,∀K',K' (g x) st→∃σ2,tg x σc=some σ2∧te σ2 st K')(k:K (xs.map g) st):cU tg ck te ok σc xs [] st K:=by
 refine gD (fun r acc st'=>st'=st∧(∀x∈r,x∈xs)∧acc++r.map g=xs.map g) (fun acc st' h=>?_) (fun x r acc st' h next=>?_) xs [] st ⟨rfl,fun _ h=>h,rfl⟩
 · obtain⟨rfl,_,e⟩:=h
   rw[List.map_nil,List.append_nil]at e
   rw[e];exact⟨aH,k⟩
 · obtain⟨rfl,hm,e⟩:=h
   obtain⟨σ2,e2,q⟩:=hx x (hm x List.mem_cons_self) (fun y st2=>cU tg ck te ok σc r (acc++[y]) st2 K) (next _ _ ⟨rfl,fun z hz=>hm z (List.mem_cons_of_mem _ hz),by rw[←e];simp⟩)
   exact⟨aH,σ2,e2,q⟩
theorem gI{A B:DS}{E:jC}{σ:bH}{st:ae}(J:bH→ae→Prop)(h:∀nx,(∀σ' st',J σ' st'→nx σ' st')→A {E with nx:=nx} σ st)(k:∀σ' st',J σ' st'→B E σ' st'):aQ A B E σ st:=h (B E) k
def BU(n:Nat)(K:DK)(y:D)(st2:ae):Prop:=∃y',[y]=[y']∧(match st2[n]? with|some (.lst xs)=>xs.length<sizeLine∧K .aA (st2.set n (.lst (xs++[y'])))|_=>False)
theorem Bf{n:Nat}{K:DK}{y:D}{st:ae}{xs:List D}(e:st[n]?=some (.lst xs))(h:xs.length<sizeLine)(k:K .aA (st.set n (.lst (xs++[y])))):BU n K y st:=by
 refine⟨y,rfl,?_⟩;simp only[e];exact⟨h,k⟩
@[irreducible] def kQ(to te:DE):DE:=kO to te
theorem BS{σ:bH}{st:ae}{K:DK}{i n:Nat}{xs:List D}{te:DE}(ei:σ[i]?=some (some (.ref n)))(e:st[n]?=some (.lst xs))(h:te σ st (BU n K)):kQ (aa i) te σ st K:=by
 unfold kQ kO aa
 simp only[ei,e]
 exact h
theorem x3{X:Cx}{o e:Expr}{to te:DE}{apos cpos:Pos}(ho:JE X o to)(he:JE X e te)(hbase:attributeBase o "append" X.env (eval o X.env)=eval o X.env:=by rfl)(hline:(apos.endLine==cpos.line)=true:=by rfl)(hs:notStar e=true:=by rfl):JE X (.Call (.Attribute o "append" apos) [e] [] cpos) (kQ to te):=by
 unfold kQ;exact yA ho he hbase hline hs
section
variable {X:Cx}
end
end L3
namespace L3
open PySem L2
open PySem.Spec hiding items?
open PyProof.Rows hiding St
structure Src(P:Program)(w:World)(t a:Addr)(J:Nat→Heap→Prop)(us:Array Value):Prop where
 fr:∀n g k,J n g→(∀b,b=t∨b=a→∀o,g.get? b=some o→k.get? b=some o)→J n k
 lv:∀n g,J n g→(∃o,g.get? t=some o)∧∃o,g.get? a=some o
 nx:∀n (A:Around) (s:Shared) (Q:Value→Shared→Prop) (E:Value→Shared→Prop) v,J n s.heap→us[n]?=some v→(∀k,J (n+1) k→Heap.SameBut t s.heap k→Q v {s with heap:=k})→wpAny (model P w) A (Builtin.SmallTypes.nextOf (.ref t)) Q E s
 en:∀n (A:Around) (s:Shared) (Q:Value→Shared→Prop) (E:Value→Shared→Prop),A.handled=none→J n s.heap→us[n]?=none→(∀k e,Heap.ExtBut t s.heap k→(∃o,k.get? e=some o∧o.cls= .type "StopIteration")→E (.ref e) {s with heap:=k})→wpAny (model P w) A (Builtin.SmallTypes.nextOf (.ref t)) Q E s
section
variable {P:Program}{w:World}
theorem src_list(t a:Addr)(hne:a≠t)(us:Array Value):Src P w t a (fun n g=>g.IsListIter t a n∧g.IsList a us) us where
 fr:=fun n g k j kp=>⟨j.1.at fun o e=>kp t (.inl rfl) o e,j.2.at fun o e=>kp a (.inr rfl) o e⟩
 lv:=fun n g j=>⟨let⟨o,e,_⟩:=j.1;⟨o,e⟩,let⟨o,e,_⟩:=j.2;⟨o,e⟩⟩
 nx:=fun n A s Q E v j hv q=>wpAny_nextOf_list_item j.1 j.2 hv fun k jk sb=>q k ⟨jk,j.2.extBut sb.extBut hne⟩ sb
 en:=fun n A s Q E hh j hv q=>wpAny_nextOf_list_end hh j.1 j.2 hv q
theorem Bi(t a:Addr)(hne:a≠t)(us:Array Value):Src P w t a (fun n g=>g.IsTupleIter t a n∧g.IsTuple a us) us where
 fr:=fun n g k j kp=>by
  obtain⟨⟨o,e,r⟩,⟨o2,e2,r2⟩⟩:=j
  exact⟨⟨o,kp t (.inl rfl) o e,r⟩,⟨o2,kp a (.inr rfl) o2 e2,r2⟩⟩
 lv:=fun n g j=>⟨let⟨o,e,_⟩:=j.1;⟨o,e⟩,let⟨o,e,_⟩:=j.2;⟨o,e⟩⟩
 nx:=fun n A s Q E v j hv q=>vA j.1 j.2 hv fun k jk sb=>q k ⟨jk,j.2.extBut sb.extBut hne⟩ sb
 en:=fun n A s Q E hh j hv q=>xo hh j.1 j.2 hv q
theorem Src.ext{t a c:Addr}{J:Nat→Heap→Prop}{us:Array Value}(S:Src P w t a J us){n:Nat}{g k:Heap}(j:J n g)(x:Heap.ExtBut c g k)(h1:c≠t)(h2:c≠a):J n k:=
 S.fr n g k j fun b hb o e=>x b o (by rcases hb with rfl|rfl;exact Ne.symm h1;exact Ne.symm h2) e
structure vb(z ti to t1 t2 a1 a2:Addr):Prop where
 nd: [z,ti,to,t1,t2].Nodup
 a1:a1∉[z,ti,to,t1,t2]
 a2:a2∉[z,ti,to,t1,t2]
section
variable {z ti to t1 t2 a1 a2:Addr}
theorem vb.n(D:vb z ti to t1 t2 a1 a2):(ti≠z∧to≠z∧t1≠z∧t2≠z)∧(ti≠to∧ti≠t1∧ti≠t2)∧(to≠t1∧to≠t2)∧t1≠t2:=by
 have:=D.nd
 simp only[List.nodup_cons,List.mem_cons,not_or,List.not_mem_nil,not_false_eq_true,and_true,List.nodup_nil]at this
 obtain⟨⟨b1,b2,b3,b4⟩,⟨b5,b6,b7⟩,⟨b8,b9⟩,b10⟩:=this
 exact⟨⟨Ne.symm b1,Ne.symm b2,Ne.symm b3,Ne.symm b4⟩,⟨b5,b6,b7⟩,⟨b8,b9⟩,b10⟩
theorem xT{A:Around}{s:Shared}{E:Value→Shared→Prop}{J1 J2:Nat→Heap→Prop}{us vs:Array Value}{n:Nat}{x y a b:Value}{Q:Value→Shared→Prop}(D:vb z ti to t1 t2 a1 a2)(S1:Src P w t1 a1 J1 us)(S2:Src P w t2 a2 J2 vs)
 (Z:IsZip s.heap z ti to .none) (pI:IsPair s.heap ti (.ref t1) (.ref t2)) (pO:IsPair s.heap to a b) (j1:J1 n s.heap) (j2:J2 n s.heap) (ex:us[n]?=some x) (ey:vs[n]?=some y)
 (q:∀k,IsZip k z ti to (rawInt s.heap.objs.size)→IsPair k to x y→J1 (n+1) k→J2 (n+1) k→IsPair k s.heap.objs.size x y→k.objs.size=s.heap.objs.size+1→
   (∀c o,c≠z→c≠to→c≠t1→c≠t2→s.heap.get? c=some o→k.get? c=some o)→Q (.ref s.heap.objs.size) {s with heap:=k}):
 wpAny (model P w) A (Builtin.«zip.__next__» ⟨[.ref z],[]⟩) (fun fin s'=>∃v,fin= .done (.ret v)∧Q v s') E s:=by
 obtain⟨⟨n1,n2,n3,n4⟩,⟨n5,n6,n7⟩,⟨n8,n9⟩,n10⟩:=D.n
 have m1:=D.a1
 have m2:=D.a2
 simp only[List.mem_cons,not_or,List.not_mem_nil,not_false_eq_true,and_true]at m1 m2
 show wpAny _ _ (field (.ref z) 2 >>= _) _ _ _
 refine wpAny_bind (wpAny_field Z rfl (x:= .bool false) rfl ?_)
 show wpAny _ _ (field (.ref z) 3 >>= _) _ _ _
 refine wpAny_bind (wpAny_field Z rfl (x:= .ref ti) rfl ?_)
 refine wpAny_bind (wpAny_seqItems pI rfl ?_)
 show wpAny _ _ (Builtin.SmallTypes.ownedTupleIsFree (.ref z) >>= _) _ _ _
 refine wpAny_bind ?_
 unfold Builtin.SmallTypes.ownedTupleIsFree
 refine wpAny_bind (wpAny_field Z rfl (x:= .none) rfl (wpAny_pure ?_))
 simp only[if_true]
 refine wpAny_bind (wpAny_rule ?_)
 refine wpAny_bind (wpAny_field Z rfl (x:= .ref to) rfl ?_)
 refine wpAny_bind (wpAny_setField_rec Z (by simp) fun k1 Z1 b1=>?_)
 replace Z1:IsZip k1 z ti to .ellipsis:=Z1
 refine wpAny_bind ?_
 simp only[List.zipIdx_cons,List.zipIdx_nil,List.forIn_cons,List.forIn_nil]
 refine wpAny_bind (wpAny_bind (wpAny_onRaise ?_))
 show wpAny _ _ (Builtin.SmallTypes.nextOf (.ref t1) >>= _) _ _ _
 refine wpAny_bind (S1.nx n _ _ _ _ x (S1.ext j1 b1.extBut (Ne.symm n3) (Ne.symm m1.1)) ex fun k2 j1b b2=>wpAny_pure ?_)
 have pO2:IsPair k2 to a b:=b2.extBut _ _ n8 (b1.extBut _ _ n2 pO)
 refine wpAny_bind (wpAny_seqItems pO2 rfl ?_)
 refine wpAny_bind (wpAny_updateSeq_pair pO2 fun k3 pO3 b3=>?_)
 replace pO3:IsPair k3 to x b:=pO3
 refine wpAny_bind (wpAny_letGo (wpAny_pure ?_))
 refine wpAny_bind (wpAny_bind (wpAny_onRaise ?_))
 show wpAny _ _ (Builtin.SmallTypes.nextOf (.ref t2) >>= _) _ _ _
 have j2c:J2 n k3:=S2.ext (S2.ext (S2.ext j2 b1.extBut (Ne.symm n4) (Ne.symm m2.1)) b2.extBut n10 (Ne.symm m2.2.2.2.1)) b3.extBut n9 (Ne.symm m2.2.2.1)
 refine wpAny_bind (S2.nx n _ _ _ _ y j2c ey fun k4 j2d b4=>wpAny_pure ?_)
 have pO4:IsPair k4 to x b:=b4.extBut _ _ n9 pO3
 refine wpAny_bind (wpAny_seqItems pO4 rfl ?_)
 refine wpAny_bind (wpAny_updateSeq_pair pO4 fun k5 pO5 b5=>?_)
 replace pO5:IsPair k5 to x y:=pO5
 refine wpAny_bind (wpAny_letGo (wpAny_pure (wpAny_pure ?_)))
 refine wpAny_bind (wpAny_seqItems pO5 rfl ?_)
 refine wpAny_bind (wpAny_newTuple ?_)
 have sz:k5.objs.size=s.heap.objs.size:=by rw[b5.1,b4.1,b3.1,b2.1,b1.1]
 have Z5:IsZip k5 z ti to .ellipsis:=b5.extBut _ _ (Ne.symm n2) (b4.extBut _ _ (Ne.symm n4) (b3.extBut _ _ (Ne.symm n2) (b2.extBut _ _ (Ne.symm n3) Z1)))
 have kp5:∀c o,c≠z→c≠to→c≠t1→c≠t2→s.heap.get? c=some o→k5.get? c=some o:=fun c o c1 c2 c3 c4 e=>b5.extBut _ _ c2 (b4.extBut _ _ c4 (b3.extBut _ _ c2 (b2.extBut _ _ c3 (b1.extBut _ _ c1 e))))
 have j1e:J1 (n+1) k5:=S1.ext (S1.ext (S1.ext j1b b3.extBut n8 (Ne.symm m1.2.2.1)) b4.extBut (Ne.symm n10) (Ne.symm m1.2.2.2.2)) b5.extBut n8 (Ne.symm m1.2.2.1)
 have j2e:J2 (n+1) k5:=S2.ext j2d b5.extBut n9 (Ne.symm m2.2.2.1)
 have ltz:z<k5.objs.size:=Heap.lt_size Z5
 show wpAny _ _ (Builtin.SmallTypes.ownedTupleHandOut (.ref z) (.ref k5.objs.size) >>= _) _ _ _
 refine wpAny_bind ?_
 unfold Builtin.SmallTypes.ownedTupleHandOut
 have Z6:IsZip (k5.push {cls:= .type "tuple",data:= .seq #[x,y]}) z ti to .ellipsis:=Heap.get?_push_of_some _ Z5
 refine wpAny_bind (wpAny_setField_rec Z6 (by simp) fun k7 Z7 b7=>?_)
 replace Z7:IsZip k7 z ti to (rawInt k5.objs.size):=Z7
 refine wpAny_setField_rec Z7 (by simp) fun k8 Z8 b8=>?_
 replace Z8:IsZip k8 z ti to (rawInt k5.objs.size):=Z8
 have up:∀c o,c≠z→k5.get? c=some o→k8.get? c=some o:=fun c o c1 e=>b8.extBut _ _ c1 (b7.extBut _ _ c1 (Heap.get?_push_of_some _ e))
 have pT:IsPair k8 k5.objs.size x y:=b8.extBut _ _ (Nat.ne_of_gt ltz) (b7.extBut _ _ (Nat.ne_of_gt ltz) (Heap.get?_push_size _ rfl))
 have sz8:k8.objs.size=k5.objs.size+1:=by rw[b8.1,b7.1,Heap.size_push]
 rw[sz]at Z8 pT sz8
 refine wpAny_pure ⟨_,rfl,?_⟩
 show Q (.ref k5.objs.size) _
 rw[sz]
 refine q k8 Z8 (up _ _ n2 pO5) (S1.fr _ _ _ j1e fun b hb o e=>up b o ?_ e) (S2.fr _ _ _ j2e fun b hb o e=>up b o ?_ e) pT sz8 fun c o c1 c2 c3 c4 e=>up c o c1 (kp5 c o c1 c2 c3 c4 e)
 · rcases hb with rfl|rfl
   · exact n3
   · exact m1.1
 · rcases hb with rfl|rfl
   · exact n4
   · exact m2.1
theorem yG{A:Around}{s:Shared}{E:Value→Shared→Prop}{J1 J2:Nat→Heap→Prop}{us vs:Array Value}{n:Nat}{a b:Value}{Q:Fin→Shared→Prop}(hh:A.handled=none)(D:vb z ti to t1 t2 a1 a2)(S1:Src P w t1 a1 J1 us)(S2:Src P w t2 a2 J2 vs)
 (Z:IsZip s.heap z ti to .none) (pI:IsPair s.heap ti (.ref t1) (.ref t2)) (pO:IsPair s.heap to a b) (j1:J1 n s.heap) (j2:J2 n s.heap) (he:us[n]?=none∨vs[n]?=none)
 (q:∀k e,(∀c o,c≠z→c≠to→c≠t1→c≠t2→s.heap.get? c=some o→k.get? c=some o)→(∃o,k.get? e=some o∧o.cls= .type "StopIteration")→E (.ref e) {s with heap:=k}):
 wpAny (model P w) A (Builtin.«zip.__next__» ⟨[.ref z],[]⟩) Q E s:=by
 obtain⟨⟨n1,n2,n3,n4⟩,⟨n5,n6,n7⟩,⟨n8,n9⟩,n10⟩:=D.n
 have m1:=D.a1
 have m2:=D.a2
 simp only[List.mem_cons,not_or,List.not_mem_nil,not_false_eq_true,and_true]at m1 m2
 show wpAny _ _ (field (.ref z) 2 >>= _) _ _ _
 refine wpAny_bind (wpAny_field Z rfl (x:= .bool false) rfl ?_)
 show wpAny _ _ (field (.ref z) 3 >>= _) _ _ _
 refine wpAny_bind (wpAny_field Z rfl (x:= .ref ti) rfl ?_)
 refine wpAny_bind (wpAny_seqItems pI rfl ?_)
 show wpAny _ _ (Builtin.SmallTypes.ownedTupleIsFree (.ref z) >>= _) _ _ _
 refine wpAny_bind ?_
 unfold Builtin.SmallTypes.ownedTupleIsFree
 refine wpAny_bind (wpAny_field Z rfl (x:= .none) rfl (wpAny_pure ?_))
 simp only[if_true]
 refine wpAny_bind (wpAny_rule ?_)
 refine wpAny_bind (wpAny_field Z rfl (x:= .ref to) rfl ?_)
 refine wpAny_bind (wpAny_setField_rec Z (by simp) fun k1 Z1 b1=>?_)
 replace Z1:IsZip k1 z ti to .ellipsis:=Z1
 refine wpAny_bind ?_
 simp only[List.zipIdx_cons,List.zipIdx_nil,List.forIn_cons,List.forIn_nil]
 refine wpAny_bind (wpAny_bind (wpAny_onRaise ?_))
 show wpAny _ _ (Builtin.SmallTypes.nextOf (.ref t1) >>= _) _ _ _
 have j1a:J1 n k1:=S1.ext j1 b1.extBut (Ne.symm n3) (Ne.symm m1.1)
 cases ex:us[n]? with
 |none=>
  refine wpAny_bind (S1.en n _ _ _ _ hh j1a ex fun k2 e b2 hx=>?_)
  obtain⟨oe,he1,he2⟩:=hx
  have Z2:IsZip k2 z ti to .ellipsis:=b2 _ _ (Ne.symm n3) Z1
  have hez:e≠z:=fun c=>by subst c;rw[Z2]at he1;cases he1;simp at he2
  refine wpAny_setField_rec Z2 (by simp) fun k3 _ b3=>q k3 e (fun c o c1 _ c3 _ f=>b3.extBut _ _ c1 (b2 _ _ c3 (b1.extBut _ _ c1 f))) ⟨oe,b3.extBut _ _ hez he1,he2⟩
 |some x=>
  have ey:vs[n]?=none:=by
   rcases he with h|h
   · rw[ex]at h;cases h
   · exact h
  refine wpAny_bind (S1.nx n _ _ _ _ x j1a ex fun k2 j1b b2=>wpAny_pure ?_)
  have pO2:IsPair k2 to a b:=b2.extBut _ _ n8 (b1.extBut _ _ n2 pO)
  refine wpAny_bind (wpAny_seqItems pO2 rfl ?_)
  refine wpAny_bind (wpAny_updateSeq_pair pO2 fun k3 pO3 b3=>?_)
  refine wpAny_bind (wpAny_letGo (wpAny_pure ?_))
  refine wpAny_bind (wpAny_bind (wpAny_onRaise ?_))
  show wpAny _ _ (Builtin.SmallTypes.nextOf (.ref t2) >>= _) _ _ _
  have j2c:J2 n k3:=S2.ext (S2.ext (S2.ext j2 b1.extBut (Ne.symm n4) (Ne.symm m2.1)) b2.extBut n10 (Ne.symm m2.2.2.2.1)) b3.extBut n9 (Ne.symm m2.2.2.1)
  refine wpAny_bind (S2.en n _ _ _ _ hh j2c ey fun k4 e b4 hx=>?_)
  obtain⟨oe,he1,he2⟩:=hx
  have Z4:IsZip k4 z ti to .ellipsis:=b4 _ _ (Ne.symm n4) (b3.extBut _ _ (Ne.symm n2) (b2.extBut _ _ (Ne.symm n3) Z1))
  have hez:e≠z:=fun c=>by subst c;rw[Z4]at he1;cases he1;simp at he2
  refine wpAny_setField_rec Z4 (by simp) fun k5 _ b5=>q k5 e (fun c o c1 c2 c3 c4 f=>b5.extBut _ _ c1 (b4 _ _ c4 (b3.extBut _ _ c2 (b2.extBut _ _ c3 (b1.extBut _ _ c1 f))))) ⟨oe,b5.extBut _ _ hez he1,he2⟩
end
end
end L3
namespace L3
open PySem L2
open PySem.Spec hiding items?
open PyProof.Rows hiding St
theorem EI{X:Cx}{pins:List (Addr×Obj)}{σ:L2.St}{H:Hp}{s:Shared}{g:Heap}{tk:Nat}{fp:List Addr}{T:Addr}{xs:List V}(I:Inv X pins σ H s)(hf:∀b∈fp,iU X pins H b)
 (k:∀b o,b∉fp→s.heap.get? b=some o→g.get? b=some o) (hT:s.heap.objs.size≤T) (new:cR X.prog X.w (upd H T (.tup xs)) g T (.tup xs)):Inv X pins σ (upd H T (.tup xs)) {s with heap:=g,toks:=tk}:=by
 have hn:H T=none:=I.aH.fresh hT
 have nfp:∀b u,H b=some u→b∉fp:=fun b u e z=>by rw[(hf b z).1]at e;cases e
 have nT:∀b u,H b=some u→b≠T:=fun b u e=>cQ e hn
 refine I.step (g':=s.gens) (d':=s.drawn) (ch:=fp) (fun b hb=>?_) (fun b o _ _ hc e _=>k b o hc e) (fun b o _ _ hc e _=>⟨o.slots,k b o hc e⟩) (fun b o _ e n=>?_) (fun b o hc e=>⟨o,k b o hc e⟩)
  (fun b ys e=>by rw[aB (nT b _ e)];exact e) (fun b o u e=>by rw[aB (nT b _ e)];exact e) (fun b ps e=>⟨#[],by rw[aB (nT b _ e),e];simp⟩) (fun m hm=>?_) (fun b u e=>?_) I.bare
 · obtain⟨f0,f1,f2,f3,f4,f5⟩:=hf b hb
   exact⟨f3,f1,f4,f5⟩
 · rw[aB (Nat.ne_of_lt (Nat.lt_of_lt_of_le (Heap.lt_size e) hT))];exact n
 · obtain⟨o,es,ep,ho,r⟩:=hm
   exact⟨o,es,ep,k _ o (fun z=>(hf _ z).2.1 rfl) ho,r⟩
 · by_cases hb:b=T
   · subst hb;rw[aT]at e;cases e;exact new
   · rw[aB hb]at e
     refine(I.aH b u e).ky (fun c v hc q=>k c v ?_ q) (fun c q=>by rw[aB (nT c _ q)];exact q) fun c ys q=>by rw[aB (nT c _ q)];exact q
     rcases hc with z|z
     · rw[z];exact nfp b u e
     · exact nfp c _ z
theorem Fs{X:Cx}{pins:List (Addr×Obj)}{σ:L2.St}{H:Hp}{s:Shared}{g:Heap}{tk:Nat}{fp:List Addr}(I:Inv X pins σ H s)(hf:∀b∈fp,iU X pins H b)
 (k:∀b o,b∉fp→s.heap.get? b=some o→g.get? b=some o):Inv X pins σ H {s with heap:=g,toks:=tk}:=by
 have nfp:∀b u,H b=some u→b∉fp:=fun b u e z=>by rw[(hf b z).1]at e;cases e
 refine I.step (g':=s.gens) (d':=s.drawn) (ch:=fp) (fun b hb=>?_) (fun b o _ _ hc e _=>k b o hc e) (fun b o _ _ hc e _=>⟨o.slots,k b o hc e⟩) (fun b o _ e n=>n) (fun b o hc e=>⟨o,k b o hc e⟩)
  (fun b ys e=>e) (fun b o u e=>e) (fun b ps e=>⟨#[],by rw[e];simp⟩) (fun m hm=>?_) (fun b u e=>?_) I.bare
 · obtain⟨f0,f1,f2,f3,f4,f5⟩:=hf b hb
   exact⟨f3,f1,f4,f5⟩
 · obtain⟨o,es,ep,ho,r⟩:=hm
   exact⟨o,es,ep,k _ o (fun z=>(hf _ z).2.1 rfl) ho,r⟩
 · refine(I.aH b u e).ky (fun c v hc q=>k c v ?_ q) (fun c q=>q) fun c ys q=>q
   rcases hc with z|z
   · rw[z];exact nfp b u e
   · exact nfp c _ z
inductive SK where
 |l|t
def nE(k:SK)(K:PySem.W.Frag)(H:Hp)(a:Addr)(xs:List V):Prop:=match k with
 | .l=>ji K H a xs
 | .t=>gs K H a xs
def pD(k:SK)(t a:Addr)(n:Nat)(g:Heap):Prop:=match k with
 | .l=>g.IsListIter t a n
 | .t=>g.IsTupleIter t a n
def jW(k:SK)(g:Heap)(a:Addr)(us:Array Value):Prop:=match k with
 | .l=>g.IsList a us
 | .t=>g.IsTuple a us
def uf(k:SK)(a:Addr):Obj:=match k with
 | .l=>{cls:= .type "list_iterator",data:= .fields #[.ref a,.int 0 0]}
 | .t=>{cls:= .type "tuple_iterator",data:= .fields #[.ref a,.int 0 0]}
theorem rJ{P:Program}{w:World}(k:SK)(t a:Addr)(hne:a≠t)(us:Array Value):Src P w t a (fun n g=>pD k t a n g∧jW k g a us) us:=by
 cases k
 · exact src_list t a hne us
 · exact Bi t a hne us
theorem kP{X:Cx}{pins:List (Addr×Obj)}{σ:L2.St}{H:Hp}{s:Shared}{k:SK}{a:Addr}{xs:List V}(I:Inv X pins σ H s)(h:nE k X.K H a xs):∃its:List Value,Vals xs its∧jW k s.heap a its.toArray:=by
 cases k
 · obtain⟨its,rv,p,_⟩:=I.list h
   exact⟨its,rv,p.isList⟩
 · obtain⟨its,rv,p,_⟩:=I.tuple h
   exact⟨its,rv,p⟩
theorem vh{X:Cx}{pins:List (Addr×Obj)}{σ:L2.St}{H:Hp}{s:Shared}{k:SK}{a:Addr}{xs ys:List V}(I:Inv X pins σ H s)(h:nE k X.K H a xs)(h':nE k X.K H a ys):xs=ys:=by
 cases k
 · exact I.rO h h'
 · exact I.qy h h'
theorem xX{P:Program}{w:World}{A:Around}{s:Shared}{E:Value→Shared→Prop}{k:SK}{a:Addr}{us:Array Value}{Q:Value→Shared→Prop}(h:jW k s.heap a us)(q:Q (.ref s.heap.objs.size) {s with heap:=s.heap.push (uf k a)}):wpAny (model P w) A (pyIter (.ref a)) Q E s:=by
 cases k
 · exact wpAny_pyIter_list h q
 · exact wpAny_pyIter_tuple h q
theorem jW.push{k:SK}{g:Heap}{a:Addr}{us:Array Value}(h:jW k g a us)(o:Obj):jW k (g.push o) a us:=by
 cases k
 · obtain⟨o',e,r⟩:=h;exact⟨o',Heap.get?_push_of_some _ e,r⟩
 · obtain⟨o',e,r⟩:=h;exact⟨o',Heap.get?_push_of_some _ e,r⟩
theorem jW.some{k:SK}{g:Heap}{a:Addr}{us:Array Value}(h:jW k g a us):∃o,g.get? a=Option.some o:=by
 cases k
 · obtain⟨o',e,r⟩:=h;exact⟨o',e⟩
 · obtain⟨o',e,r⟩:=h;exact⟨o',e⟩
theorem u5{k:SK}{g h:Heap}{t a:Addr}(e:g.get? t=Option.some (uf k a)):pD k t a 0 g:=by
 cases k
 · exact⟨_,e,rfl,rfl⟩
 · exact⟨_,e,rfl,rfl⟩
theorem pq{k:SK}{t a:Addr}{n:Nat}{g g':Heap}(h:pD k t a n g)(kp:∀o,g.get? t=Option.some o→g'.get? t=Option.some o):pD k t a n g':=by
 cases k
 · obtain⟨o,e,r⟩:=h;exact⟨o,kp o e,r⟩
 · obtain⟨o,e,r⟩:=h;exact⟨o,kp o e,r⟩
theorem m9{k:SK}{t a:Addr}{n:Nat}{g:Heap}(h:pD k t a n g):∃o,g.get? t=Option.some o∧∀v,o.data≠ .cell v:=by
 cases k
 · obtain⟨o,e,c,d⟩:=h;exact⟨o,e,fun v z=>by rw[d]at z;cases z⟩
 · obtain⟨o,e,c,d⟩:=h;exact⟨o,e,fun v z=>by rw[d]at z;cases z⟩
def Gb(K:PySem.W.Frag)(k1 k2:SK)(a1 a2:Addr):It:=
 ⟨fun i H=>∃xs ys x y,nE k1 K H a1 xs∧nE k2 K H a2 ys∧xs[i]?=some x∧ys[i]?=some y,
  fun i H v H'=>∃T x y,H T=none∧v= .ref T∧H'=upd H T (.tup [x,y])∧(∀xs,nE k1 K H a1 xs→xs[i]?=some x)∧∀ys,nE k2 K H a2 ys→ys[i]?=some y,
  fun i H=>∃xs ys,nE k1 K H a1 xs∧nE k2 K H a2 ys∧(xs.length≤i∨ys.length≤i)⟩
def EC(z ti to t1 t2 a1 a2:Addr)(k1 k2:SK)(i:Nat)(h:Heap):Prop:=IsZip h z ti to .none∧IsPair h ti (.ref t1) (.ref t2)∧(∃a b,IsPair h to a b)∧pD k1 t1 a1 i h∧pD k2 t2 a2 i h
theorem y_{P:Program}{w:World}{K:PySem.W.Frag}{elts:List Expr}{kx:Nat}{pos:Pos}{z ti to t1 t2 a1 a2:Addr}(k1 k2:SK)(D:vb z ti to t1 t2 a1 a2):
 Turn P w K (.Tuple elts kx pos) (Gb K k1 k2 a1 a2) [z,ti,to,t1,t2] z (EC z ti to t1 t2 a1 a2 k1 k2) where
 mem:=by simp
 obj:=fun i h st b hb=>by
  obtain⟨Z,pI,⟨a,b',pO⟩,i1,i2⟩:=st
  simp only[List.mem_cons,List.not_mem_nil,or_false]at hb
  rcases hb with rfl|rfl|rfl|rfl|rfl
  · exact⟨_,Z,fun v e=>by cases e⟩
  · exact⟨_,pI,fun v e=>by cases e⟩
  · exact⟨_,pO,fun v e=>by cases e⟩
  · exact m9 i1
  · exact m9 i2
 keep:=fun i h h' st k=>by
  obtain⟨Z,pI,⟨a,b',pO⟩,i1,i2⟩:=st
  exact⟨k z (by simp) _ Z,k ti (by simp) _ pI,⟨a,b',k to (by simp) _ pO⟩,pq i1 (k t1 (by simp)),pq i2 (k t2 (by simp))⟩
 item:=by
  intro X hP hw hK hc i pins s σ H E I hf st hg
  subst hP hw hK
  obtain⟨Z,pI,⟨a,b',pO⟩,i1,i2⟩:=st
  obtain⟨xs,ys,x,y,q1,q2,ex,ey⟩:=hg
  obtain⟨us,r1,l1⟩:=kP I q1
  obtain⟨vs,r2,l2⟩:=kP I q2
  obtain⟨u,eu,ru⟩:=r1.get ex
  obtain⟨v,ev,rv⟩:=r2.get ey
  have m1:=D.a1
  have m2:=D.a2
  simp only[List.mem_cons,not_or,List.not_mem_nil,not_false_eq_true,and_true]at m1 m2
  obtain⟨⟨n1,n2,n3,n4⟩,⟨n5,n6,n7⟩,⟨n8,n9⟩,n10⟩:=D.n
  have tz:s.TypeIs (.ref z) "zip":=⟨_,Z,rfl⟩
  unfold pyNext
  refine wpAny_bind (wpAny_attempt (wpAny_callSpecial?_slot (name:=Str.ofString "__next__") tz F.slot_zip_next (wpAny_call_entry F.slot_zip_next tz F.entry_zip_next (xT D (rJ k1 t1 a1 m1.2.2.2.1 us.toArray) (rJ k2 t2 a2 m2.2.2.2.2 vs.toArray) Z pI pO ⟨i1,l1⟩ ⟨i2,l2⟩ (x:=u) (y:=v) (by simpa using eu) (by simpa using ev) fun k Z2 pO2 j1 j2 pT szk kp=>wpAny_pure ⟨_,rfl,?_⟩) (F.args_zip_next_1 _))))
  refine wpAny_letOwnedTupleGo_zip (s:={s with heap:=k}) Z2 fun k' Z3 b3=>?_
  have hT:s.heap.objs.size≠z:=Nat.ne_of_gt (Heap.lt_size Z)
  have kp3:∀b o,b∉[z,ti,to,t1,t2]→s.heap.get? b=some o→k'.get? b=some o:=fun b o hb e=>by
   simp only[List.mem_cons,not_or,List.not_mem_nil,not_false_eq_true,and_true]at hb
   exact b3.extBut _ _ hb.1 (kp b o hb.1 hb.2.2.1 hb.2.2.2.1 hb.2.2.2.2 e)
  refine⟨.ref s.heap.objs.size,upd H s.heap.objs.size (.tup [x,y]),EI (s:=s) (tk:=s.toks) I hf kp3 (Nat.le_refl _) ?_,rfl,⟨s.heap.objs.size,x,y,I.aH.fresh (Nat.le_refl _),rfl,rfl,?_,?_⟩,?_,?_⟩
  · refine⟨Nat.le_of_ble_eq_true rfl,[u,v],.cons ru (.cons rv .nil),?_⟩
    exact⟨_,b3.extBut _ _ hT pT,rfl,_,rfl⟩
  · intro xs' q'
    rw[vh I q' q1];exact ex
  · intro ys' q'
    rw[vh I q' q2];exact ey
  · refine⟨Z3,b3.extBut _ _ n1 (kp _ _ n1 n5 n6 n7 pI),⟨_,_,b3.extBut _ _ n2 pO2⟩,pq j1.1 fun o e=>b3.extBut _ _ n3 e,pq j2.1 fun o e=>b3.extBut _ _ n4 e⟩
  · intro b hb
    have:b≠s.heap.objs.size:=by
     obtain⟨o,e,_⟩:∃o,s.heap.get? b=some o∧True:=by
      simp only[List.mem_cons,List.not_mem_nil,or_false]at hb
      rcases hb with rfl|rfl|rfl|rfl|rfl
      · exact⟨_,Z,trivial⟩
      · exact⟨_,pI,trivial⟩
      · exact⟨_,pO,trivial⟩
      · obtain⟨o,e,_⟩:=m9 i1;exact⟨o,e,trivial⟩
      · obtain⟨o,e,_⟩:=m9 i2;exact⟨o,e,trivial⟩
     exact Nat.ne_of_lt (Heap.lt_size e)
    rw[aB this]
    exact(hf b hb).1
 done:=by
  intro X hP hw hK hc i pins s σ H E I hf st hg
  subst hP hw hK
  obtain⟨Z,pI,⟨a,b',pO⟩,i1,i2⟩:=st
  obtain⟨xs,ys,q1,q2,he⟩:=hg
  obtain⟨us,r1,l1⟩:=kP I q1
  obtain⟨vs,r2,l2⟩:=kP I q2
  have e1:=r1.length
  have e2:=r2.length
  have m1:=D.a1
  have m2:=D.a2
  simp only[List.mem_cons,not_or,List.not_mem_nil,not_false_eq_true,and_true]at m1 m2
  have tz:s.TypeIs (.ref z) "zip":=⟨_,Z,rfl⟩
  unfold pyNext
  refine wpAny_bind (wpAny_attempt (wpAny_callSpecial?_slot (name:=Str.ofString "__next__") tz F.slot_zip_next (wpAny_call_entry F.slot_zip_next tz F.entry_zip_next (yG (I.ok.hd hc) D (rJ k1 t1 a1 m1.2.2.2.1 us.toArray) (rJ k2 t2 a2 m2.2.2.2.2 vs.toArray) Z pI pO ⟨i1,l1⟩ ⟨i2,l2⟩ ?_ fun k e kp hx=>?_) (F.args_zip_next_1 _))))
  · rcases he with h|h
    · left;simp;omega
    · right;simp;omega
  · obtain⟨o,ho,hc2⟩:=hx
    refine wpAny_bind (wpAny_isInstance (T:="StopIteration") (b:=true) ⟨o,ho,hc2⟩ isSubtype_stop ?_)
    refine wpAny_pure ⟨rfl,Fs (s:=s) (tk:=s.toks) I hf fun b o hb e=>?_⟩
    simp only[List.mem_cons,not_or,List.not_mem_nil,not_false_eq_true,and_true]at hb
    exact kp b o hb.1 hb.2.2.1 hb.2.2.2.1 hb.2.2.2.2 e
 self:=fun _ _ _ _ _ st h=>wpAny_pyIter_zip st.1 h
end L3
namespace L3
open PySem L2
open PySem.Spec hiding items?
open PyProof.Rows hiding St
abbrev zN(h:Heap)(k1:SK)(a1:Addr):Heap:=h.push (uf k1 a1)
abbrev Af(h:Heap)(k1 k2:SK)(a1 a2:Addr):Heap:=(zN h k1 a1).push (uf k2 a2)
abbrev Am(h:Heap)(k1 k2:SK)(a1 a2:Addr):Heap:=(Af h k1 k2 a1 a2).push {cls:= .type "tuple",data:= .seq #[.ref h.objs.size,.ref (zN h k1 a1).objs.size]}
abbrev zI(h:Heap)(k1 k2:SK)(a1 a2:Addr):Heap:=(Am h k1 k2 a1 a2).push {cls:= .type "tuple",data:= .seq #[.none,.none]}
abbrev va(h:Heap)(k1 k2:SK)(a1 a2:Addr):Heap:=(zI h k1 k2 a1 a2).push {cls:= .type "zip",data:= .fields #[.none,.bool false,.bool false,.ref (Af h k1 k2 a1 a2).objs.size,.ref (Am h k1 k2 a1 a2).objs.size]}
theorem xD(k1 k2:SK)(a1 a2:Addr)(us vs:Array Value):Meets (Builtin.«zip.__new__» ⟨[.type "zip",.ref a1,.ref a2],[]⟩) (fun _ R s=>jW k1 s.heap a1 us∧jW k2 s.heap a2 vs∧
 R (.ok (.ret (.ref (zI s.heap k1 k2 a1 a2).objs.size))) {s with heap:=va s.heap k1 k2 a1 a2}):=
 .of_wp fun P w A R s h=>by
  obtain⟨hp,g,d,tk,os⟩:=s
  obtain⟨c1,c2,h⟩:=h
  have hsub:=sub_zip
  have L1:jW k1 (Shared.heap ⟨hp,g,d,tk,os⟩) a1 us:=c1
  have L2:jW k2 (Shared.heap ⟨hp.push (uf k1 a1),g,d,tk,os⟩) a2 vs:=jW.push c2 _
  wp_walk using xX L1,xX L2
  exact⟨_,rfl,h⟩
theorem yy{P:Program}{w:World}{A:Around}{s:Shared}{E:Value→Shared→Prop}{k1 k2:SK}{a1 a2:Addr}{us vs:Array Value}{Q:Value→Shared→Prop}(c1:jW k1 s.heap a1 us)(c2:jW k2 s.heap a2 vs)
 (q:∀g n,n=s.heap.objs.size→IsZip g (n+4) (n+2) (n+3) .none→IsPair g (n+2) (.ref n) (.ref (n+1))→IsPair g (n+3) .none .none→pD k1 n a1 0 g→pD k2 (n+1) a2 0 g→(∀c o,s.heap.get? c=some o→g.get? c=some o)→Q (.ref (n+4)) {s with heap:=g}):
 wpAny (model P w) A (call (.type "zip") [.ref a1,.ref a2]) Q E s:=by
 refine callType_new F.called_zip (by decide) (F.typeCall_zip_2 _ _) (F.newCall_zip_2 _ _) (fun ob=>F.args_object_init_3 ob _ _) F.entry_zip_new (xD k1 k2 a1 a2 us vs) ⟨c1,c2,?_⟩
 have y1:(zN s.heap k1 a1).objs.size=s.heap.objs.size+1:=Heap.size_push ..
 have y2:(Af s.heap k1 k2 a1 a2).objs.size=s.heap.objs.size+2:=by rw[Heap.size_push,y1]
 have y3:(Am s.heap k1 k2 a1 a2).objs.size=s.heap.objs.size+3:=by rw[Heap.size_push,y2]
 have y4:(zI s.heap k1 k2 a1 a2).objs.size=s.heap.objs.size+4:=by rw[Heap.size_push,y3]
 have e5:(va s.heap k1 k2 a1 a2).get? (zI s.heap k1 k2 a1 a2).objs.size=some _:=Heap.get?_push_size _ rfl
 have e4:(va s.heap k1 k2 a1 a2).get? (Am s.heap k1 k2 a1 a2).objs.size=some _:=Heap.get?_push_of_some _ (Heap.get?_push_size _ rfl)
 have e3:(va s.heap k1 k2 a1 a2).get? (Af s.heap k1 k2 a1 a2).objs.size=some _:=Heap.get?_push_of_some _ (Heap.get?_push_of_some _ (Heap.get?_push_size _ rfl))
 have e2:(va s.heap k1 k2 a1 a2).get? (zN s.heap k1 a1).objs.size=some (uf k2 a2):=Heap.get?_push_of_some _ (Heap.get?_push_of_some _ (Heap.get?_push_of_some _ (Heap.get?_push_size _ (by cases k2<;>rfl))))
 have e1:(va s.heap k1 k2 a1 a2).get? s.heap.objs.size=some (uf k1 a1):=Heap.get?_push_of_some _ (Heap.get?_push_of_some _ (Heap.get?_push_of_some _ (Heap.get?_push_of_some _ (Heap.get?_push_size _ (by cases k1<;>rfl)))))
 show _∧_
 rw[y2,y3,y4]at e5
 rw[y1,y2]at e3
 rw[y3]at e4
 rw[y1]at e2
 rw[y4]
 exact⟨⟨_,e5,rfl⟩,q _ _ rfl e5 e3 e4 (u5 (h:=s.heap) e1) (u5 (h:=s.heap) e2) fun c o x=>Heap.get?_push_of_some _ (Heap.get?_push_of_some _ (Heap.get?_push_of_some _ (Heap.get?_push_of_some _ (Heap.get?_push_of_some _ x))))⟩
def CW:D→SK
 | .tup _=> .t
 |_=> .l
def zW(k:SK)(G:Hp)(a:Addr)(vs:List V):Prop:=match k with
 | .l=>Rd G a (.lst vs)
 | .t=>G a=some (.tup vs)
theorem ku{K:PySem.W.Frag}{k:SK}{G F H:Hp}(P:bJ G F H){a:Addr}{vs:List V}(h:zW k G a vs):nE k K H a vs:=by
 cases k
 · exact .inl (fZ P h)
 · exact gs.of (P.get h)
theorem ng{α:List (Option Addr)}{H:Hp}{st:ae}{d:D}{v:V}{xs:List D}(S:aL α st H)(r:Rep α H d v)(e:items? st d=some xs):∃p vs,v= .ref p∧ay α H xs vs∧zW (CW d) H p vs:=by
 cases d<;>try(cases e;done)
 · unfold items? at e
   simp only at e
   split at e
   · rename_i ys q
     cases e
     obtain⟨a,ea,vs,h1,h2⟩:=S.f_ q
     exact⟨a,vs,dA ea r,h2,Rd.of h1⟩
   · cases e
 · cases e
   unfold Rep at r
   obtain⟨a,vs,rfl,_,h1,h2⟩:=r
   exact⟨a,vs,rfl,h2,h1⟩
 · cases e
   unfold Rep at r
   obtain⟨a,vs,rfl,_,h1,h2⟩:=r
   exact⟨a,vs,rfl,h2,h1⟩
def gu(xs ys:List D):List D:=(xs.zip ys).map fun p=> .tup [p.1,p.2]
theorem lp{xs ys:List D}:(gu xs ys).length=min xs.length ys.length:=by unfold gu;simp
theorem nN{xs ys:List D}{n:Nat}{d:D}(e:(gu xs ys)[n]?=some d):∃x y,xs[n]?=some x∧ys[n]?=some y∧d= .tup [x,y]:=by
 unfold gu at e
 rw[List.getElem?_map]at e
 cases q:(xs.zip ys)[n]? with
 |none=>rw[q]at e;cases e
 |some p=>
  rw[q]at e
  cases e
  rw[List.getElem?_zip_eq_some]at q
  exact⟨p.1,p.2,q.1,q.2,rfl⟩
theorem Cr{K:PySem.W.Frag}{k1 k2:SK}{a1 a2:Addr}{α:List (Option Addr)}{G:Hp}{ok:ae→Prop}{xs ys:List D}
 (h:∀α' G' st',Step α G α' G'→aL α' st' G'→ok st'→∃vs ws,zW k1 G' a1 vs∧zW k2 G' a2 ws∧ay α' G' xs vs∧ay α' G' ys ws):rZ (Gb K k1 k2 a1 a2) α G ok (gu xs ys) where
 stop:=fun n α' G' F' H' st' s P S o hn=>by
  obtain⟨vs,ws,h1,h2,r1,r2⟩:=h α' G' st' s S o
  rw[lp]at hn
  refine⟨vs,ws,ku P h1,ku P h2,?_⟩
  have:=r1.length
  have:=r2.length
  omega
 go:=fun n d α' G' F' H' st' s P S o hn=>by
  obtain⟨vs,ws,h1,h2,r1,r2⟩:=h α' G' st' s S o
  obtain⟨x,y,ex,ey,rfl⟩:=nN hn
  obtain⟨v,ev,_⟩:=r1.get ex
  obtain⟨u,eu,_⟩:=r2.get ey
  exact⟨vs,ws,v,u,ku P h1,ku P h2,ev,eu⟩
 lM:=fun n d α' G' F' H' st' x H'' s P S o hn y=>by
  obtain⟨vs,ws,h1,h2,r1,r2⟩:=h α' G' st' s S o
  obtain⟨c,e,ec,ee,rfl⟩:=nN hn
  obtain⟨T,v,u,hT,rfl,rfl,y1,y2⟩:=y
  obtain⟨v',ev,rv⟩:=r1.get ec
  obtain⟨u',eu,ru⟩:=r2.get ee
  rw[y1 vs (ku P h1)]at ev
  rw[y2 ws (ku P h2)]at eu
  cases ev
  cases eu
  have hg:=(P.none hT).1
  refine⟨upd G' T (.tup [v,u]),Step.laid hg,P.laid hT,S.laid hg,?_⟩
  unfold Rep
  refine⟨T,[v,u],rfl,S.i_ hg,aT,?_⟩
  unfold ay
  refine⟨v,[u],rfl,rv.step (Step.laid hg),?_⟩
  unfold ay
  exact⟨u,[],rfl,ru.step (Step.laid hg),by unfold ay;rfl⟩
def yR(ds:List D)(st1:ae)(K:List D→(ae→Prop)→ae→Prop):Prop:=match ds with
 | [x,y]=>(match items? st1 x,items? st1 y with
   |some xs,some ys=>K (gu xs ys) (fun st'=>items? st' x=some xs∧items? st' y=some ys) st1
   |_,_=>False)
 |_=>False
@[irreducible] def o3:List D→ae→(List D→(ae→Prop)→ae→Prop)→Prop:=yR
def p8(t:DA):DI:=fun σ st K=>t σ st fun ds st1=>o3 ds st1 K
theorem AB{n a1 a2:Nat}(h1:a1<n)(h2:a2<n):vb (n+4) (n+2) (n+3) n (n+1) a1 a2:=by
 have e0:([n+4,n+2,n+3,n,n+1]:List Nat).Nodup:=by
  simp only[List.nodup_cons,List.mem_cons,not_or,List.not_mem_nil,not_false_eq_true,and_true,List.nodup_nil]
  omega
 have e1:∀a:Nat,a<n→a∉([n+4,n+2,n+3,n,n+1]:List Nat):=fun a ha=>by
  simp only[List.mem_cons,not_or,List.not_mem_nil,not_false_eq_true,and_true]
  omega
 exact⟨e0,e1 a1 h1,e1 a2 h2⟩
theorem Cn{X:Cx}{a b:Expr}{elts:List Expr}{kx:Nat}{tpos p pos:Pos}{t:DA}(hg:Gl X "zip")(hm:X.mg "zip"=none)(ha:PA X [a,b] (LA t))(hs:starEach [a,b] X.env=[(false,eval a X.env),(false,eval b X.env)])(hs2:starEach [b] X.env=[(false,eval b X.env)]):
 PI X (.Tuple elts kx tpos) (.Call (.Name "zip" p) [a,b] [] pos) (LI (p8 t)):=by
 intro pins s σ H R I h
 obtain⟨α,σd,st,K,G,F,P,RS,S,t,k⟩:=h
 refine Call_ (jR I hg hm boot_zip (PyProof.Rows.callWith_type1 (bF (ha pos pins s σ H (fun vs H1=>∃ds α1 G1 st1,Step α G α1 G1∧bJ G1 F H1∧aL α1 st1 G1∧ay α1 G1 ds vs∧o3 ds st1 K) I ⟨α,σd,st,_,G,F,P,RS,S,t,fun ds st1 q α1 G1 H1 vs s1 P1 S1 r1=>⟨ds,α1,G1,st1,s1,P1,S1,r1,q⟩⟩) fun us s1 ⟨vs,H1,I1,rv,ds,α1,G1,st1,w1,P1,S1,r1,q⟩=>?_) (by rw[hs,hs2]) (by rw[hs2];rfl)))
 unfold o3 yR at q
 split at q
 · rename_i x y
   split at q
   · rename_i xs ys ex ey
     obtain⟨v1,v2,rfl,q1,q2⟩:=la r1 rfl
     obtain⟨p1,vs1,rfl,g1,c1⟩:=ng S1 q1 ex
     obtain⟨p2,vs2,rfl,g2,c2⟩:=ng S1 q2 ey
     obtain⟨u1,u2,rfl,ru1,ru2⟩:=vals2 rv
     cases ru1
     cases ru2
     obtain⟨its1,_,l1⟩:=kP I1 (ku P1 c1)
     obtain⟨its2,_,l2⟩:=kP I1 (ku P1 c2)
     refine yy l1 l2 fun g n hn Z pI pO i1 i2 kp=>?_
     obtain⟨o1,eo1⟩:=l1.some
     obtain⟨o2,eo2⟩:=l2.some
     refine wpAny_pyIter_zip (s:={s1 with heap:=g}) Z ?_
     refine⟨n+4,[n+4,n+2,n+3,n,n+1],_,_,H1,rfl,I1.kept (t':=s1.toks) kp,y_ (CW x) (CW y) (AB (by rw[hn];exact Heap.lt_size eo1) (by rw[hn];exact Heap.lt_size eo2)),⟨Z,pI,⟨_,_,pO⟩,i1,i2⟩,fun b hb=>?_,?_⟩
     · have hb':s1.heap.objs.size≤b:=by
        simp only[List.mem_cons,List.not_mem_nil,or_false]at hb
        rcases hb with rfl|rfl|rfl|rfl|rfl<;>(rw[←hn];first|exact Nat.le_refl _|exact Nat.le_add_right _ _)
       exact I1.se hb' (I1.aH.fresh hb')
     · refine k _ _ st1 q _ α1 G1 H1 w1 P1 S1 (Cr fun α' G' st' s' S' o=>?_)
       obtain⟨p1',ws1,e1,f1,d1⟩:=ng S' (q1.step s') o.1
       obtain⟨p2',ws2,e2,f2,d2⟩:=ng S' (q2.step s') o.2
       cases e1
       cases e2
       exact⟨ws1,ws2,d1,d2,f1,f2⟩
   · exact q.elim
 · exact q.elim
theorem ox{st:ae}{x y:D}{xs ys:List D}{K:List D→(ae→Prop)→ae→Prop}(ex:items? st x=some xs)(ey:items? st y=some ys)(k:∀ok:ae→Prop,(∀st',items? st' x=some xs→items? st' y=some ys→ok st')→K (gu xs ys) ok st):o3 [x,y] st K:=by
 unfold o3 yR
 simp only[ex,ey]
 exact k _ fun st' h1 h2=>⟨h1,h2⟩
theorem rL{X:Cx}{a b:Expr}{elts:List Expr}{kx:Nat}{tpos p pos:Pos}{ar:DA}(hg:Gl X "zip")(hm:X.mg "zip"=none)(ha:JA X [a,b] ar)(hs:notStar a=true:=by rfl)(hs2:notStar b=true:=by rfl):JI X (.Tuple elts kx tpos) (.Call (.Name "zip" p) [a,b] [] pos) (p8 ar):=by
 unfold JI;unfold JA at ha;exact Cn hg hm ha (by rw[cC hs,cC hs2];rfl) (cC hs2)
end L3
namespace L3
open PySem L2
open PySem.Spec hiding items?
open PyProof.Rows hiding St
section
variable {X:Cx}
end
end L3
namespace L3
open PySem L2
open PySem.Spec hiding items?
open PyProof.Rows hiding St
section
variable {X:Cx}{pos:Pos}
theorem EN{α:List (Option Addr)}{H:Hp}{ds:List D}{xs:List V}{d e f:D}(r:ay α H ds xs)(q:ds=[d,e,f]):∃v u t,xs=[v,u,t]∧Rep α H d v∧Rep α H e u∧Rep α H f t:=by
 subst q
 unfold ay at r
 obtain⟨v,q,rfl,h1,h2⟩:=r
 obtain⟨u,t,rfl,h3,h4⟩:=la h2 rfl
 exact⟨v,u,t,rfl,h1,h3,h4⟩
def mN(i j k:Nat):eS:=fun d σ=>match d with| .tup [x,y,z]=>some (((σ.set i (some x)).set j (some y)).set k (some z))|_=>none
theorem yw{tg:Expr}{i j k:Nat}(h:PG X tg (yN X.K 3 (mK (g9 i) (mK (g9 j) (mK (g9 k) zi))))):PG X tg (LG (mN i j k)):=PG.imp h fun v σ H Q ⟨α,σd,st,d,K,G,F,P,R,S,r,⟨σ',e,q⟩,kk⟩=>by
 unfold mN at e
 split at e
 · rename_i x y z
   cases e
   unfold Rep at r
   obtain⟨a,vs,rfl,na,h1,h2⟩:=r
   obtain⟨v1,v2,v3,rfl,r1,r2,r3⟩:=EN h2 rfl
   exact⟨a,_,rfl,.of (P.get h1),rfl,v1,_,rfl,v2,_,rfl,v3,_,rfl,rfl,kk.here P q (((R.set i r1).set j r2).set k r3) S⟩
 · cases e
theorem Fw{i j k n:Nat}{x y z:Str}{px py pz:Pos}(hc:X.calm=true)(hN:X.N.Nodup)(hx:Loc X.env.scope x)(hf:X.fn x=true∨X.env.scope.names.lookup x=some .local)(hy:Loc X.env.scope y)(hg:X.fn y=true∨X.env.scope.names.lookup y=some .local)(hz:Loc X.env.scope z)(hh:X.fn z=true∨X.env.scope.names.lookup z=some .local)
 (hi:X.N[i]?=some x:=by rfl) (hj:X.N[j]?=some y:=by rfl) (hk:X.N[k]?=some z:=by rfl):JG X (.Tuple [.Name x px,.Name y py,.Name z pz] n pos) (mN i j k):=by
 unfold JG;exact yw (yf hc (jU (jO hN hi hx hf) (jU (jO hN hj hy hg) (jU (jO hN hk hz hh) u6))))
end
end L3
namespace L3
open PySem L2 PySem.SeqAt
open PySem.Spec hiding items?
open PyProof.Rows hiding St
section
variable {X:Cx}{pins:List (Addr×Obj)}{σ:L2.St}{H:Hp}{s:Shared}{α:List (Option Addr)}
theorem u0{A:Around}{d e:D}{x y:V}{u v:Value}(hd:qA d=true)(he:qA e=true)(rd:Rep α H d x)(re:Rep α H e y)(rx:RelV x u)(ry:RelV y v):RcNeAt A s u v (!bZ d e):=by
 cases d<;>cases e<;>try(first|(cases hd;done)|(cases he;done))
 all_goals(unfold Rep at rd re;subst rd re)
 all_goals(first|(obtain⟨t,rfl⟩:=rx;obtain⟨t',rfl⟩:=ry)|(obtain⟨t,rfl⟩:=rx;cases ry)|(cases rx;obtain⟨t,rfl⟩:=ry)|(cases rx;cases ry))
 all_goals unfold bZ
 · exact RcNeAt.none_none
 · exact RcNeAt.none_bool _
 · exact RcNeAt.none_int _ _
 · exact RcNeAt.none_str _ _
 · exact RcNeAt.bool_none _
 · exact RcNeAt.bool_bool _ _
 · exact RcNeAt.bool_int _ _ _
 · exact RcNeAt.bool_str _ _ _
 · exact RcNeAt.int_none _ _
 · exact RcNeAt.int_bool _ _ _
 · exact RcNeAt.int_int _ _ _ _
 · exact RcNeAt.int_str _ _ _ _
 · exact RcNeAt.str_none _ _
 · exact RcNeAt.str_bool _ _ _
 · exact RcNeAt.str_int _ _ _ _
 · exact RcNeAt.str_str _ _ _ _
theorem qo(I:Inv X pins σ H s){A:Around}{xs:List D}{e:D}{x y:V}{u v:Value}(he:qA e=true)(rd:Rep α H (.lst xs) x)(re:Rep α H e y)(rx:RelV x u)(ry:RelV y v)(hu:A.units<cLine):
 RcNeAt A s u v (!bZ (.lst xs) e)∧RcNeAt A s v u (!bZ e (.lst xs)):=by
 obtain⟨a,vs,its,rfl,_,_,hl⟩:=lst_is I rd rx
 cases e<;>try(cases he;done)
 all_goals(unfold Rep at re;subst re)
 all_goals(first|(obtain⟨t,rfl⟩:=ry)|(cases ry))
 all_goals unfold bZ
 · exact⟨RcNeAt.list_none hl hu,RcNeAt.none_list hl hu⟩
 · exact⟨RcNeAt.list_bool _ hl hu,RcNeAt.bool_list _ hl hu⟩
 · exact⟨RcNeAt.list_int _ _ hl hu,RcNeAt.int_list _ _ hl hu⟩
 · exact⟨RcNeAt.list_str _ _ hl hu,RcNeAt.str_list _ _ hl hu⟩
theorem qH(I:Inv X pins σ H s){A:Around}{xs:List D}{e:D}{x y:V}{u v:Value}(he:qA e=true)(rd:Rep α H (.tup xs) x)(re:Rep α H e y)(rx:RelV x u)(ry:RelV y v)(hu:A.units<cLine):
 RcNeAt A s u v (!bZ (.tup xs) e)∧RcNeAt A s v u (!bZ e (.tup xs)):=by
 obtain⟨a,vs,its,rfl,_,_,hl⟩:=tup_is I rd rx
 cases e<;>try(cases he;done)
 all_goals(unfold Rep at re;subst re)
 all_goals(first|(obtain⟨t,rfl⟩:=ry)|(cases ry))
 all_goals unfold bZ
 · exact⟨RcNeAt.tuple_none hl hu,RcNeAt.none_tuple hl hu⟩
 · exact⟨RcNeAt.tuple_bool _ hl hu,RcNeAt.bool_tuple _ hl hu⟩
 · exact⟨RcNeAt.tuple_int _ _ hl hu,RcNeAt.int_tuple _ _ hl hu⟩
 · exact⟨RcNeAt.tuple_str _ _ hl hu,RcNeAt.str_tuple _ _ hl hu⟩
theorem Al(I:Inv X pins σ H s)(n:Nat)(A:Around)(d e:D)(x y:V)(u v:Value)(hd:pl n d=true)(he:pl n e=true)(rd:Rep α H d x)(re:Rep α H e y)(rx:RelV x u)(ry:RelV y v)(hu:A.units+n<cLine):RcNeAt A s u v (!bZ d e):=by
 cases n with
 |zero=>
  refine u0 ?_ ?_ rd re rx ry
  · cases d<;>first|rfl|(cases hd)
  · cases e<;>first|rfl|(cases he)
 |succ n=>
  have hu0:A.units<cLine:=by omega
  have hin:A.in1.units+n<cLine:=by rw[Around.in1_units];omega
  cases d<;>try(cases hd;done)
  case lst xs=>
   cases e<;>try(cases he;done)
   case lst ys=>
    obtain⟨a,vs,its,rfl,r1,v1,l1⟩:=lst_is I rd rx
    obtain⟨b,ws,jts,rfl,r2,v2,l2⟩:=lst_is I re ry
    have e1:=r1.length
    have e2:=v1.length
    have e3:=r2.length
    have e4:=v2.length
    unfold bZ
    by_cases hlen:xs.length=ys.length
    · rw[ka hlen]
      have hsz:its.toArray.size=jts.toArray.size:=by simp only[List.size_toArray];omega
      have hx:xs.length=its.toArray.size:=by simp only[List.size_toArray];omega
      rw[hx]
      refine RcNeAt.lists l1 l2 hsz hu0 fun j h1 h2=>?_
      obtain⟨p,_,q1,q2⟩:=ie r1 v1 j (by simpa using h1)
      obtain⟨p',_,q1',q2'⟩:=ie r2 v2 j (by simpa using h2)
      exact(wd I n A.in1 _ _ p p' _ _ (gp (by unfold pl at hd;exact hd) j) (gp (by unfold pl at he;exact he) j) q1 q1' (by simpa using q2) (by simpa using q2') hin).2
    · rw[iJ hlen]
      exact RcNeAt.lists_lengths l1 l2 (by simp only[List.size_toArray,bne_iff_ne,ne_eq];omega) hu0
   case tup ys=>
    obtain⟨a,vs,its,rfl,r1,v1,l1⟩:=lst_is I rd rx
    obtain⟨b,ws,jts,rfl,r2,v2,l2⟩:=tup_is I re ry
    unfold bZ
    exact RcNeAt.list_tuple l1 l2 hu0
   all_goals exact(qo I rfl rd re rx ry hu0).1
  case tup xs=>
   cases e<;>try(cases he;done)
   case tup ys=>
    obtain⟨a,vs,its,rfl,r1,v1,l1⟩:=tup_is I rd rx
    obtain⟨b,ws,jts,rfl,r2,v2,l2⟩:=tup_is I re ry
    have e1:=r1.length
    have e2:=v1.length
    have e3:=r2.length
    have e4:=v2.length
    unfold bZ
    have key:=RcNeAt.tuples (e:=fun j=>bZ (xs.getD j .aA) (ys.getD j .aA)) l1 l2 hu0 fun j h1 h2=>by
     obtain⟨p,_,q1,q2⟩:=ie r1 v1 j (by simpa using h1)
     obtain⟨p',_,q1',q2'⟩:=ie r2 v2 j (by simpa using h2)
     exact(wd I n A.in1 _ _ p p' _ _ (gp (by unfold pl at hd;exact hd) j) (gp (by unfold pl at he;exact he) j) q1 q1' (by simpa using q2) (by simpa using q2') hin).2
    by_cases hlen:xs.length=ys.length
    · rw[ka hlen]
      have hsz:its.toArray.size=jts.toArray.size:=by simp only[List.size_toArray];omega
      have hx:xs.length=its.toArray.size:=by simp only[List.size_toArray];omega
      rw[hsz,Nat.min_self,beq_self_eq_true,Bool.and_true,←hsz,←hx]at key
      exact key
    · rw[iJ hlen]
      have hne:(its.toArray.size==jts.toArray.size)=false:=by simp only[List.size_toArray,beq_eq_false_iff_ne,ne_eq];omega
      rw[hne,Bool.and_false]at key
      exact key
   case lst ys=>
    obtain⟨a,vs,its,rfl,r1,v1,l1⟩:=tup_is I rd rx
    obtain⟨b,ws,jts,rfl,r2,v2,l2⟩:=lst_is I re ry
    unfold bZ
    exact RcNeAt.tuple_list l1 l2 hu0
   all_goals exact(qH I rfl rd re rx ry hu0).1
  all_goals
   cases e<;>try(cases he;done)
   case lst ys=>exact(qo I rfl re rd ry rx hu0).2
   case tup ys=>exact(qH I rfl re rd ry rx hu0).2
   all_goals exact u0 rfl rfl rd re rx ry
def DG:cO:=fun x y st K=>pl 40 x=true∧pl 40 y=true∧K (.bl (!bZ x y)) st
theorem EH{k:Nat}(hr:cq k X.A):bG X (compareOp .NotEq) (LR DG):=fun pins s σ H x y v u Q I rx ry ⟨α,d,e,st,K,G,F',P,r1,r2,S,q,k⟩=>by
 have hu:=hr.units
 exact Al I 40 X.A d e x y v u q.1 q.2.1 (r1.mono P.same) (r2.mono P.same) rx ry (by omega) _ _ _ _ ⟨.bl (!bZ d e),H,I,rfl,k.here P q.2.2 S (by unfold Rep;rfl)⟩
@[irreducible] def og:cO:=DG
theorem zQ{k:Nat}(hr:cq k X.A):bG X (compareOp .NotEq) (LR og):=by unfold og;exact EH hr
end
theorem CM{st:ae}{K:DK}{d e:D}(h1:pl 40 d=true)(h2:pl 40 e=true)(k:K (.bl (!bZ d e)) st):og d e st K:=by unfold og;exact⟨h1,h2,k⟩
theorem su{st:ae}{K:DK}{d:D}(h:pl 40 d=true)(k:K (.bl false) st):og d d st K:=CM h h (by rw[gB 40 d h];exact k)
theorem xp{st:ae}{n:Nat}{xs:List D}(h:items? st (.ref n)=some xs):st[n]?=some (.lst xs):=by
 unfold items? at h
 simp only at h
 split at h
 · rename_i q;cases h;exact q
 · cases h
theorem lh{env:Env}:∀(l:List (Str×NameKind)) (x:Str),(l.lookup x=some .cell∨l.lookup x=some .free)→
 ((l.map fun(n,k)=>if(k== .free&&env.scope.kind== .function&&env.kindOf n==some .cell)then(n,.cell)else(n,k)).lookup x=some .cell∨(l.map fun(n,k)=>if(k== .free&&env.scope.kind== .function&&env.kindOf n==some .cell)then(n,.cell)else(n,k)).lookup x=some .free)
 | [],x,h=>by simp at h
 |(n,k)::l,x,h=>by
  rw[List.map_cons]
  dsimp only
  by_cases hx:x=n
  · subst hx
    rw[List.lookup_cons_self]at h
    split
    · rw[List.lookup_cons_self];exact .inl rfl
    · rw[List.lookup_cons_self];exact h
  · have hb:(x==n)=false:=by simpa using hx
    have e1:List.lookup x ((n,k)::l)=List.lookup x l:=by rw[List.lookup_cons,hb]
    rw[e1]at h
    have ih:=lh (env:=env) l x h
    split
    · rw[List.lookup_cons,hb];exact ih
    · rw[List.lookup_cons,hb];exact ih
theorem bj.ER{X0:Cx}{scope0 scope:Scope}{Nc0 Nc:List Str}{C:Addr}{s:Shared}{H:Hp}{ex:List Addr}{fr:List (Option Nat)}(h:oR scope0 Nc0 scope Nc fr=true):bj (eN X0 scope0 Nc0 C s H ex) scope Nc fr:=by
 unfold oR at h
 simp only[Bool.and_eq_true]at h
 obtain⟨⟨⟨⟨⟨h1,h2⟩,h3⟩,h4⟩,h5⟩,h6⟩:=h
 refine⟨by simpa using h1,fun x hx hk=>?_,fun x hx hk=>?_,fun x hx hk=>?_,by simpa using h5,fun i j x e1 e2=>?_⟩
 · have:=List.all_eq_true.mp h2 x hx
   rw[hk]at this
   simpa using this
 · have:=List.all_eq_true.mp h3 x hx
   rw[hk]at this
   simpa using this
 · have:=List.all_eq_true.mp h4 x hx
   rw[hk]at this
   have z:scope0.names.lookup x.1=some .cell∨scope0.names.lookup x.1=some .free:=by simpa using this
   exact lh _ _ z
 · have hi:i<fr.length:=(List.getElem?_eq_some_iff.mp e2).1
   have:=List.all_eq_true.mp h6 i (List.mem_range.mpr hi)
   rw[e1,e2]at this
   simp only[Bool.and_eq_true,Bool.or_eq_true,beq_iff_eq]at this
   exact⟨this.1.1,this.1.2,lh _ _ this.2⟩
end L3
namespace L3
open PySem L2
open PySem.Spec hiding items?
open PyProof.Rows hiding St
section
variable {X:Cx}
end
theorem wG{n:Nat}{d:D}(h:d∈cX 0 n):∃i:Nat,i<n∧d= .int (i:Int):=by
 unfold cX at h
 obtain⟨i,hi,rfl⟩:=List.mem_map.mp h
 rw[List.mem_range]at hi
 exact⟨i,hi,by rw[Int.zero_add]⟩
theorem xl{f:Nat→D}(n:Nat):(cX 0 n).map (fun d=>match d with| .int i=>f i.toNat|_=> .aA)=(List.range n).map f:=by
 unfold cX
 rw[List.map_map]
 refine List.map_congr_left fun i _=>?_
 show f ((0:Int)+(i:Int)).toNat=f i
 have:((0:Int)+(i:Int)).toNat=i:=by omega
 rw[this]
theorem iD{tg:eS}{te:DE}{σc:bH}{st:ae}{K:List D→ae→Prop}(f:Nat→D)(n:Nat)(hx:∀i:Nat,i<n→∀K',K' (f i) st→∃σ2,tg (.int (i:Int)) σc=some σ2∧te σ2 st K')(k:K ((List.range n).map f) st):cU tg ck te (fun _=>True) σc (cX 0 n) [] st K:=by
 refine comp_map (g:=fun d=>match d with| .int i=>f i.toNat|_=> .aA) trivial _ (fun d hd K' q=>?_) (by rw[xl];exact k)
 obtain⟨i,hi,rfl⟩:=wG hd
 exact hx i hi K' q
theorem h9{tg:eS}{body:DS}{E:jC}(n:Nat)(I:Nat→bH→ae→Prop)(hend:∀σ st,I n σ st→E.nx σ st)
 (hstep:∀(j:Nat) σ st (rest:List D),j<n→I j σ st→(∀σ' st',I (j+1) σ' st'→gh tg body (fun _=>True) E rest σ' st')→∃σ1,tg (.int (j:Int)) σ=some σ1∧body {E with nx:=gh tg body (fun _=>True) E rest,ct:=gh tg body (fun _=>True) E rest,bk:=E.nx} σ1 st)
 {σ:bH} {st:ae} (h0:I 0 σ st):gh tg body (fun _=>True) E (cX 0 n) σ st:=by
 refine kW (fun rest σ st=>∃j:Nat,j≤n∧rest=(List.range (n-j)).map (fun i=>D.int (((j+i:Nat):Int)))∧I j σ st) ?_ ?_ _ _ _ ⟨0,Nat.zero_le _,by unfold cX;simp,h0⟩
 · rintro σ st ⟨j,hj,hr,hI⟩
   have:n-j=0:=by
    cases q:n-j with
    |zero=>rfl
    |succ m=>rw[q,List.range_succ_eq_map]at hr;cases hr
   have hjn:j=n:=by omega
   subst hjn
   exact⟨trivial,hend σ st hI⟩
 · rintro d rest σ st ⟨j,hj,hr,hI⟩ next
   cases q:n-j with
   |zero=>rw[q]at hr;cases hr
   |succ m=>
    rw[q,List.range_succ_eq_map,List.map_cons,List.map_map]at hr
    simp only[List.cons.injEq]at hr
    obtain⟨rfl,hrest⟩:=hr
    refine⟨trivial,hstep j σ st rest (by omega) hI fun σ' st' h'=>next σ' st' ⟨j+1,by omega,?_,h'⟩⟩
    have:n-(j+1)=m:=by omega
    rw[this,hrest]
    refine List.map_congr_left fun i _=>?_
    show D.int (((j+(i+1):Nat):Int))=D.int (((j+1+i:Nat):Int))
    congr 2;omega
end L3
namespace L3
open PySem L2
open PySem.Spec hiding items?
open PyProof.Rows hiding St
section
variable {X:Cx}
end
section
variable {X:Cx}{pos:Pos}
end
end L3
namespace L3
open PySem L2
open PySem.Spec hiding items?
open PyProof.Rows hiding St
section
variable {X:Cx}
theorem p9{M:Model}{A:Around}{E:Value→Shared→Prop}{s:Shared}{Q:Value→Shared→Prop}{x:V}{v:Value}{b:Bool}(r:RelV x v)(h:Q (.bool (!(v== .bool b))) s):wpAny M A (compareOp .IsNot v (.bool b)) Q E s:=by
 cases x
 case bl c=>
  cases r
  cases c<;>cases b<;>exact wpAny_pure h
 all_goals first
  |(cases r;exact wpAny_pure h)
  |(obtain⟨t,rfl⟩:=r;exact wpAny_pure h)
def si:cO:=fun x y st K=>match y with| .aA=>live st x=true∧K (.bl (!FN x)) st| .bl b=>live st x=true∧K (.bl (!C0 x b)) st|_=>False
theorem yP:bG X (compareOp .IsNot) (LR si):=fun pins s σ H x y v u Q I rx ry ⟨α,d,e,st,K,G,F',P,r1,r2,S,q,k⟩=>by
 cases e<;>try exact q.elim
 · refine A5 pins s σ H x y v u Q I rx ry ⟨α,d,.aA,st,K,G,F',P,r1,r2,S,⟨q.1,?_⟩,k⟩
   have q2:=q.2
   cases d<;>exact q2
 · rename_i b
   unfold Rep at r2
   subst r2
   cases ry
   refine p9 rx ?_
   rw[AR S q.1 r1 rx]
   exact⟨.bl (!C0 d b),H,I,rfl,k.here P q.2 S (by unfold Rep;rfl)⟩
@[irreducible] def pj:cO:=si
theorem Ce:bG X (compareOp .IsNot) (LR pj):=by unfold pj;exact yP
end
section
variable {st:ae}{K:DK}{d:D}{b:Bool}
theorem xS(h:live st d=true)(k:K (.bl (!FN d)) st):pj d .aA st K:=by unfold pj;exact⟨h,k⟩
end
end L3
namespace L3
open PySem L2
open PySem.Spec hiding items?
open PyProof.Rows hiding St
section
variable {X:Cx}
end
end L3
namespace L3
open PySem L2
open PySem.Spec hiding items?
open PyProof.Rows hiding St
open AutoSeq1 (wpAny_loadPart')
end L3
namespace L3
open PySem L2
open PySem.Spec hiding items?
open PyProof.Rows hiding St
section
variable {prog:Program}{w:World}{A:Around}{E:Value→Shared→Prop}{s:Shared}
end
section
variable {X:Cx}{tg:Expr}
end
end L3
namespace L3
open PySem L2
open PySem.Spec hiding items?
open PyProof.Rows hiding St
section
variable {X:Cx}
end
end L3
namespace L3
open PySem L2
open PySem.Spec hiding items?
open PyProof.Rows hiding St
section
variable {X:Cx}
end
end L3
namespace L3
open PySem L2
open PySem.Spec hiding items?
open PyProof.Rows hiding St
open PySem PySem.Spec L2 PySem.SeqAt
section
variable {X:Cx}
end
end L3
namespace L3
open PySem L2
open PySem.Spec hiding items?
open PyProof.Rows hiding St
section
variable {X:Cx}
end
end L3
namespace L3
open PySem L2
open PySem.Spec hiding items?
open PyProof.Rows hiding St
section
variable {X:Cx}
end
section
variable {X:Cx}
end
end L3
namespace L3
open PySem L2
open PySem.Spec hiding items?
open PyProof.Rows hiding St
section
variable {X:Cx}
end
end L3
namespace L3
open PySem L2
open PySem.Spec hiding items?
open PyProof.Rows hiding St
section
variable {X:Cx}
end
end L3
namespace L3
open PySem L2
open PySem.Spec hiding items?
open PyProof.Rows hiding St
section
variable {P:Program}{w:World}
section
variable {z ti to t1 t2 t3 a1 a2 a3:Addr}
end
end
end L3
namespace L3
open PySem L2
open PySem.Spec hiding items?
open PyProof.Rows hiding St
end L3
namespace L3
open PySem L2
open PySem.Spec hiding items?
open PyProof.Rows hiding St
section
variable {X:Cx}
end
end L3
namespace L3
open PySem L2
open PySem.Spec hiding items?
open PyProof.Rows hiding St
open Sem (wp)
section
variable {prog:Program}{w:World}{A:Around}{s:Shared}{E:Value→Shared→Prop}
end
section
variable {prog:Program}{w:World}{A:Around}{R:Result→Shared→Prop}{I:Addr}{fp wr:List Addr}{G:Array GenState→Array GenState→Prop}{n:Nat}{P:Nat→Value→Prop}{Sx:Nat→Shared→Prop}
end
section
variable {prog:Program}{w:World}{A:Around}{E:Value→Shared→Prop}{s:Shared}
end
section
variable {X:Cx}{pins:List (Addr×Obj)}{σ:L2.St}{H:Hp}{s:Shared}{α:List (Option Addr)}
end
end L3
namespace L3
open PySem L2
open PySem.Spec hiding items?
open PyProof.Rows hiding St
section
variable {X:Cx}
end
end L3
namespace L3
open PySem L2
open PySem.Spec hiding items?
open PyProof.Rows hiding St
def putD(f:Str)(v:D):List (Str×D)→List (Str×D)
 | []=>[(f,v)]
 |(g,x)::r=>if g=f then(g,v)::r else(g,x)::putD f v r
theorem hO.look{α:List (Option Addr)}{H:Hp}{f:Str}{v:D}:∀ {fs:List (Str×D)} {vs:List (Str×V)},hO α H fs vs→fs.lookup f=some v→∃u,vs.lookup f=some u∧Rep α H v u
 | [],_,_,e=>by cases e
 |(g,x)::fs,_,.cons (b:=q) h t,e=>by
  obtain⟨g',y⟩:=q
  obtain⟨h1,h2⟩:=h
  simp only at h1 h2
  subst h1
  rw[List.lookup_cons]at e⊢
  cases hb:f==g with
  |true=>rw[hb]at e;cases e;exact⟨y,rfl,h2⟩
  |false=>rw[hb]at e;exact hO.look t e
theorem hO.none{α:List (Option Addr)}{H:Hp}{f:Str}:∀ {fs:List (Str×D)} {vs:List (Str×V)},hO α H fs vs→fs.lookup f=Option.none→vs.lookup f=Option.none
 | [],_,.nil,_=>rfl
 |(g,x)::fs,_,.cons (b:=q) h t,e=>by
  obtain⟨g',y⟩:=q
  obtain⟨h1,h2⟩:=h
  simp only at h1 h2
  subst h1
  rw[List.lookup_cons]at e⊢
  cases hb:f==g with
  |true=>rw[hb]at e;cases e
  |false=>rw[hb]at e;exact hO.none t e
theorem hO.put{α:List (Option Addr)}{H:Hp}{f:Str}{d:D}{v:V}(r:Rep α H d v):∀ {fs:List (Str×D)} {vs:List (Str×V)},hO α H fs vs→hO α H (putD f d fs) (fw f v vs)
 | [],_,.nil=> .cons ⟨rfl,r⟩ .nil
 |(g,x)::fs,_,.cons (b:=q) h t=>by
  obtain⟨g',y⟩:=q
  obtain⟨h1,h2⟩:=h
  simp only at h1 h2
  subst h1
  unfold putD fw
  by_cases hb:g=f
  · rw[if_pos hb,if_pos hb];exact .cons ⟨rfl,r⟩ t
  · rw[if_neg hb,if_neg hb];exact .cons ⟨rfl,h2⟩ (hO.put r t)
def yS(C:Addr)(f:Str)(d:D)(st:ae)(K:DK):Prop:=match d with
 | .ref n=>(match st[n]? with|some (.ins C' fs)=>C'=C∧∃v,fs.lookup f=some v∧K v st|_=>False)
 |_=>False
@[irreducible] def wb(C:Addr)(f:Str):D→ae→DK→Prop:=yS C f
def dg(C:Addr)(f:Str)(te:DE):DE:=fun σ st K=>te σ st fun d st1=>wb C f d st1 K
theorem bY{C:Addr}{f:Str}{n:Nat}{st:ae}{K:DK}{fs:List (Str×D)}{v:D}(e:st[n]?=some (.ins C fs))(h:fs.lookup f=some v)(k:K v st):wb C f (.ref n) st K:=by
 unfold wb yS;simp only[e];exact⟨trivial,v,h,k⟩
def vK(C:Addr)(f:Str)(x d:D)(st:ae)(K:ae→Prop):Prop:=match x with
 | .ref n=>(match st[n]? with|some (.ins C' fs)=>C'=C∧fs.length<1000∧K (st.set n (.ins C (putD f d fs)))|_=>False)
 |_=>False
@[irreducible] def rK(C:Addr)(f:Str):D→D→ae→(ae→Prop)→Prop:=vK C f
def kl(C:Addr)(f:Str)(to te:DE):DS:=fun D σ st=>te σ st fun d st1=>to σ st1 fun x st2=>rK C f x d st2 fun st3=>D.nx σ st3
theorem jP{C:Addr}{f:Str}{n:Nat}{d:D}{st:ae}{K:ae→Prop}{fs:List (Str×D)}(e:st[n]?=some (.ins C fs))(h:fs.length<1000)(k:K (st.set n (.ins C (putD f d fs)))):rK C f (.ref n) d st K:=by
 unfold rK vK;simp only[e];exact⟨trivial,h,k⟩
def vw(C:Addr)(m:Str)(x:D)(st:ae)(k:Prop):Prop:=match x with
 | .ref n=>(match st[n]? with|some (.ins C' fs)=>C'=C∧fs.lookup m=none∧k|_=>False)
 |_=>False
@[irreducible] def rM(C:Addr)(m:Str):D→ae→Prop→Prop:=vw C m
theorem ia{C:Addr}{m:Str}{n:Nat}{st:ae}{k:Prop}{fs:List (Str×D)}(e:st[n]?=some (.ins C fs))(h:fs.lookup m=none)(q:k):rM C m (.ref n) st k:=by
 unfold rM vw;simp only[e];exact⟨trivial,h,q⟩
def gX(C:Addr)(m:Str)(S:cM)(to:DE)(t:DA):DE:=fun σ st K=>to σ st fun x st1=>rM C m x st1 (t σ st1 fun ds st2=>S (x::ds) st2 K)
def wC(C:Addr)(S:cM)(t:DA):DE:=fun σ st K=>t σ st fun ds st1=>S (.ref st1.length::ds) (st1++[.ins C []]) fun r st2=>r= .aA∧K (.ref st1.length) st2
section
variable {X:Cx}{C f g:Addr}{fd:FuncData}{k:Nat}{x m fl:Str}{e o value:Expr}{es:List Expr}{p pos pos' apos:Pos}{te to:DE}{t:DA}{S:cM}{ps:List Str}
theorem Fq(c:jY X.K C)(na:fF X.K C fl)(he:PE X e (LE te))(hb:attributeBase e fl X.env (eval e X.env)=eval e X.env):PE X (.Attribute e fl pos) (LE (dg C fl te)):=PE.imp (Ds he hb) fun σ H Q ⟨α,σd,st,K,G,F,P,R,S,t,k⟩=>by
 refine⟨α,σd,st,_,G,F,P,R,S,t,fun d st1 q α1 G1 H1 v s1 P1 S1 r1=>?_⟩
 unfold wb yS at q
 cases d<;>try exact q.elim
 simp only at q
 split at q
 · rename_i C' fs e'
   obtain⟨rfl,w,hw,q⟩:=q
   obtain⟨a,ea,dx,vs,h1,h2⟩:=S1.rB e'
   have r1':=dA ea r1
   subst r1'
   obtain⟨u,hu,ru⟩:=h2.look hw
   exact⟨a,_,dx,vs,u,rfl,P1.get h1,c,na,hu,(k.at s1).here P1 q S1 ru⟩
 · exact q.elim
theorem BW(c:jY X.K C)(na:fF X.K C fl)(ho:PE X o (LE to))(hv:PE X value (LE te))(hs:swapsWith value (some (.Attribute o fl pos')) pos.line X.env=pure false):PS X (.Assign [.Attribute o fl pos'] value pos) (LS (kl C fl to te)):=PS.imp (C_ ho hv hs) fun D σ H ⟨α,σd,st,DD,G,F,P,R,S,t,k⟩=>by
 refine⟨α,σd,st,_,G,F,P,R,S,t,fun d st1 q α1 G1 H1 v s1 P1 S1 r1=>?_⟩
 refine⟨α1,σd,st1,_,G1,F,P1,R.step s1,S1,q,fun x st2 q2 α2 G2 H2 v2 s2 P2 S2 r2=>?_⟩
 unfold rK vK at q2
 cases x<;>try exact q2.elim
 simp only at q2
 split at q2
 · rename_i C' fs e'
   obtain⟨rfl,hl,q2⟩:=q2
   obtain⟨a,ea,dx,vs,h1,h2⟩:=S2.rB e'
   have r2':=dA ea r2
   subst r2'
   have hm:some a∈α2:=List.mem_of_getElem? ea
   have lv:vs.length<1000:=by rw[←h2.length];exact hl
   refine⟨a,_,dx,vs,rfl,P2.get h1,c,na,lv,?_⟩
   refine((k.nx.at s1).at s2) σd _ q2 α2 (upd G2 a (.ins _ dx (fw fl v vs))) _ σ (Step.write hm) (P2.write h1) (((R.step s1).step s2).step (Step.write hm)) ?_
   exact S2.write ea ⟨dx,fw fl v vs,aT,(h2.put (r1.step s2)).step (Step.write hm)⟩
 · exact q2.elim
theorem LE.EW{σ:L2.St}{H:Hp}{Q:VK}(h:LE (gX C m S to t) σ H Q):z_ C m (aR S) [] E0 (LE to) (LA t) σ H Q:=by
 obtain⟨α,σd,st,K,G,F,P,R,Sr,tt,k⟩:=h
 refine⟨α,σd,st,_,G,F,P,R,Sr,tt,fun d st1 q α1 G1 H1 v s1 P1 S1 r1=>?_⟩
 unfold rM vw at q
 cases d<;>try exact q.elim
 simp only at q
 split at q
 · rename_i n C' fs e'
   obtain⟨rfl,hl,q⟩:=q
   obtain⟨a,ea,dx,vs,h1,h2⟩:=S1.rB e'
   have r1':=dA ea r1
   subst r1'
   refine⟨a,dx,vs,rfl,P1.get h1,h2.none hl,?_⟩
   refine⟨α1,σd,st1,_,G1,F,P1,R.step s1,S1,q,fun ds st2 q2 α2 G2 H2 us s2 P2 S2 r2=>?_⟩
   try dsimp only
   rw[List.append_nil]
   exact⟨α2,_,st2,K,G2,F,P2,by unfold ay;exact⟨_,_,rfl,r1.step s2,r2⟩,S2,q2,(k.at s1).at s2⟩
 · exact q.elim
theorem LE.make{σ:L2.St}{H:Hp}{Q:VK}(h:LE (wC C S t) σ H Q):Ap C (aR S) [] E0 (LA t) σ H Q:=by
 obtain⟨α,σd,st,K,G,F,P,R,Sr,tt,k⟩:=h
 refine⟨α,σd,st,_,G,F,P,R,Sr,tt,fun ds st1 q α1 G1 H1 us s1 P1 S1 r1=>?_⟩
 intro x dx hx hdx hne
 have hgd:=(P1.none hdx).1
 have P2:=P1.laid (o:= .own x) hdx
 have S2:=S1.laid (o:= .own x) hgd
 have hx2:upd H1 dx (.own x) x=none:=by rw[aB (Ne.symm hne)];exact hx
 have hg2:=(P2.none hx2).1
 have P3:=P2.laid (o:= .ins C dx []) hx2
 have S3:=S2.cell (o:= .ins C dx []) (c:= .ins C []) hg2 ⟨dx,[],aT,.nil⟩
 have s2:Step α1 G1 α1 (upd G1 dx (.own x)):=Step.laid hgd
 have s3:Step α1 (upd G1 dx (.own x)) (α1++[some x]) (upd (upd G1 dx (.own x)) x (.ins C dx [])):=Step.cell hg2
 have rx:Rep (α1++[some x]) (upd (upd G1 dx (.own x)) x (.ins C dx [])) (.ref st1.length) (.ref x):=by
  unfold Rep
  refine .inr ⟨x,?_,rfl⟩
  rw[List.getElem?_append_right (by rw[S1.len];exact Nat.le_refl _),S1.len,Nat.sub_self]
  rfl
 rw[List.append_nil]
 refine⟨α1++[some x],.ref st1.length::ds,st1++[.ins C []],_,_,F,P3,by unfold ay;exact⟨_,_,rfl,rx,(r1.step s2).step s3⟩,S3,q,fun d st2 q2 α' G' H' v s' P' S' r'=>?_⟩
 obtain⟨rfl,q2⟩:=q2
 unfold Rep at r'
 exact⟨r',(((k.at s1).at s2).at s3) _ st2 q2 α' G' H' _ s' P' S' (rx.step s')⟩
end
end L3
namespace L3
open PySem L2
open PySem.Spec hiding items?
open PyProof.Rows hiding St
section
variable {X:Cx}{tg:Expr}
end
section
variable {X:Cx}
end
end L3
namespace L3
open PySem L2
open PySem.Spec hiding items?
open PyProof.Rows hiding St
section
variable {X:Cx}{e o i value:Expr}{es:List Expr}{te to ti:DE}{t:DA}{pos pos' tpos apos p:Pos}{C f:Addr}{fl m x:Str}{S:cM}{k:Nat}{fd:FuncData}{ps:List Str}
theorem yn{value o:Expr}{fl:Str}{pos':Pos}{n:Nat}{env:Env}:swapsWith value (some (.Attribute o fl pos')) n env=pure false:=by cases value<;>rfl
theorem cF(c:jY X.K C)(na:fF X.K C fl)(he:JE X e te)(hb:attributeBase e fl X.env (eval e X.env)=eval e X.env:=by rfl):JE X (.Attribute e fl pos) (dg C fl te):=by unfold JE at*;exact Fq c na he hb
theorem jL(c:jY X.K C)(na:fF X.K C fl)(ho:JE X o to)(hv:JE X value te):JS X (.Assign [.Attribute o fl pos'] value pos) (kl C fl to te):=by unfold JS;unfold JE at*;exact BW c na ho hv yn
theorem je{pl:Sem Bool}(he:JE X o to)(c:jY X.K C)(hm:Meth X.K C m f)(F:ax X.prog X.w X.K X.mg X.base aO k f fd ps (aR S))(hr:cq k X.A)(hb:Binds X.K fd ps [])(ha:JA X (e::es) t)
 (hs:notStar e=true:=by rfl) (hs2:fz es=true:=by rfl)
 (ht:eval (.Call (.Attribute o m apos) (e::es) [] pos) X.env=(do
   let ov ←eval o X.env
   standAt apos.atName
   let(f,first) ←holding [ov] (getMethod ov m pl)
   callWith pos f first (backTo pos (starEach (e::es) X.env)) (backToKw pos (keywordEach [] X.env))):=by rfl):
 JE X (.Call (.Attribute o m apos) (e::es) [] pos) (gX C m S to t):=by
 unfold JE at*
 unfold JA at ha
 exact PE.imp (AK he c hm F hr hb .nil wj ha (cC hs) (iX hs2) ht) fun _ _ _ h=>LE.EW h
theorem Dr(M:Mk X.K C f)(F:ax X.prog X.w X.K X.mg X.base aO k f fd ps (aR S))(hr:cq (k+1) X.A)(hg:Gl X x)(hmg:X.mg x=some (.ref C))(hb:Binds X.K fd ps [])(ha:JA X (e::es) t)(hdb:(x==("__debug__":Str))=false)
 (hs:notStar e=true:=by rfl) (hs2:fz es=true:=by rfl):JE X (.Call (.Name x p) (e::es) [] pos) (wC C S t):=by
 unfold JE
 unfold JA at ha
 exact PE.imp (BJ M F hr hg hmg hb .nil wj ha hdb (cC hs) (iX hs2)) fun _ _ _ h=>LE.make h
end
end L3
namespace L3
open PySem PySem.Spec L2
open PyProof.Rows hiding St
def Jn(xs:Array Keyed)(i:Nat):Int:=match xs[i]? with
 |some p=>numOf p.2
 |none=>0
theorem jV{xs ys:Array Keyed}{i j:Nat}(h:xs[i]?=ys[j]?):Jn xs i=Jn ys j:=by unfold Jn;rw[h]
theorem jf{xs:Array Keyed}{i j:Nat}(hj:j≤xs.size)(k:Nat):
 K (mirror xs i j ((j-i)/2)) k=K xs (if i≤k∧k<j then i+j-1-k else k)∧Jn (mirror xs i j ((j-i)/2)) k=Jn xs (if i≤k∧k<j then i+j-1-k else k):=by
 have e:=getElem?_mirror_all (i:=i) hj k
 split at e<;>rename_i h
 · rw[if_pos h];exact⟨K_congr e,jV e⟩
 · rw[if_neg h];exact⟨K_congr e,jV e⟩
theorem xg{xs:Array Keyed}{src d:Nat}(hs:src<xs.size)(hd:d≤src)(k:Nat):
 K (bubble xs src d) k=K xs (if k=src-d then src else if src-d<k∧k≤src then k-1 else k)∧Jn (bubble xs src d) k=Jn xs (if k=src-d then src else if src-d<k∧k≤src then k-1 else k):=by
 have e:=getElem?_bubble hs d hd k
 split at e<;>rename_i h
 · rw[if_pos h];exact⟨K_congr e,jV e⟩
 · rw[if_neg h]
   split at e<;>rename_i h2
   · rw[if_pos h2];exact⟨K_congr e,jV e⟩
   · rw[if_neg h2];exact⟨K_congr e,jV e⟩
def jl(xs:Array Keyed)(i j:Nat):Prop:=K xs i<K xs j∨(K xs i=K xs j∧Jn xs i<Jn xs j)
def gZ(xs:Array Keyed)(k:Nat):Prop:=∀i j,i<j→j<k→jl xs i j
def gE(n:Nat)(xs:Array Keyed)(k:Nat):Prop:=∀i j,i<j→k≤j→j<n→Jn xs i<Jn xs j
theorem gZ.to{xs:Array Keyed}{k:Nat}(h:gZ xs k):SortedTo xs k:=fun i j hij hj=>by
 rcases Nat.lt_or_eq_of_le hij with e|e
 · rcases h i j e hj with q|q<;>omega
 · subst e;exact Int.le_refl _
theorem gZ.more{xs:Array Keyed}{n k m:Nat}(h:gZ xs k)(t:gE n xs k)(s:SortedTo xs m)(hm:m≤n):gZ xs m:=fun i j hij hj=>by
 by_cases hk:j<k
 · exact h i j hij hk
 · have a:=s i j (Nat.le_of_lt hij) hj
   have b:=t i j hij (Nat.le_of_not_lt hk) (Nat.lt_of_lt_of_le hj hm)
   unfold jl;omega
theorem gE.up{xs:Array Keyed}{n k m:Nat}(t:gE n xs k)(h:k≤m):gE n xs m:=fun i j a b c=>t i j a (Nat.le_trans h b) c
theorem gE.mix{xs ys:Array Keyed}{n k:Nat}(t:gE n xs k)(f:Nat→Nat)(hf:∀i,Jn ys i=Jn xs (f i))(h1:∀i,i<k→f i<k)(h2:∀i,k≤i→f i=i):gE n ys k:=fun i j a b c=>by
 rw[hf,hf,h2 j b]
 refine t _ _ ?_ b c
 by_cases hi:i<k
 · exact Nat.lt_of_lt_of_le (h1 i hi) b
 · rw[h2 i (Nat.le_of_not_lt hi)];exact a
section
variable {prog:Program}{w:World}{A:Around}{E:Value→Shared→Prop}{s:Shared}{a₀:Array Keyed}
theorem yk{st:SortSt}{ok:Nat}{Q:Bool→SortSt→Prop}(h0:IntKeys a₀)(h1:1≤ok)(aH:ok≤a₀.size)(hB:SBase a₀ st)(hs:gZ (arrOf st) ok)(ht:gE a₀.size (arrOf st) ok)
 (h:∀st',SBase a₀ st'→gZ (arrOf st') a₀.size→Q true st'):wpS (model prog w) A E s (binarySort' 0 a₀.size ok) Q st:=by
 rw[binarySort'_eq]
 simp only[Nat.zero_add]
 refine wpS_bind (wpS_mono (wpS_forRange (I:=fun k c q=>c=(none,())∧SBase a₀ q∧k≤a₀.size∧gZ (arrOf q) k∧gE a₀.size (arrOf q) k)
  (Q:=fun c q=>c=(none,())∧SBase a₀ q∧gZ (arrOf q) a₀.size) ?st ?en ?be) ?po)
 case po=>rintro c q ⟨rfl,b1,b2⟩;exact wpS_pure (h q b1 b2)
 case be=>rw[show max ok 1=ok by omega];exact⟨rfl,hB,aH,hs,ht⟩
 case en=>
  rintro c q ⟨rfl,b1,b2,b3,_⟩
  rw[show max (max ok 1) a₀.size=a₀.size by omega]at b3
  exact⟨rfl,b1,b3⟩
 case st=>
  rintro k c q hk1 hk2 ⟨rfl,qB,_,qS,qT⟩
  refine wpS_bind (wpS_mono (wpS_forRange (I:=fun x c q'=>q'=q∧∃l r,c=(none,l,r)∧l≤r∧r≤k∧r-l≤k-x∧(∀i,i<l→K (arrOf q) i≤K (arrOf q) k)∧(∀i,r≤i→i<k→K (arrOf q) k<K (arrOf q) i))
   (Q:=fun c q'=>q'=q∧∃l,c=(none,l,l)∧l≤k∧(∀i,i<l→K (arrOf q) i≤K (arrOf q) k)∧(∀i,l≤i→i<k→K (arrOf q) k<K (arrOf q) i)) ?a ?b ?c) ?d)
  case c=>exact⟨rfl,0,k,rfl,by omega,by omega,by omega,fun i hi=>by omega,fun i x y=>by omega⟩
  case b=>
   rintro c q' ⟨rfl,l,r,rfl,e1,e2,e3,e4,e5⟩
   have:r=l:=by omega
   subst this
   exact⟨rfl,r,rfl,e2,e4,e5⟩
  case a=>
   rintro x c q' _ hx ⟨rfl,l,r,rfl,e1,e2,e3,e4,e5⟩
   dsimp only
   by_cases hlr:l≥r
   · rw[if_pos hlr]
     have:r=l:=by omega
     subst this
     exact wpS_pure ⟨rfl,r,rfl,e2,e4,e5⟩
   · rw[if_neg hlr]
     refine wpS_bind (wpS_ltK qB h0 hk2 (by omega) ?_)
     have so:=qS.to
     by_cases hl:K (arrOf q') k<K (arrOf q') ((l+r)/2)
     · simp only[hl,decide_true,if_true]
       exact wpS_pure ⟨rfl,l,(l+r)/2,rfl,by omega,by omega,by omega,e4,fun i x y=>Int.lt_of_lt_of_le hl (so _ _ x y)⟩
     · simp only[hl,decide_false,Bool.false_eq_true,if_false]
       refine wpS_pure ⟨rfl,(l+r)/2+1,r,rfl,by omega,by omega,by omega,fun i x=>?_,e5⟩
       have:=so i ((l+r)/2) (by omega) (by omega)
       omega
  case d=>
   rintro c q' ⟨rfl,l,rfl,hlk,e4,e5⟩
   show wpS _ _ _ _ (do moveDown' k l;pure (ForInStep.yield (none,()))) _ _
   rw[moveDown'_eq]
   have hks:k<(arrOf q').size:=by rw[qB.size];exact hk2
   have bb:=xg (xs:=arrOf q') hks (show k-l≤k by omega)
   rw[show k-(k-l)=l by omega]at bb
   refine wpS_bind (wpS_modify (wpS_pure ⟨rfl,qB.setArr (bubble_perm _ _ _),by omega,fun i j hij hj=>?_,gE.mix (qT.up (Nat.le_succ k)) _ (fun i=>(bb i).2) (fun i hi=>?_) (fun i hi=>?_)⟩))
   · show jl (bubble (arrOf q') k (k-l)) i j
     unfold jl
     rw[(bb i).1,(bb i).2,(bb j).1,(bb j).2]
     by_cases hil:i<l
     · rw[if_neg (show¬i=l by omega),if_neg (show¬(l<i∧i≤k) by omega)]
       by_cases hjl:j=l
       · rw[if_pos hjl]
         have x:=e4 i hil
         have y:=qT i k (by omega) (Nat.le_refl _) hk2
         omega
       · rw[if_neg hjl]
         by_cases hj2:l<j∧j≤k
         · rw[if_pos hj2];exact qS i (j-1) (by omega) (by omega)
         · rw[if_neg hj2];exact qS i j hij (by omega)
     · by_cases hie:i=l
       · rw[if_pos hie,if_neg (show¬j=l by omega),if_pos (show l<j∧j≤k by omega)]
         exact .inl (e5 _ (by omega) (by omega))
       · rw[if_neg hie,if_pos (show l<i∧i≤k by omega),if_neg (show¬j=l by omega),if_pos (show l<j∧j≤k by omega)]
         exact qS _ _ (by omega) (by omega)
   · show(if i=l then k else if l<i∧i≤k then i-1 else i)<k+1
     split
     · omega
     · split<;>omega
   · show(if i=l then k else if l<i∧i≤k then i-1 else i)=i
     rw[if_neg (by omega),if_neg (by omega)]
def qk(xs:Array Keyed)(m q:Nat):Prop:=q+1≤m∧∀i j,i<j→j<m→(m≤i+(q+1)→K xs i=K xs j∧Jn xs i<Jn xs j)∧(i+(q+1)<m→(m≤j+(q+1)→K xs j<K xs i)∧jl xs j i)
theorem qk.all{xs:Array Keyed}{m q:Nat}(h:qk xs m q)(hm:m≤xs.size):(q=0∨0<q)∧∀i j,i<j→j<m→jl (mirror xs (m-(q+1)) m ((m-(m-(q+1)))/2)) j i:=by
 refine⟨by omega,fun i j hij hj=>?_⟩
 have b:=jf (i:=m-(q+1)) (j:=m) hm
 unfold jl
 rw[(b i).1,(b i).2,(b j).1,(b j).2]
 by_cases hi:m-(q+1)≤i∧i<m
 · rw[if_pos hi,if_pos (show m-(q+1)≤j∧j<m by omega)]
   have:=(h.2 (m-(q+1)+m-1-j) (m-(q+1)+m-1-i) (by omega) (by omega)).1 (by omega)
   omega
 · rw[if_neg hi]
   by_cases hj2:m-(q+1)≤j∧j<m
   · rw[if_pos hj2]
     have:=((h.2 i (m-(q+1)+m-1-j) (by omega) (by omega)).2 (by omega)).1 (by omega)
     omega
   · rw[if_neg hj2]
     exact((h.2 i j hij hj).2 (by omega)).2
theorem qk.zero{xs:Array Keyed}{m:Nat}(h:qk xs m 0):∀i j,i<j→j<m→jl xs j i:=fun i j hij hj=>((h.2 i j hij hj).2 (by omega)).2
theorem jH{n:Nat}{xs:Array Keyed}{i j k:Nat}(t:gE n xs k)(hj:j≤xs.size)(hk:j≤k):gE n (mirror xs i j ((j-i)/2)) k:=
 t.mix _ (fun a=>(jf hj a).2) (fun a ha=>by split<;>omega) fun a ha=>by rw[if_neg (by omega)]
theorem x8{st:SortSt}{n:Nat}{Q:DescSt→SortSt→Prop}(h0:IntKeys a₀)(hn:n≤a₀.size)(hB:SBase a₀ st)(hs:qk (arrOf st) n 0)(ht:gE a₀.size (arrOf st) n)
 (h:∀m q st',SBase a₀ st'→n≤m→m≤a₀.size→qk (arrOf st') m q→gE a₀.size (arrOf st') m→Q (none,m,q) st'):
 wpS (model prog w) A E s (descLoop n a₀.size) Q st:=by
 unfold descLoop
 refine wpS_forRange (I:=fun x c st'=>∃q,c=(none,x,q)∧SBase a₀ st'∧qk (arrOf st') x q∧gE a₀.size (arrOf st') x) ?st ?en ⟨0,rfl,hB,hs,ht⟩
 case en=>
  rintro c st' ⟨q,rfl,b1,b2,b3⟩
  rw[show max n a₀.size=a₀.size by omega]at b2 b3⊢
  exact h _ q st' b1 hn (Nat.le_refl _) b2 b3
 case st=>
  rintro x c st' hx1 hx2 ⟨q,rfl,b1,b2,b3⟩
  dsimp only
  have hq:=b2.1
  have hsz:x≤(arrOf st').size:=by rw[b1.size];omega
  refine wpS_bind (wpS_ltK b1 h0 hx2 (by omega) ?_)
  by_cases hl:K (arrOf st') x<K (arrOf st') (x-1)
  · simp only[hl,decide_true,if_true]
    by_cases hq0:q>0
    · rw[if_pos hq0]
      have al:=(b2.all hsz).2
      have km:=jf (i:=x-(q+1)) (j:=x) hsz
      refine wpS_bind (wpS_reverse (wpS_pure ⟨0,rfl,b1.setArr (mirror_perm _ _ _ _),⟨by omega,fun i j hij hj=>⟨fun hh=>by omega,fun hh=>⟨fun hj2=>?_,?_⟩⟩⟩,(jH b3 hsz (Nat.le_refl _)).up (Nat.le_succ x)⟩))
      · have hjx:j=x:=by omega
        subst hjx
        show K (mirror (arrOf st') _ _ _) j<K (mirror (arrOf st') _ _ _) i
        rw[(km i).1,(km j).1,if_neg (show¬(j-(q+1)≤j∧j<j) by omega)]
        have key:∀t,t<j→K (arrOf st') (j-1)≤K (arrOf st') t:=fun t ht=>by
         by_cases e:t=j-1
         · rw[e];exact Int.le_refl _
         · have z:=b2.2 t (j-1) (by omega) (by omega)
           by_cases g:j≤t+(q+1)
           · have:=(z.1 g).1;omega
           · have:=(z.2 (by omega)).2;unfold jl at this;omega
        split
        · have:=key (j-(q+1)+j-1-i) (by omega);omega
        · have:=key i hij;omega
      · show jl (mirror (arrOf st') _ _ _) j i
        by_cases hjx:j<x
        · exact al i j hij hjx
        · have hjx:j=x:=by omega
          subst hjx
          refine .inl ?_
          rw[(km i).1,(km j).1,if_neg (show¬(j-(q+1)≤j∧j<j) by omega)]
          have key:∀t,t<j→K (arrOf st') (j-1)≤K (arrOf st') t:=fun t ht=>by
           by_cases e:t=j-1
           · rw[e];exact Int.le_refl _
           · have z:=b2.2 t (j-1) (by omega) (by omega)
             by_cases g:j≤t+(q+1)
             · have:=(z.1 g).1;omega
             · have:=(z.2 (by omega)).2;unfold jl at this;omega
          split
          · have:=key (j-(q+1)+j-1-i) (by omega);omega
          · have:=key i hij;omega
    · rw[if_neg hq0]
      have hq0:q=0:=by omega
      subst hq0
      have z0:=b2.zero
      have lx:∀i,i<x→K (arrOf st') x<K (arrOf st') i:=fun i hi=>by
       by_cases e:i=x-1
       · rw[e];exact hl
       · have:=z0 i (x-1) (by omega) (by omega);unfold jl at this;omega
      refine wpS_pure ⟨0,rfl,b1,⟨by omega,fun i j hij hj=>⟨fun hh=>by omega,fun hh=>⟨fun hj2=>?_,?_⟩⟩⟩,b3.up (Nat.le_succ x)⟩
      · have hjx:j=x:=by omega
        subst hjx;exact lx i hij
      · by_cases hjx:j<x
        · exact z0 i j hij hjx
        · have hjx:j=x:=by omega
          subst hjx;exact .inl (lx i hij)
  · simp only[hl,decide_false,Bool.false_eq_true,if_false]
    refine wpS_bind (wpS_ltK b1 h0 (by omega) hx2 ?_)
    by_cases hg:K (arrOf st') (x-1)<K (arrOf st') x
    · simp only[hg,decide_true,if_true]
      exact wpS_pure (h x q st' b1 hx1 (by omega) b2 b3)
    · simp only[hg,decide_false,Bool.false_eq_true,if_false]
      have he:K (arrOf st') x=K (arrOf st') (x-1):=by omega
      refine wpS_pure ⟨q+1,rfl,b1,⟨by omega,fun i j hij hj=>⟨fun hh=>?_,fun hh=>⟨fun hj2=>?_,?_⟩⟩⟩,b3.up (Nat.le_succ x)⟩
      · by_cases hjx:j<x
        · exact(b2.2 i j hij hjx).1 (by omega)
        · have hjx:j=x:=by omega
          subst hjx
          refine⟨?_,b3 i j hij (Nat.le_refl _) hx2⟩
          rw[he]
          by_cases e:i=j-1
          · rw[e]
          · exact((b2.2 i (j-1) (by omega) (by omega)).1 (by omega)).1
      · by_cases hjx:j<x
        · exact((b2.2 i j hij hjx).2 (by omega)).1 (by omega)
        · have hjx:j=x:=by omega
          subst hjx
          rw[he]
          exact((b2.2 i (j-1) (by omega) (by omega)).2 (by omega)).1 (by omega)
      · by_cases hjx:j<x
        · exact((b2.2 i j hij hjx).2 (by omega)).2
        · have hjx:j=x:=by omega
          subst hjx
          refine .inl ?_
          rw[he]
          exact((b2.2 i (j-1) (by omega) (by omega)).2 (by omega)).1 (by omega)
theorem qp{st:SortSt}{n:Nat}{Q:Option Nat→SortSt→Prop}(h0:IntKeys a₀)(h1:1≤n)(hn:n≤a₀.size)(hB:SBase a₀ st)(hs:∀i j,i<j→j<n→jl (arrOf st) j i)(ht:gE a₀.size (arrOf st) n)
 (h:∀m st',SBase a₀ st'→1≤m→m≤a₀.size→gZ (arrOf st') m→gE a₀.size (arrOf st') m→Q (some m) st'):wpS (model prog w) A E s (tail3 n a₀.size) Q st:=by
 unfold tail3
 have hsz:n≤(arrOf st).size:=by rw[hB.size];exact hn
 refine wpS_bind (wpS_reverse ?_)
 have km:=jf (xs:=arrOf st) (i:=0) (j:=n) hsz
 have s1:gZ (mirror (arrOf st) 0 n ((n-0)/2)) n:=fun i j hij hj=>by
  unfold jl
  rw[(km i).1,(km i).2,(km j).1,(km j).2,if_pos (by omega),if_pos (by omega)]
  exact hs _ _ (by omega) (by omega)
 have t1:=jH (i:=0) ht hsz (Nat.le_refl _)
 have hB':SBase a₀ (setArr st (mirror (arrOf st) 0 n ((n-0)/2))):=hB.setArr (mirror_perm _ _ _ _)
 refine wpS_bind (wpS_ascLoop h0 (Nat.le_refl _) h1 hn hB' s1.to fun m m1 m2 sm _=>wpS_pure (h m _ hB' (by omega) m2 (s1.more t1 sm m2) (t1.up m1)))
theorem qt{st:SortSt}{n:Nat}{Q:Option Nat→SortSt→Prop}(h0:IntKeys a₀)(hn:n+1≤a₀.size)(hB:SBase a₀ st)(hs:qk (arrOf st) (n+1) 0)(ht:gE a₀.size (arrOf st) (n+1))
 (h:∀m st',SBase a₀ st'→1≤m→m≤a₀.size→gZ (arrOf st') m→gE a₀.size (arrOf st') m→Q (some m) st'):wpS (model prog w) A E s (descPart n a₀.size) Q st:=by
 unfold descPart
 refine wpS_bind (wpS_lift (wpAny_rule ⟨rfl,?_⟩))
 refine wpS_bind (x8 h0 hn hB hs ht fun m q st' b1 b2 b3 b4 b5=>?_)
 dsimp only
 have hsz:m≤(arrOf st').size:=by rw[b1.size];exact b3
 by_cases hq:q>0
 · rw[if_pos hq]
   exact wpS_bind (wpS_reverse (qp h0 (by omega) b3 (b1.setArr (mirror_perm _ _ _ _)) (b4.all hsz).2 (jH b5 hsz (Nat.le_refl _)) h))
 · rw[if_neg hq]
   have:q=0:=by omega
   subst this
   exact qp h0 (by omega) b3 b1 b4.zero b5 h
theorem wM{st:SortSt}{Q:Option Nat→SortSt→Prop}(h0:IntKeys a₀)(h1:1≤a₀.size)(hB:SBase a₀ st)(ht:gE a₀.size (arrOf st) 1)
 (h:∀m st',SBase a₀ st'→1≤m→m≤a₀.size→gZ (arrOf st') m→gE a₀.size (arrOf st') m→Q (some m) st'):wpS (model prog w) A E s (countRun' 0 a₀.size) Q st:=by
 rw[countRun0_eq]
 have s1:gZ (arrOf st) 1:=fun i j hij hj=>by omega
 refine wpS_bind (wpS_ascLoop h0 (Nat.le_refl _) (Nat.le_refl 1) h1 hB s1.to fun n n1 n2 sn hor=>?_)
 dsimp only
 have s2:=s1.more ht sn n2
 by_cases hn:n=a₀.size
 · rw[if_pos (by simpa using hn)]
   exact wpS_pure (h n st hB n1 n2 s2 (ht.up n1))
 · rw[if_neg (by simpa using hn)]
   have hl:=hor.resolve_left hn
   by_cases hg:n>1
   · rw[if_pos hg]
     refine wpS_bind (wpS_ltK hB h0 (by omega) (by omega) ?_)
     by_cases hr:K (arrOf st) 0<K (arrOf st) (n-1)
     · simp only[hr,decide_true,if_true]
       exact wpS_pure (h n st hB n1 n2 s2 (ht.up n1))
     · simp only[hr,decide_false,Bool.false_eq_true,if_false]
       have hsz:n≤(arrOf st).size:=by rw[hB.size];exact n2
       have eqs:∀k,k<n→K (arrOf st) k=K (arrOf st) (n-1):=fun k hk=>by
        have x:=sn 0 k (by omega) hk
        have y:=sn k (n-1) (by omega) (by omega)
        omega
       have km:=jf (xs:=arrOf st) (i:=0) (j:=n) hsz
       refine wpS_bind (wpS_reverse (qt h0 (by omega) (hB.setArr (mirror_perm _ _ _ _)) ⟨by omega,fun i j hij hj=>⟨fun hh=>by omega,fun hh=>⟨fun hj2=>?_,?_⟩⟩⟩ (jH (ht.up (by omega)) hsz (by omega)) h))
       · have hjn:j=n:=by omega
         subst hjn
         show K (mirror (arrOf st) _ _ _) j<K (mirror (arrOf st) _ _ _) i
         rw[(km i).1,(km j).1,if_neg (show¬(0≤j∧j<j) by omega),if_pos (by omega),eqs (0+j-1-i) (by omega)]
         exact hl
       · show jl (mirror (arrOf st) _ _ _) j i
         unfold jl
         rw[(km i).1,(km i).2,(km j).1,(km j).2,if_pos (show 0≤i∧i<n by omega)]
         by_cases hjn:j<n
         · rw[if_pos (by omega)]
           refine .inr ⟨(eqs _ (by omega)).trans (eqs _ (by omega)).symm,ht _ _ (by omega) (by omega) (by omega)⟩
         · have hjn:j=n:=by omega
           subst hjn
           rw[if_neg (by omega),eqs (0+j-1-i) (by omega)]
           exact .inl hl
   · rw[if_neg hg]
     have hn1:n=1:=by omega
     subst hn1
     refine qt h0 (by omega) hB ⟨by omega,fun i j hij hj=>⟨fun hh=>by omega,fun hh=>?_⟩⟩ (ht.up (by omega)) h
     have hi0:i=0:=by omega
     have hj1:j=1:=by omega
     subst hi0;subst hj1
     exact⟨fun _=>hl,.inl hl⟩
theorem x9{st:SortSt}{Q:Unit→SortSt→Prop}(h0:IntKeys a₀)(hB:SBase a₀ st)(ht:gE a₀.size (arrOf st) 1)(h2:2≤a₀.size)(h64:a₀.size<64)
 (h:∀st',(arrOf st').Perm a₀→failedOf st'=none→gZ (arrOf st') a₀.size→Q () st'):wpS (model prog w) A E s sortRuns' Q st:=by
 rw[sortRuns'_eq]
 refine wpS_bind (wpS_get ?_)
 dsimp only
 have hmr:minRun' a₀.size a₀.size 0=a₀.size:=by
  cases e:a₀.size with
  |zero=>rw[e]at h2;omega
  |succ f=>rw[minRun'_succ,if_pos (by omega)]
 simp only[hB.size,hmr]
 have dn:∀ {q:SortSt},SBase a₀ q→gZ (arrOf q) a₀.size→∃p,p=setPending q ((pendingOf q).push (0,a₀.size,0))∧(arrOf p).Perm a₀∧failedOf p=none∧pendingOf p= #[(0,a₀.size,0)]∧gZ (arrOf p) a₀.size:=fun{q} b s=>
  ⟨_,rfl,b.perm,b.failed,by show(pendingOf q).push _=_;rw[b.pend];rfl,s⟩
 refine wpS_bind (wpS_mono (wpS_forRange
  (I:=fun x c q=>(x=0∧c=(none,0)∧q=st)∨(1≤x∧c=(none,a₀.size)∧(arrOf q).Perm a₀∧failedOf q=none∧pendingOf q= #[(0,a₀.size,0)]∧gZ (arrOf q) a₀.size))
  (Q:=fun c q=>c=(none,a₀.size)∧(arrOf q).Perm a₀∧failedOf q=none∧pendingOf q= #[(0,a₀.size,0)]∧gZ (arrOf q) a₀.size) ?st ?en (.inl ⟨rfl,rfl,rfl⟩)) ?po)
 case en=>
  rintro c q (⟨hx,_,_⟩|⟨_,hc,hD⟩)
  · omega
  · exact⟨hc,hD⟩
 case st=>
  rintro x c q _ hx (⟨rfl,rfl,rfl⟩|⟨_,rfl,hD⟩)
  · dsimp only
    rw[if_neg (by omega)]
    simp only[Nat.sub_zero,Nat.min_self,Nat.zero_add]
    refine wpS_bind (wM h0 (by omega) hB ht fun m q2 b1 b2 b3 b4 b5=>?_)
    dsimp only
    by_cases hm:m<a₀.size
    · rw[if_pos hm]
      refine wpS_bind (wpS_lift (wpAny_rule ⟨rfl,?_⟩))
      refine wpS_bind (yk h0 b2 b3 b1 b4 b5 fun q3 d1 d2=>?_)
      simp only[Bool.not_true,Bool.false_eq_true,if_false]
      refine wpS_bind (wpS_get ?_)
      have hb:(pendingOf q3).back?=none:=by rw[d1.pend];rfl
      rw[hb]
      dsimp only
      obtain⟨p,rfl,z⟩:=dn d1 d2
      exact wpS_bind (wpS_modify (wpS_pure (.inr ⟨by omega,rfl,z⟩)))
    · rw[if_neg hm]
      have hm:m=a₀.size:=by omega
      subst hm
      refine wpS_bind (wpS_get ?_)
      have hb:(pendingOf q2).back?=none:=by rw[b1.pend];rfl
      rw[hb]
      dsimp only
      obtain⟨p,rfl,z⟩:=dn b1 b4
      exact wpS_bind (wpS_modify (wpS_pure (.inr ⟨by omega,rfl,z⟩)))
  · dsimp only
    rw[if_pos (Nat.le_refl _)]
    exact wpS_pure ⟨rfl,hD⟩
 case po=>
  rintro c q ⟨rfl,d1,d2,d3,d4⟩
  dsimp only
  refine wpS_bind (wpS_mono (wpS_forRange (I:=fun _ c q'=>q'=q∧c=(none,())) (Q:=fun c q'=>q'=q∧c=(none,())) ?_ (fun _ _ z=>z) ⟨rfl,rfl⟩) ?_)
  · rintro x c q' _ _ ⟨rfl,rfl⟩
    refine wpS_bind (wpS_get ?_)
    rw[if_pos (by rw[d3];exact Nat.le_refl 1)]
    exact wpS_pure ⟨rfl,rfl⟩
  · rintro c q' ⟨rfl,rfl⟩
    exact wpS_pure (h _ d1 d2 d4)
end
end L3
namespace L2
open PySem PySem.Spec PyProof.Rows
structure Entry(K:PySem.W.Frag)(ts:List (Addr×Addr))(a:Addr)(ns:List Int)(H:Hp):Prop where
 lst:ji K H a (ns.map V.int)
 tab:∀q∈ts,H q.2=some (.h_ #[])∧q.2≠a
theorem qj:∀ {vs:List Value} {ns:List Int},IntsAre vs ns→Vals (ns.map V.int) vs
 |_,_,.nil=> .nil
 |_,_,.cons n t h=> .cons ⟨t,rfl⟩ (qj h)
structure zC(K:PySem.W.Frag)(ts:List (Addr×Addr))(h:Heap):Prop where
 hd:∀q∈ts,PySem.W.codeHdIn K q.1 q.2=true
 no:∀q∈ts,K.lookup q.2=none
 at':∀q∈ts,h.get? q.2=some (PySem.W.tabObj #[])
theorem yc{P:Program}{w:World}{K:PySem.W.Frag}{mg mb:Str→Option Value}{k:Nat}{fa a:Addr}{fd:FuncData}{x:Str}{sp:Sp}{s₁:Shared}{vs:List Value}{ns:List Int}{ts:List (Addr×Addr)}
 (KX:K.In s₁.heap) (hns:s₁.heap.Ns mainGlobals mg) (hb:s₁.heap.Ns builtinsNs mb) (hbb:∀x:Str,x≠"__name__"→mb x=bootBuiltins x) (hlim:s₁.heap.NoLimit) (hse:s₁.heap.NoSeer) (hgt:P.given.tree=none)
 (hbm:∃bm ob,mg "__builtins__"=some (.ref bm)∧bm≠builtinsNs∧s₁.heap.get? bm=some ob∧ob.cls= .type "module"∧ob.dict=some builtinsNs∧ob.data= .plain) (hT:zC K ts s₁.heap) (hg:s₁.gens= #[])
 (ha:s₁.heap.get? a=some {cls:= .type "list",data:= .seq vs.toArray}) (hi:IntsAre vs ns) (hl:ns.length≤sizeLine) (hr:cq k callerA)
 (F:∀base:Heap,K.In base→base.Ns mainGlobals mg→ax P w K mg base (fun _ _ _ _ _ _=>False) k fa fd [x] sp) (hbind:∀(s:Shared) (u:Value),BindsTo s fd ⟨[u],[]⟩ [(x,u)])
 (hsp:∀H:Hp,Entry K ts a ns H→sp [.ref a] H (fun v _=>v= .bl true) fun _ _ _=>False):
 codeAny (model P w) callerA (.call (.ref fa) ⟨[.ref a],[]⟩) (fun r s'=>r= .ok (.ret (.bool true))∧OldK s₁.heap s'.heap∧s'.os=s₁.os∧AllBare s'.gens) s₁:=by
 have rv:=qj hi
 have lenV:=hi.length
 have nta:∀q∈ts,q.2≠a:=fun q hq z=>by
  have:=hT.at' q hq
  rw[z,ha]at this
  cases this
 let sc:Option HO:=match K.lookup a with
  |some _=>none
  |none=>some (.fo {cls:= .type "list",data:= .seq vs.toArray} (.lst (ns.map V.int)))
 let H:Hp:=fun b=>if b=a then sc else if b∈ts.map (·.2)then some (.h_ #[])else none
 have Ha:H a=sc:=if_pos rfl
 have Ht:∀q∈ts,H q.2=some (.h_ #[]):=fun q hq=>by
  show(if q.2=a then sc else if q.2∈ts.map (·.2)then some (HO.h_ #[])else none)=_
  rw[if_neg (nta q hq),if_pos (List.mem_map_of_mem hq)]
 have Hs:∀b u,H b=some u→(b=a∧K.lookup a=none∧u= .fo {cls:= .type "list",data:= .seq vs.toArray} (.lst (ns.map V.int)))∨(∃q∈ts,q.2=b∧u= .h_ #[]):=fun b u e=>by
  have e':(if b=a then sc else if b∈ts.map (·.2)then some (HO.h_ #[])else none)=some u:=e
  by_cases hba:b=a
  · rw[if_pos hba]at e'
    have e2:(match K.lookup a with
     |some _=>none
     |none=>some (HO.fo {cls:= .type "list",data:= .seq vs.toArray} (.lst (ns.map V.int))))=some u:=e'
    cases q:K.lookup a with
    |some o=>rw[q]at e2;cases e2
    |none=>rw[q]at e2;cases e2;exact .inl ⟨hba,rfl,rfl⟩
  · rw[if_neg hba]at e'
    by_cases hbt:b∈ts.map (·.2)
    · rw[if_pos hbt]at e';cases e'
      obtain⟨q,hq,e⟩:=List.mem_map.mp hbt
      exact .inr ⟨q,hq,e,rfl⟩
    · rw[if_neg hbt]at e';cases e'
 have aH:fS P w H s₁.heap:=fun b u e=>by
  rcases Hs b u e with⟨rfl,_,rfl⟩|⟨q,hq,rfl,rfl⟩
  · exact⟨ha,by rw[List.length_map];exact hl,vs,_,rv,ha⟩
  · exact hT.at' q hq
 have hE:Entry K ts a ns H:=by
  refine⟨?_,fun q hq=>⟨Ht q hq,nta q hq⟩⟩
  cases q:K.lookup a with
  |some o=>
   have e:=KX a o q
   rw[ha]at e;cases e
   exact .inr ⟨_,vs.toArray,_,q,rfl,rfl,rfl,by rw[List.size_toArray,lenV];exact hl,by simpa using rv⟩
  |none=>
   refine .inl (.inr ⟨{cls:= .type "list",data:= .seq vs.toArray},?_⟩)
   rw[Ha]
   show(match K.lookup a with
    |some _=>none
    |none=>some (HO.fo {cls:= .type "list",data:= .seq vs.toArray} (.lst (ns.map V.int))))=_
   rw[q]
 have dictNo:∀ {b:Addr} {o:Obj},s₁.heap.get? b=some o→(∀es ep,o.data≠ .seq es ep)→o.cls≠ .none→H b=none:=fun{b o} e d1 d2=>by
  cases q:H b with
  |none=>rfl
  |some u=>
   rcases Hs b u q with⟨rfl,_,_⟩|⟨t,ht,rfl,_⟩
   · rw[ha]at e;cases e;exact absurd rfl (d1 _ _)
   · rw[hT.at' t ht]at e;cases e;exact absurd rfl d2
 have nsK:∀ {b:Addr} {m:Str→Option Value},s₁.heap.Ns b m→(kF s₁.heap H).Ns b m:=fun{b m} ⟨o,es,ep,e,d,r⟩=>by
  refine⟨o,es,ep,lJ e ?_,d,r⟩
  cases q:H b with
  |none=>rfl
  |some u=>
   rcases Hs b u q with⟨rfl,_,_⟩|⟨t,ht,rfl,_⟩
   · rw[ha]at e;cases e;cases d
   · rw[hT.at' t ht]at e;cases e;cases d
 have hKb:K.In (kF s₁.heap H):=fun b o e=>lJ (KX b o e) (by
  cases q:H b with
  |none=>rfl
  |some u=>
   rcases Hs b u q with⟨rfl,z,_⟩|⟨t,ht,rfl,_⟩
   · rw[z]at e;cases e
   · rw[hT.no t ht]at e;cases e)
 obtain⟨bm,ob,b1,b2,b3,b4,b5,b6⟩:=hbm
 have hbmK:(kF s₁.heap H).get? bm=some ob:=lJ b3 (dictNo b3 (fun es ep z=>by rw[b6]at z;cases z) (fun z=>by rw[b4]at z;cases z))
 have seK:(kF s₁.heap H).NoSeer:=by
  obtain⟨⟨m1,a1,a2⟩,⟨m2,c1,c2⟩,⟨m3,d1,d2⟩,⟨mg',bm',ob',e1,e2,e3,e4,e5⟩⟩:=hse
  refine⟨⟨m1,nsK a1,a2⟩,⟨m2,nsK c1,c2⟩,⟨m3,nsK d1,d2⟩,⟨mg',bm',ob',nsK e1,e2,lJ e3 ?_,e4,e5⟩⟩
  cases q:H bm' with
  |none=>rfl
  |some u=>
   rcases Hs bm' u q with⟨rfl,_,_⟩|⟨t,ht,rfl,_⟩
   · rw[ha]at e3;cases e3;exact absurd (show Value.type "list"=Value.type "module" from e4) (by intro z;injection z with z;exact absurd z (by decide))
   · rw[hT.at' t ht]at e3;cases e3;cases e4
 have hM:Mod K mg (kF s₁.heap H):=⟨hKb,nsK hns,⟨mb,nsK hb,hbb⟩,let⟨mc,h1,h2⟩:=hlim;⟨mc,nsK h1,h2⟩,seK,⟨bm,ob,b1,b2,hbmK,b4,b5,b6⟩⟩
 have e0:nR P w K mg (kF s₁.heap H) callerA [] s₁ H:=⟨rfl,hM,fun b o e=>Az e,Nat.le_of_eq (yj _ _),trivial,fun b hb=>absurd (show b∈([]:List Addr)from hb) (by simp),aH,.of_eq hg,hgt⟩
 refine codeAny_mono ((F _ hKb (nsK hns)).run callerA [] s₁ H ⟨[.ref a],[]⟩ [.ref a] [.ref a] _ _ hr e0 (hbind s₁ (.ref a)) (.cons rfl .nil) (hsp H hE)) fun r s' h=>?_
 cases r with
 |error e=>exact False.elim h
 |ok fl=>
  cases fl with
  |next=>exact False.elim h
  |brk=>exact False.elim h
  |cont=>exact False.elim h
  |ret u=>
   obtain⟨v,H',os,bare,un,hok',r',q⟩:=h
   have q':v= .bl true:=q
   subst q'
   obtain rfl:u=Value.bool true:=r'
   have noF:∀b:Addr,b∉kI ([]:List Env):=fun b z=>absurd (show b∈([]:List Addr)from z) (by simp)
   refine⟨rfl,⟨fun b o e=>?_,fun b o e=>un.there b o e (by simp)⟩,os,bare⟩
   cases q:H b with
   |none=>exact .inl (un.keep b o e q (noF b) (by simp))
   |some u=>
    rcases Hs b u q with⟨rfl,_,rfl⟩|⟨t,ht,rfl,rfl⟩
    · obtain⟨e2,_⟩:=hok' b _ (un.jX b _ _ q)
      rw[ha]at e;cases e
      exact .inl e2
    · obtain⟨more,e1⟩:=un.j6 _ _ q
      have e2:s'.heap.get? t.2=some {cls:= .none,data:= .fields (#[]++more)}:=hok' _ _ e1
      have e3:=hT.at' t ht
      rw[e3]at e;cases e
      have C:PySem.W.CodeHd s₁.heap t.1 t.2:=PySem.W.codeHd_of_K KX (hT.hd t ht)
      exact .inr (.inl ⟨(C.tab e3).isCodeTable,rfl,#[],more,rfl,e2⟩)
theorem Ei{l:PySem.W.OpenLaw}{n k:Nat}{q:Program}{loose:List Str}{XP:(Str→Option Value)→Heap→Prop}{YP:World→Heap→Prop}{d:DefRec}{K:Params→PySem.W.Frag}{sp:World→Sp}{x:Str}{ts:List (Addr×Addr)}
 (hn:l.most=some n) (hn2:n≤sizeLine) (hdf:d.params.defaults=[]) (hr:cq k callerA) (hq:importsNone q=true) (hgt:l.prog.given.tree=none)
 (hY:∀(w:World) (h:Heap),YP w h→(K w.params).In h∧zC (K w.params) ts h)
 (F:∀(w:World) (mg:Str→Option Value) (fa:Addr) (h:Heap),(K w.params).In h→h.Ns mainGlobals mg→mg d.name=some (.ref fa)→
   ∃fd:FuncData,(∀(s:Shared) (u:Value),BindsTo s fd ⟨[u],[]⟩ [(x,u)])∧
    ∀base:Heap,(K w.params).In base→base.Ns mainGlobals mg→ax l.prog w (K w.params) mg base (fun _ _ _ _ _ _=>False) k fa fd [x] (sp w))
 (hsp:∀(w:World) (H:Hp) (a:Addr) (ns:List Int),ns.length≤n→Entry (K w.params) ts a ns H→sp w [.ref a] H (fun v _=>v= .bl true) fun _ _ _=>False):
 PySem.W.WalkO q loose XP YP l.row.toRowW d [] (fun f vs=>PySem.call f vs):=by
 refine Att.uF hn hdf fun w s₀ s₁ mg mb fa o pm cd doc a vs ns G Y ho hd hcd hmg hobj hints hlen hg=>?_
 obtain⟨KX,hT⟩:=hY w _ Y
 obtain⟨fd,hb,hF⟩:=F w mg fa _ KX G.T.g hmg
 exact yc KX G.T.g G.T.b G.T.builtins G.T.nolimit (G.T.seer hq) hgt G.T.bmain hT hg hobj hints (Nat.le_trans hlen hn2) hr hF hb fun H hE=>hsp w H a ns hlen hE
end L2
namespace L3
open PySem PySem.Spec L2
open PyProof.Rows hiding St
section
variable {X:Cx}{pins:List (Addr×Obj)}{σ:L2.St}{H:Hp}{s:Shared}{p:Addr}{o o':Obj}{h':Heap}
theorem iQ{t':Nat}(I:Inv X pins σ H s)(hd:∀v,o.data≠ .cell v)(hfr:o.isFreed=false:=by rfl):Inv X (pins++[(s.heap.objs.size,o)]) σ H {s with heap:=s.heap.push o,toks:=t'}:=by
 have I':=I.kept (h':=s.heap.push o) (t':=t') (fun b u e=>Heap.get?_push_of_some _ e)
 refine I'.mQ fun q hq=>?_
 rcases List.mem_append.mp hq with hq|hq
 · exact I'.pin q (List.mem_append_right _ hq)
 · have e:q=(s.heap.objs.size,o):=by simpa using hq
   subst e
   exact⟨Heap.get?_push_size _ hfr,I.aH.fresh (Nat.le_refl _),Nat.ne_of_gt I.lt,I.C6 (Nat.le_refl _),hd⟩
theorem eM(I:Inv X (pins++[(p,o)]) σ H s):s.heap.get? p=some o∧H p=none∧p≠X.env.locals∧p∉X.fs∧∀v,o.data≠ .cell v:=
 I.pin (p,o) (List.mem_append_right _ (List.mem_append_right _ (List.mem_singleton.mpr rfl)))
theorem tQ(I:Inv X (pins++[(p,o)]) σ H s):∀x c,X.env.cells.lookup x=some c→c≠p:=fun x c e z=>by
 obtain⟨v,u,hu,hd⟩:=I.cell x c e
 obtain⟨h1,_,_,_,h5⟩:=eM I
 rw[z,h1]at hu;cases hu
 exact h5 v hd
theorem j_{t':Nat}(I:Inv X (pins++[(p,o)]) σ H s)(hs:Heap.SameBut p s.heap h')(hn:h'.get? p=some o')(hd:∀v,o'.data≠ .cell v)(h0:X.s₀.heap.objs.size≤p)(hp:∀q∈X.pn++pins,q.1≠p):
 Inv X (pins++[(p,o')]) σ H {s with heap:=h',toks:=t'}:=by
 obtain⟨_,n,neL,nfs,_⟩:=eM I
 have I0:Inv X pins σ H s:=I.fL
 have I1:=I0.turned (t':=t') (h':=h') (it:=p) (fun b u hb e=>(hs.2 b hb).trans e) n neL (.inr h0) (tQ I) hp
 refine I1.mQ fun q hq=>?_
 rcases List.mem_append.mp hq with hq|hq
 · exact I1.pin q (List.mem_append_right _ hq)
 · have e:q=(p,o'):=by simpa using hq
   subst e
   exact⟨hn,n,neL,nfs,hd⟩
theorem xG{u:HO}(I:Inv X (pins++[(p,o)]) σ H s)(h0:X.s₀.heap.objs.size≤p)(hp:∀q∈X.pn++pins,q.1≠p)(new:cR X.prog X.w (upd H p u) s.heap p u):Inv X pins σ (upd H p u) s:=by
 obtain⟨e0,n,neL,nfs,_⟩:=eM I
 have ne:∀ {b:Addr} {w:HO},H b=some w→b≠p:=fun e=>cQ e n
 have ne0:∀ {b:Addr} {w:Obj},X.s₀.heap.get? b=some w→b≠p:=fun e=>Nat.ne_of_lt (Nat.lt_of_lt_of_le (Heap.lt_size e) h0)
 refine⟨I.ok,I.os,I.bare,⟨I.base.keep,I.base.slot,fun b w e q hx=>?_,I.base.there,fun b xs e=>?_,fun b w y e=>?_,fun b ps e=>?_⟩,I.loc,I.cell,?_,fun x c e=>?_,fun q hq=>?_,fun b w e=>?_,I.len⟩
 · rw[aB (ne0 e)];exact I.base.free b w e q hx
 · have:=I.base.kB b xs e;rw[aB (ne this)];exact this
 · have:=I.base.jX b w y e;rw[aB (ne this)];exact this
 · obtain⟨m,q⟩:=I.base.j6 b ps e
   exact⟨m,by rw[aB (ne q)];exact q⟩
 · rw[aB (Ne.symm neL)];exact I.free
 · rw[aB (tQ I x c e)];exact I.gd x c e
 · have hq':q∈X.pn++(pins++[(p,o)]):=by
    rcases List.mem_append.mp hq with z|z
    · exact List.mem_append_left _ z
    · exact List.mem_append_right _ (List.mem_append_left _ z)
   obtain⟨a1,a2,a3⟩:=I.pin q hq'
   exact⟨a1,by rw[aB (hp q hq)];exact a2,a3⟩
 · by_cases hb:b=p
   · subst hb;rw[aT]at e;cases e;exact new
   · rw[aB hb]at e
     exact(I.aH b w e).ky (fun _ _ _ q=>q) (fun c q=>by rw[aB (ne q)];exact q) fun c xs q=>by rw[aB (ne q)];exact q
end
def jv(X:Cx)(pins:List (Addr×Obj))(σ:L2.St)(R:Hp→Prop)(own:List (Addr×Obj))(s:Shared):Prop:=∃H,Inv X (pins++own) σ H s∧R H
section
variable {X:Cx}{pins:List (Addr×Obj)}{σ:L2.St}{R:Hp→Prop}{s:Shared}{A:Around}{E:Value→Shared→Prop}{a kS:Addr}{e1 e:Nat}{keys:Array Value}{P:PySem.Fin→Shared→Prop}
structure Own(X:Cx)(pins:List (Addr×Obj))(p:Addr):Prop where
 ge:X.s₀.heap.objs.size≤p
 ne:∀q∈X.pn++pins,q.1≠p
theorem mH{H:Hp}(I:Inv X pins σ H s):Own X pins s.heap.objs.size:=⟨I.sz,fun q hq=>Nat.ne_of_lt (Heap.lt_size (I.pin q hq).1)⟩
theorem tW{p:Addr}{q:Addr×Obj}(h:Own X pins p)(hq:q.1≠p):Own X (pins++[q]) p:=⟨h.ge,fun r hr=>by
 rcases List.mem_append.mp hr with z|z
 · exact h.ne r (List.mem_append_left _ z)
 · rcases List.mem_append.mp z with z|z
   · exact h.ne r (List.mem_append_right _ z)
   · have e:r=q:=by simpa using z
     rw[e];exact hq⟩
theorem td{x y:Addr×Obj}(J:jv X pins σ R [x,y] s):∃H,Inv X ((pins++[x])++[y]) σ H s∧R H:=by
 obtain⟨H,I,r⟩:=J
 exact⟨H,by rw[List.append_assoc];exact I,r⟩
theorem yg{x y:Addr×Obj}{H:Hp}(I:Inv X ((pins++[x])++[y]) σ H s)(r:R H):jv X pins σ R [x,y] s:=⟨H,by rw[List.append_assoc]at I;exact I,r⟩
theorem sY{st:SortSt}(J:jv X pins σ R [(a,seqObj "list" #[] e1),(kS,seqObj "list" keys e)] s)(ha:Own X pins a)(hk:Own X pins kS)(hka:kS≠a)(hz1:keys.size≤sizeLine)(hz2:(arrOf st).size≤sizeLine)(hf:failedOf st=none)
 (h:∀s' c,jv X pins σ R [(a,seqObj "list" ((arrOf st).map (·.2)) c)] s'→P (.done (.ret .none)) s'):
 wpAny (model X.prog X.w) A (PyProof.Rows.ksk_tail a false e1 (.ref kS) st) P E s:=by
 obtain⟨H,I,r⟩:=td J
 have k1:=(eM I).1
 have s1:=Heap.SameBut.update s.heap kS (Obj.mapSeq fun _=>(#[]:Array Value))
 have I1:=j_ (t':=s.toks) I s1 (get?_update_seq k1 fun _=> #[]) (fun v z=>by cases z) hk.ge (tW hk hka.symm).ne
 have I2:Inv X (pins++[(a,seqObj "list" #[] e1)]) σ H {s with heap:=s.heap.update kS (Obj.mapSeq fun _=>(#[]:Array Value)),toks:=s.toks}:=I1.fL
 have a1:=(eM I2).1
 have s2:=Heap.SameBut.update (s.heap.update kS (Obj.mapSeq fun _=>(#[]:Array Value))) a (Obj.mapSeq fun _=>(arrOf st).map (·.2))
 have I3:=j_ (t':=s.toks) I2 s2 (get?_update_seq a1 fun _=>(arrOf st).map (·.2)) (fun v z=>by cases z) ha.ge ha.ne
 unfold ksk_tail
 simp only[Bool.false_eq_true,if_false]
 refine wpAny_bind (listUpdate_at k1 rfl ?_ hz1 (Nat.zero_le _))
 refine wpAny_bind (wpAny_letGo ?_)
 refine wpAny_bind (seqEpoch_at a1 rfl ?_)
 refine wpAny_bind (listUpdate_at a1 rfl ?_ (Nat.zero_le _) (Nat.le_succ_of_le (by rw[Array.size_map];exact hz2)))
 rw[hf]
 simp only[bne_self_eq_false,Bool.false_eq_true,if_false]
 exact wpAny_pure (h _ _ ⟨H,I3,r⟩)
def vC(kz:List Int)(vs out:List Value):Prop:=
 ∃ps:List (Int×Value),ps.Perm (kz.zip vs)∧out=ps.map Prod.snd∧ps.Pairwise fun p q=>p.1<q.1∨(p.1=q.1∧numOf p.2<numOf q.2)
theorem vo{kz:List Int}{vs:List Value}(hk:IntsAre keys.toList kz){xs:Array Keyed}(hp:xs.Perm (keys.zip vs.toArray))(hs:gZ xs xs.size):vC kz vs (xs.map (·.2)).toList:=by
 have hl:xs.toList.Perm (keys.toList.zip vs):=by rw[←ksk_zip];exact Array.perm_iff_toList_perm.mp hp
 refine⟨xs.toList.map fun p=>(numOf p.1,p.2),?_,?_,?_⟩
 · have e2:(keys.toList.zip vs).map (fun p:Keyed=>(numOf p.1,p.2))=kz.zip vs:=by
    rw[←hk.nums,List.zip_map_left]
    exact List.map_congr_left fun⟨x,y⟩ _=>rfl
   rw[←e2]
   exact hl.map _
 · rw[Array.toList_map,List.map_map];rfl
 · rw[List.pairwise_iff_getElem]
   intro i j hi hj hij
   have hi':i<xs.size:=by simpa using hi
   have hj':j<xs.size:=by simpa using hj
   have q:=hs i j hij hj'
   unfold jl Jn at q
   rw[K_eq hi',K_eq hj',getElem?_pos xs i hi',getElem?_pos xs j hj']at q
   simpa using q
theorem Bd{kz:List Int}{vs:List Value}(J:jv X pins σ R [(a,seqObj "list" #[] e1),(kS,seqObj "list" keys e)] s)(ha:Own X pins a)(hk:Own X pins kS)(hka:kS≠a)(hi:IntsAre keys.toList kz)(hl:kz.length=vs.length)(h64:vs.length<64)
 (hup:vs.Pairwise fun x y=>numOf x<numOf y)
 (h:∀s' out c,jv X pins σ R [(a,seqObj "list" out c)] s'→vC kz vs out.toList→P (.done (.ret .none)) s'):
 wpAny (model X.prog X.w) A (ksk_end a false vs.toArray e1 (.ref kS) keys) P E s:=by
 have hsz:keys.size=vs.length:=by have:=hi.length;rw[Array.length_toList]at this;omega
 have hzs:(keys.zip vs.toArray).size=vs.length:=by rw[Array.size_zip,hsz,List.size_toArray,Nat.min_self]
 have hbig:vs.length≤sizeLine:=Nat.le_trans (Nat.le_of_lt h64) (by decide)
 have hta:gE (keys.zip vs.toArray).size (keys.zip vs.toArray) 1:=fun i j hij _ hj=>by
  rw[hzs]at hj
  have e1:(keys.zip vs.toArray)[i]?=some (keys.toList[i]'(by rw[Array.length_toList];omega),vs[i]'(by omega)):=by
   rw[←Array.getElem?_toList,ksk_zip,List.getElem?_eq_getElem (by rw[List.length_zip,Array.length_toList];omega),List.getElem_zip]
  have e2:(keys.zip vs.toArray)[j]?=some (keys.toList[j]'(by rw[Array.length_toList];omega),vs[j]'(by omega)):=by
   rw[←Array.getElem?_toList,ksk_zip,List.getElem?_eq_getElem (by rw[List.length_zip,Array.length_toList];omega),List.getElem_zip]
  unfold Jn
  rw[e1,e2]
  exact List.pairwise_iff_getElem.mp hup i j (by omega) (by omega) hij
 unfold ksk_end
 simp only[Bool.false_eq_true,if_false]
 by_cases h2:vs.toArray.size<2
 · rw[if_pos h2,if_pos h2]
   refine wpAny_bind (wpAny_pure ?_)
   rw[StateT.run_pure]
   refine wpAny_bind (wpAny_pure ?_)
   refine sY (st:=SortSt.mk' general' (keys.zip vs.toArray) #[] 7 none) J ha hk hka (by omega) (by show(keys.zip vs.toArray).size≤_;omega) rfl fun s' c J'=>h s' _ c J' ?_
   refine vo hi (Array.Perm.refl _) fun i j hij hj=>?_
   have hj':j<(keys.zip vs.toArray).size:=hj
   rw[List.size_toArray]at h2
   omega
 · rw[if_neg h2,if_neg h2]
   rw[List.size_toArray]at h2
   rw[ksk_kind hi (by omega)]
   refine wpAny_bind (wpAny_pure ?_)
   refine wpAny_bind (wpAny_mono (x9 (a₀:=keys.zip vs.toArray) (st:=SortSt.mk' oneType' (keys.zip vs.toArray) #[] 7 none)
    (Q:=fun _ st'=>(arrOf st').Perm (keys.zip vs.toArray)∧failedOf st'=none∧gZ (arrOf st') (keys.zip vs.toArray).size)
    (ksk_intKeys hi) ⟨Array.Perm.refl _,rfl,rfl,rfl⟩ hta (by omega) (by omega) fun st' b1 b2 b3=>⟨b1,b2,b3⟩) ?_ fun _ _ z=>z)
   rintro⟨⟨⟩,st'⟩ s' ⟨rfl,hp,hf,hs⟩
   have hz2:=hp.size_eq
   refine sY (st:=st') J ha hk hka (by omega) (by rw[hz2];omega) hf fun s' c J'=>h s' _ c J' (vo hi hp (by rw[hz2];exact hs))
theorem yJ{f:Value}{kz:List Int}{vs:List Value}(J:jv X pins σ R [(a,seqObj "list" #[] e1),(kS,seqObj "list" #[] 0)] s)(ha:Own X pins a)(hk:Own X pins kS)(hka:kS≠a)(hl:kz.length=vs.length)(h64:vs.length<64)
 (hup:vs.Pairwise fun x y=>numOf x<numOf y)
 (turn:∀(i:Nat) (v:Value) (k:Int),vs[i]?=some v→kz[i]?=some k→∀(own:List (Addr×Obj)) (s:Shared),jv X pins σ R own s→wpAny (model X.prog X.w) A (call f [v]) (fun u s'=>(∃t,u= .int k t)∧jv X pins σ R own s') (fun _ _=>False) s)
 (h:∀s' out c,jv X pins σ R [(a,seqObj "list" out c)] s'→vC kz vs out.toList→P (.done (.ret .none)) s'):
 wpAny (model X.prog X.w) A (ksk_rest a f false vs.toArray e1 (.ref kS)) P E s:=by
 have hbig:vs.length≤sizeLine:=Nat.le_trans (Nat.le_of_lt h64) (by decide)
 unfold ksk_rest
 refine wpAny_bind (wpAny_rule ?_)
 first
  |rw[List.forIn_toArray]
  |(rw[←Array.forIn_toList];simp only[List.toList_toArray])
  |rw[←Array.forIn_toList]
 refine wpAny_bind (ksk_fold (fun i s'=>∃kA e,jv X pins σ R [(a,seqObj "list" #[] e1),(kS,seqObj "list" kA e)] s'∧IntsAre kA.toList (kz.take i)) vs 0 s ⟨#[],0,J,by simpa using IntsAre.nil⟩ ?st ?en)
 case st=>
  rintro j x s' hx ⟨kA,e,J',hk'⟩
  simp only[Nat.zero_add]at hk'⊢
  have hj:j<vs.length:=(List.getElem?_eq_some_iff.mp hx).1
  have hkj:kz[j]?=some (kz[j]'(by omega)):=List.getElem?_eq_getElem _
  have hz:kA.size≤vs.length:=by
   have:=hk'.length
   rw[Array.length_toList,List.length_take]at this
   omega
  refine wpAny_bind (wpAny_attempt (wpAny_mono (turn j x _ hx hkj _ s' J') (fun v s2 he=>?_) fun _ _ z=>z.elim))
  obtain⟨⟨t,rfl⟩,J2⟩:=he
  obtain⟨H,I,r⟩:=td J2
  have k1:=(eM I).1
  have s1:=Heap.SameBut.update s2.heap kS (Obj.mapSeq (·.push (.int (kz[j]'(by omega)) t)))
  have I1:=j_ (t':=s2.toks) I s1 (get?_update_seq k1 (·.push (.int (kz[j]'(by omega)) t))) (fun v z=>by cases z) hk.ge (tW hk hka.symm).ne
  refine wpAny_bind (listUpdate_at k1 rfl ?_ (by omega) (Nat.le_trans (Nat.le_of_eq (Array.size_push ..)) (by omega)))
  refine wpAny_pure ⟨rfl,_,_,yg I1 r,?_⟩
  have ek:kz.take (j+1)=kz.take j++[kz[j]'(by omega)]:=by rw[List.take_add_one,hkj];simp
  rw[ek,Array.toList_push]
  exact ksk_snoc hk'
 case en=>
  rintro s' ⟨kA,e,J',hk'⟩
  rw[show kz.take (0+vs.length)=kz from List.take_of_length_le (by omega)]at hk'
  obtain⟨H,I,r⟩:=td J'
  refine wpAny_bind (listItems_at (eM I).1 rfl ?_)
  exact Bd J' ha hk hka hk' hl h64 hup h
theorem wy{f:Addr}{l:Addr}{kz:List Int}{vs:List Value}{H:Hp}{Q:Value→Shared→Prop}(I:Inv X pins σ H s)(r:R H)(hli:s.heap.IsList l vs.toArray)(hl:kz.length=vs.length)(h64:vs.length<64)
 (hup:vs.Pairwise fun x y=>numOf x<numOf y)
 (turn:∀(i:Nat) (v:Value) (k:Int),vs[i]?=some v→kz[i]?=some k→∀(own:List (Addr×Obj)) (s:Shared),jv X pins σ R own s→wpAny (model X.prog X.w) A.in1.in1 (call (.ref f) [v]) (fun u s'=>(∃t,u= .int k t)∧jv X pins σ R own s') (fun _ _=>False) s)
 (h:∀D s' out c,Own X pins D→jv X pins σ R [(D,seqObj "list" out c)] s'→vC kz vs out.toList→Q (.ref D) s'):
 wpAny (model X.prog X.w) A (call (.builtin "sorted") [.ref l] [(Str.ofString "key",.ref f)]) Q E s:=by
 have hbig:vs.length≤sizeLine:=Nat.le_trans (Nat.le_of_lt h64) (by decide)
 refine call_function_entry_kw kind_sorted plain_sorted entry_sorted (ksk_s1 _ _) ?_
 unfold Builtin.«sorted»
 refine wpAny_bind (m:=checkCount "sorted" 1 1 _) (wpAny_pure ?_)
 refine wpAny_bind (collect_list hli ?_ hbig)
 have I1:=iQ (o:=seqObj "list" #[] 0) (t':=s.toks) I (fun v z=>by cases z)
 have s1:=Heap.SameBut.update (s.heap.push (seqObj "list" #[] 0)) s.heap.objs.size (Obj.mapSeq (· ++vs.toArray))
 have I2:=j_ (t':=s.toks) I1 s1 (get?_update_seq (eM I1).1 (· ++vs.toArray)) (fun v z=>by cases z) (mH I).ge (mH I).ne
 have I3:Inv X pins σ H {s with heap:=(s.heap.push (seqObj "list" #[] 0)).update s.heap.objs.size (Obj.mapSeq (· ++vs.toArray)),toks:=s.toks}:=I2.fL
 refine wpAny_bind (wpAny_newList ?_ hbig)
 generalize hs3:({s with heap:=(s.heap.push (seqObj "list" #[] 0)).update s.heap.objs.size (Obj.mapSeq (· ++vs.toArray))}:Shared)=s3
 have I3':Inv X pins σ H s3:=by rw[←hs3];exact I3
 have oD:=mH I3'
 have I4:=iQ (o:=seqObj "list" vs.toArray 0) (t':=s3.toks) I3' (fun v z=>by cases z)
 have hD:=(eM I4).1
 refine wpAny_bind (wpAny_holding (wpAny_call_entry_kw slot_list_sort ⟨_,hD,rfl⟩ entry_list_sort ?body (ksk_l1 _ _)))
 case body=>
  show wpAny (model X.prog X.w) A.in1.in1 (Builtin.«list.sort» ⟨[.ref s3.heap.objs.size],[(Str.ofString "key",.ref f)]⟩) _ _ _
  rw[ksk_t1]
  unfold ksk_tree
  refine wpAny_bind (listItems_at hD rfl ?_)
  have s5:=Heap.SameBut.update (s3.heap.push (seqObj "list" vs.toArray 0)) s3.heap.objs.size (Obj.mapSeq fun _=>(#[]:Array Value))
  have I5:=j_ (t':=s3.toks) I4 s5 (get?_update_seq hD fun _=> #[]) (fun v z=>by cases z) oD.ge oD.ne
  have hD5:=(eM I5).1
  refine wpAny_bind (listUpdate_at hD rfl ?_ (by rw[List.size_toArray];exact hbig) (Nat.zero_le _))
  refine wpAny_bind (seqEpoch_at hD5 rfl ?_)
  refine wpAny_bind (wpAny_newTuple ?_ (by show vs.length≤_;exact hbig))
  have I6:=(iQ (o:=seqObj "tuple" vs.toArray 0) (t':=s3.toks) I5 (fun v z=>by cases z)).fL
  refine wpAny_bind (wpAny_newList ?_ (Nat.zero_le _))
  have ok:=mH I6
  have I7:=iQ (o:=seqObj "list" #[] 0) (t':=s3.toks) I6 (fun v z=>by cases z)
  refine wpAny_holding ?_
  have okp:Own X pins _:=⟨ok.ge,fun q hq=>ok.ne q (by
   rcases List.mem_append.mp hq with z|z
   · exact List.mem_append_left _ z
   · exact List.mem_append_right _ (List.mem_append_left _ z))⟩
  refine yJ (yg I7 r) oD okp (fun z=>ok.ne (s3.heap.objs.size,_) (List.mem_append_right _ (List.mem_append_right _ (List.mem_singleton.mpr rfl))) z.symm) hl h64 hup turn fun s' out c J' so=>⟨_,rfl,?_⟩
  exact wpAny_pure ⟨_,rfl,h _ s' out c oD J' so⟩
end
end L3
namespace L3
open PySem PySem.Spec L2
open PyProof.Rows hiding St
structure jF(X:Cx)(scope:Scope)(Nc:List Str)(fr:List (Option Nat))(p:Str):Prop where
 sc:bj X scope Nc fr
 xa:∀x∈scope.names,x.2≠ .cell
 co:scope.isCoroutine=false
 gen:scope.isGenerator=false
 p0:Nc[0]?=some p
 f0:fr[0]?=some none
 loc:scope.names.lookup p=some .local
abbrev wA(X:Cx)(scope:Scope)(qual:Str)(f c:Addr)(s:Shared):Env:=PySem.W.envX qual scope s.heap.objs.size f (.ref c) (cG X.env.cells scope.names [])
def wQ(X:Cx)(scope:Scope)(Nc:List Str)(qual:Str)(f c:Addr)(s:Shared)(H:Hp):Cx:=
 {X with A:=X.A.in1.in1.deeper (wA X scope qual f c s),N:=Nc,s₀:=s,H₀:=H,env:=wA X scope qual f c s,outer:=X.stack,stack:=wA X scope qual f c s::X.stack,ex:=[],fn:=fun _=>false,calm:=true,pn:=[],xe:=fun _ _=>False}
section
variable {X:Cx}{scope:Scope}{Nc:List Str}{fr:List (Option Nat)}{p qual:Str}{f c:Addr}{pins:List (Addr×Obj)}{σ:L2.St}{H:Hp}{s:Shared}
theorem CQ(S:jF X scope Nc fr p)(I:Inv X pins σ H s)(hc:X.calm=true):(wQ X scope Nc qual f c s H).Ok where
 mod:=I.ok.mod
 kind:=S.sc.kind
 glob:=rfl
 blt:=rfl
 above:=Nat.le_refl _
 inj:=fun x y a h1 h2=>I.ok.inj x y a (cv _ [] (fun _ _ e=>by cases e) x a h1) (cv _ [] (fun _ _ e=>by cases e) y a h2)
 has:=fun x hx=>by
  have hx':scope.names.lookup x=some .cell∨scope.names.lookup x=some .free:=hx
  rcases hx' with hx|hx
  · exact absurd rfl (S.xa _ (PySem.mem_of_lookup hx))
  · exact gj scope.names [] (I.ok.has x (S.sc.free _ (PySem.mem_of_lookup hx) rfl)) (.inl (PySem.mem_of_lookup hx))
 sj:=fun x a hf _=>by cases hf
 hd:=fun _=>I.ok.hd hc
 frames:=Around.frames_deeper (by show X.A.frames=_;exact I.ok.frames)
 uH:= .inr ⟨rfl,rfl⟩
 xM:=fun b hb=>by cases hb
 bs:=I.bs
 my:=Nat.le_trans I.ok.my I.sz
 oi:=fun b o e hb=>by cases hb
 n_:=fun b hb=>by cases hb
 ik:=I.stack
 oW:=I.pN
 gt:=I.ok.gt
theorem Bh{h':Heap}{t':Nat}{v:V}{u:Value}(S:jF X scope Nc fr p)(I:Inv X pins σ H s)(hc:X.calm=true)(r:RelV v u)(hn:h'.Ns s.heap.objs.size (fun x=>[(p,u)].reverse.lookup x))
 (k:∀b o,s.heap.get? b=some o→h'.get? b=some o):Inv (wQ X scope Nc qual f c s H) [] ((σC fr σ).set 0 (some v)) H {s with heap:=h',toks:=t'} where
 ok:=CQ S I hc
 os:=rfl
 bare:=I.bare
 base:=Un.kept k
 loc:=⟨_,hn,fun i x w h1 h2 h3=>by
  by_cases hi:i=0
  · subst hi
    have hp:=S.p0
    have e:p=x:=Option.some.inj (hp.symm.trans h1)
    subst e
    have hl:0<(σC fr σ).length:=by
     have:=(List.getElem?_eq_some_iff.mp h2).1
     rw[List.length_set]at this;exact this
    rw[List.getElem?_set_self hl]at h2
    cases h2
    exact⟨u,r,.inl ⟨S.loc,by simp⟩⟩
  · rw[List.getElem?_set_ne (Ne.symm hi)]at h2
    obtain⟨j,q1,q2⟩:=uS h2
    obtain⟨n1,n2,n3⟩:=S.sc.map i j x h1 q1
    obtain⟨m,hm,hl⟩:=I.loc
    obtain⟨u',r',lk⟩:=hl j x w n1 q2 (n3.elim (fun z=> .inr (.inl z)) fun z=> .inr (.inr z))
    refine⟨u',r',?_⟩
    rcases lk with⟨z,_⟩|⟨_,a,e,ic⟩
    · rcases n3 with y|y<;>(rw[y]at z;cases z)
    · obtain⟨a',e'⟩:=gj scope.names [] ⟨a,e⟩ (.inl (PySem.mem_of_lookup n2))
      have e2:=cv _ [] (fun _ _ e=>by cases e) x a' e'
      rw[e]at e2;cases e2
      exact .inr ⟨.inr n2,a,e',ic.keeps k⟩⟩
 cell:=fun x a h=>by
  obtain⟨v,q⟩:=I.cell x a (cv _ [] (fun _ _ e=>by cases e) x a h)
  exact⟨v,q.keeps k⟩
 free:=I.aH.fresh (Nat.le_refl _)
 gd:=fun x a h=>I.gd x a (cv _ [] (fun _ _ e=>by cases e) x a h)
 pin:=fun q hq=>by cases hq
 aH:=I.aH.kept k
 len:=by rw[List.length_set];unfold σC;rw[List.length_map];exact S.sc.len
theorem zd{R:Hp→Prop}{params:Arguments}{body:Expr}{tb:TE}{own:List (Addr×Obj)}{k:Int}{v:V}{u pm ctv:Value}(S:jF X scope Nc fr p)(hc:X.calm=true)(hr:X.A.depth<recursionLimit)
 (hb:∀(s:Shared) (H:Hp),PE (wQ X scope Nc qual f c s H) body tb)
 (hbind:∀(cl:List (Str×Addr)) (pm cd ct v:Value),bindArgs (PySem.W.kla_fn "<lambda>" qual params body scope cl pm cd ct) ⟨[v],[]⟩=pure [(p,v)])
 (r:RelV v u) (hf:(f,PySem.W.kla_obj "<lambda>" qual params body scope (cG X.env.cells scope.names []) pm c ctv)∈pins)
 (hcr:∀(H:Hp) (s:Shared),Inv X (pins++own) σ H s→R H→s.heap.CodeRec (.ref c) qual)
 (hq:∀H,R H→tb ((σC fr σ).set 0 (some v)) H fun x H'=>x= .int k∧R H') (J:jv X pins σ R own s):
 wpAny (model X.prog X.w) X.A.in1.in1 (call (.ref f) [u]) (fun u' s'=>(∃t,u'= .int k t)∧jv X pins σ R own s') (fun _ _=>False) s:=by
 obtain⟨H,I,rH⟩:=J
 have ho:=(I.pin _ (List.mem_append_right _ (List.mem_append_left _ hf))).1
 refine wpAny_call (PySem.W.kla_callFunE (fd:=PySem.W.kla_fn "<lambda>" qual params body scope (cG X.env.cells scope.names []) pm (.ref c) ctv) (by show X.A.depth<_;exact hr) ho rfl S.co S.gen rfl (hcr H s I rH) ?_)
 rw[hbind]
 refine wpAny_pure (wpAny_newFunctionEnv S.xa (fun y hy=>by
  have e:y=(p,u):=by simpa using hy
  rw[e];exact S.loc) (fun h₁ hns hsb=>?_) S.sc.kind)
 have hk:∀b o,s.heap.get? b=some o→h₁.get? b=some o:=fun b o e=>hsb.extBut b o (Nat.ne_of_lt (Heap.lt_size e)) (Heap.get?_push_of_some _ e)
 refine⟨I.nolimit.keeps hk,?_⟩
 show codeAny _ X.A.in1.in1 (.expr body (wA X scope qual f c s)) _ _
 refine PySem.W.kla_codeExpr (wpAny_mono (hb s H [] _ _ H _ (Bh S I hc r hns hk) (hq H rH)) (fun w s' he=>?_) fun e s' z=>False.elim z)
 obtain⟨x,H',I',rx,rfl,rH'⟩:=he
 exact⟨rx,H',I.vz (s':=s') (ch:=[]) I'.os I'.base I'.aH I'.bare (fun b z=>absurd z (by simp)),rH'⟩
theorem set_same{α:Type}:∀ {l:List α} {n:Nat} {x:α},l[n]?=some x→l.set n x=l
 | [],n,x,h=>by simp at h
 |a::l,0,x,h=>by simp at h;subst h;rfl
 |a::l,n+1,x,h=>by
  rw[List.set_cons_succ,set_same (n:=n) (by simpa using h)]
theorem zy{params:Arguments}{body:Expr}{lpos:Pos}{c0 T:Addr}{α:List (Option Addr)}{G F:Hp}{st:ae}{n0:Nat}{b:Bool}{E:Value→Shared→Prop}{Q:Value→Shared→Prop}(S:jF X scope Nc fr p)(hcode:X.env.code= .ref c0)(hC:PySem.W.codeHdIn X.K c0 T=true)
 (hdef:defaultsOf params X.env=([],[])) (hql:X.env.qual++"<lambda>"=qual) (I:Inv X pins σ H s) (Sp:bJ G F H) (SR:aL α st G) (hn0:st[n0]?=some (.tab T lpos qual b))
 (h:∀(f c:Addr) (ctv pm:Value) (G2 H2:Hp) (s2:Shared),Inv X (pins++[(f,PySem.W.kla_obj "<lambda>" qual params body scope (cG X.env.cells scope.names []) pm c ctv)]) σ H2 s2→Step α G α G2→bJ G2 F H2→aL α (st.set n0 (.tab T lpos qual true)) G2→
   (some c∉α∧∃o vs t,G2 c=some (.fo o (.own c))∧o.data= .fields vs∧vs[1]?=some (.str qual t))→Q (.ref f) s2):
 wpAny (model X.prog X.w) X.A (eval (.Lambda params body scope lpos) X.env) Q E s:=by
 refine PySem.W.kla_eval hdef ?_
 rw[hql]
 rcases SR.at' n0 _ hn0 with⟨z,_⟩|⟨a,ha,rfl,ps,gP,tr,cs⟩
 · cases z
 have hP:=I.aH a _ (Sp.get gP)
 have hP:s.heap.get? a=some (PySem.W.tabObj ps):=hP
 have hg:s.heap.Ns mainGlobals X.mg:=I.mod.glob.keeps I.bk
 obtain⟨bm,ob,b1,b2,b3,b4,b5,b6⟩:=I.mod.bmain
 have b3':=I.bk _ _ b3
 have hgP:mainGlobals≠a:=fun q=>by
  obtain⟨o,es,ep,e,hd,_⟩:=hg
  rw[q,hP]at e;cases e;cases hd
 have n1:bm≠mainGlobals:=fun q=>by
  obtain⟨o,es,ep,e,hd,_⟩:=hg
  rw[q,e]at b3';cases b3';rw[hd]at b6;cases b6
 have n2:bm≠a:=fun q=>by rw[q,hP]at b3';cases b3';cases b4
 have hB:s.heap.BuiltinsAt X.mg a:=⟨bm,ob,b1,b2,n1,n2,b3',b4,b5,b6⟩
 have hcl:closureFor scope X.env=pure (cG X.env.cells scope.names []):=jq fun x hx hk=>I.ok.has x.1 (S.sc.free x hx hk)
 have C:PySem.W.CodeHd s.heap c0 a:=PySem.W.codeHd_of_K I.fI hC
 rcases cs with⟨rfl,hnf⟩|⟨rfl,c,o,vs,t,q1,q2,q3,q4,q5⟩
 · refine PySem.W.kla_makeFunction hcl I.ok.glob hg hcode C hP tr hnf hgP hB fun c' ctv h' tk hx hge hlt hrec htb=>?_
   obtain⟨c2,oc,vs,t,e2,hoc,hd,hv⟩:=hrec
   cases e2
   have hHc:H c'=none:=I.aH.fresh hge
   have hGc:G c'=none:=(Sp.none hHc).1
   have hHa:H a=some (.h_ ps):=Sp.get gP
   have hac:a≠c':=cQ hHa hHc
   let ps':=ps++ #[rawInt lpos.line,rawInt lpos.col,.ref c']
   have nb:∀ {b:Addr},H b=none→b≠a:=fun e z=>by rw[z,hHa]at e;cases e
   have I1:Inv X pins σ (upd (upd H c' (.fo oc (.own c'))) a (.h_ ps')) {s with heap:=h',gens:=s.gens,drawn:=s.drawn,toks:=tk}:=by
    have old:∀ {b:Addr} {u:HO},H b=some u→b≠a→upd (upd H c' (.fo oc (.own c'))) a (.h_ ps') b=some u:=fun e n=>by rw[aB n,aB (cQ e hHc)];exact e
    refine I.step (ch:=[]) (fun _ z=>nomatch z) (fun b o _ _ _ e n=>hx b o (nb n) e) (fun b o _ _ _ e n=>⟨o.slots,hx b o (nb n) e⟩) (fun b o _ e n=>?_) (fun b o _ e=>?_) (fun b xs e=>?_) (fun b o u e=>?_) (fun b qs e=>?_) (fun m hm=>?_) (fun b u e=>?_) I.bare
    · rw[aB (nb n),aB (Nat.ne_of_lt (Nat.lt_of_lt_of_le (Heap.lt_size e) hge))];exact n
    · by_cases hb:b=a
      · exact⟨_,by rw[hb];exact htb⟩
      · exact⟨o,hx b o hb e⟩
    · exact old e fun z=>by rw[z,hHa]at e;cases e
    · exact old e fun z=>by rw[z,hHa]at e;cases e
    · by_cases hb:b=a
      · subst hb
        rw[hHa]at e;cases e
        exact⟨_,aT⟩
      · exact⟨#[],by rw[old e hb];simp⟩
    · obtain⟨o,es,ep,ho,r⟩:=hm
      exact⟨o,es,ep,hx _ o (nb I.free) ho,r⟩
    · by_cases hb:b=a
      · subst hb;rw[aT]at e;cases e;exact htb
      · rw[aB hb]at e
        by_cases hbc:b=c'
        · subst hbc;rw[aT]at e;cases e;exact⟨hoc,_,hoc⟩
        · rw[aB hbc]at e
          refine(I.aH b u e).ky (fun d w hd q=>hx d w ?_ q) (fun d q=>old q fun z=>by rw[z,hHa]at q;cases q) fun d xs q=>old q fun z=>by rw[z,hHa]at q;cases q
          rcases hd with rfl|hd
          · exact hb
          · intro z;rw[z,hHa]at hd;cases hd
   have I2:=iQ (o:=PySem.W.kla_obj "<lambda>" qual params body scope (cG X.env.cells scope.names []) ((X.mg "__name__").getD .none) c' ctv) (t':=tk) I1 (fun v z=>by cases z)
   have gP':upd G c' (.fo oc (.own c')) a=some (.h_ ps):=by rw[aB hac];exact gP
   refine h _ c' ctv _ (upd (upd G c' (.fo oc (.own c'))) a (.h_ ps')) _ _ I2 ((Step.laid hGc).trans (Step.write (List.mem_of_getElem? ha))) ((Sp.laid hHc).write gP') ((SR.laid hGc).write ha ⟨rfl,ps',aT,?_,.inr ⟨rfl,c',oc,vs,t,?_,SR.i_ hGc,?_,hd,hv⟩⟩) ⟨SR.i_ hGc,oc,vs,t,?_,hd,hv⟩
   · show TriplesOk (ps++ #[rawInt lpos.line,rawInt lpos.col,.ref c']).toList
     rw[Array.toList_append]
     exact TriplesOk_snoc _ _ _ _ tr
   · show codeAmong lpos (ps++ #[rawInt lpos.line,rawInt lpos.col,.ref c']).toList=_
     rw[Array.toList_append]
     exact codeAmong_snoc _ tr hnf
   · rw[aB hac.symm,aT]
   · rw[aB hac.symm,aT]
 · refine PySem.W.kla_makeFunctionHit hcl I.ok.glob hg hcode C hP tr q1 hB fun ctv h' tk hk hsz=>?_
   have I1:=I.kept (t':=tk) hk
   have I2:=iQ (o:=PySem.W.kla_obj "<lambda>" qual params body scope (cG X.env.cells scope.names []) ((X.mg "__name__").getD .none) c ctv) (t':=tk) I1 (fun v z=>by cases z)
   refine h _ c ctv _ G H _ I2 Step.refl Sp (by rw[set_same hn0];exact SR) ⟨q2,o,vs,t,q3,q4,q5⟩
end
def slt(p q:Int×Int):Prop:=p.1<q.1∨(p.1=q.1∧p.2<q.2)
def sN(n0:Nat)(T:Addr)(lpos:Pos)(qual:Str)(fr:List (Option Nat))(tb te:DE):DE:=fun σ st K=>te σ st fun d st1=>∃(ns ks:List Int) (b:Bool),d= .lst (ns.map .int)∧ns.length<64∧ns.Pairwise (· < ·)∧ks.length=ns.length∧
 st1[n0]?=some (.tab T lpos qual b)∧(∀(i:Nat) (n k:Int),ns[i]?=some n→ks[i]?=some k→tb ((fB fr σ).set 0 (some (.int n))) (st1.set n0 (.tab T lpos qual true)) fun v st2=>v= .int k∧st2=st1.set n0 (.tab T lpos qual true))∧
 ∀os:List (Int×Int),os.Perm (ks.zip ns)→os.Pairwise slt→K (.lst (os.map fun p=> .int p.2)) (st1.set n0 (.tab T lpos qual true))
theorem tV{α:List (Option Addr)}{H:Hp}:∀ {ns:List Int} {vs:List V},ay α H (ns.map D.int) vs→vs=ns.map V.int
 | [],vs,h=>by unfold ay at h;exact h
 |n::ns,vs,h=>by
  unfold ay at h
  obtain⟨v,r,rfl,h1,h2⟩:=h
  unfold Rep at h1
  rw[h1,tV h2];rfl
theorem sH{α:List (Option Addr)}{H:Hp}:∀(ns:List Int),ay α H (ns.map D.int) (ns.map V.int)
 | []=>by unfold ay;rfl
 |n::ns=>by unfold ay;exact⟨_,_,rfl,by unfold Rep;rfl,sH ns⟩
theorem sZ:∀ {ns:List Int} {us:List Value},Vals (ns.map V.int) us→IntsAre us ns
 | [],_,.nil=> .nil
 |n::ns,_,.cons ⟨t,rfl⟩ h=> .cons n t (sZ h)
section
variable {X:Cx}{scope:Scope}{Nc:List Str}{fr:List (Option Nat)}{p x qual:Str}{params:Arguments}{e body:Expr}{te tb:DE}{lpos kpos pos ppos:Pos}{c0 T:Addr}{n0:Nat}
theorem AA(S:jF X scope Nc fr p)(hc:X.calm=true)(hr:cq 2 X.A)(hcode:X.env.code= .ref c0)(hC:PySem.W.codeHdIn X.K c0 T=true)(hdef:defaultsOf params X.env=([],[]))(hql:X.env.qual++"<lambda>"=qual)
 (hbind:∀(cl:List (Str×Addr)) (pm cd ct v:Value),bindArgs (PySem.W.kla_fn "<lambda>" qual params body scope cl pm cd ct) ⟨[v],[]⟩=pure [(p,v)])
 (hb:∀(f c:Addr) (s:Shared) (H:Hp),PE (wQ X scope Nc qual f c s H) body (LE tb)) (ha:PA X [e] (LA (af te ao)))
 (hg:Gl X "sorted") (hm:X.mg "sorted"=none) (hv:bootBuiltins "sorted"=some (.builtin "sorted"))
 (he:backTo pos (starEach [e] X.env)=(false,eval e X.env)::backTo pos (starEach [] X.env):=by rfl) (hpl:(backTo pos (starEach [e] X.env)).any (·.1)=false:=by rfl):
 PE X (.Call (.Name "sorted" ppos) [e] [⟨some "key",.Lambda params body scope lpos,kpos⟩] pos) (LE (sN n0 T lpos qual fr tb te)):=by
 intro pins s σ H Q I h
 obtain⟨α,σd,st,K,G,F,Sp,RS,SR,t,k⟩:=h
 refine wpAny_Call_Name_kw (jR I hg hm hv ?_)
 refine callWith_kw ?_ he hpl
 let K1:DK:=fun d st1=>∃(ns ks:List Int) (b:Bool),d= .lst (ns.map .int)∧ns.length<64∧ns.Pairwise (· < ·)∧ks.length=ns.length∧
  st1[n0]?=some (.tab T lpos qual b)∧(∀(i:Nat) (n k:Int),ns[i]?=some n→ks[i]?=some k→tb ((fB fr σd).set 0 (some (.int n))) (st1.set n0 (.tab T lpos qual true)) fun v st2=>v= .int k∧st2=st1.set n0 (.tab T lpos qual true))∧
  ∀os:List (Int×Int),os.Perm (ks.zip ns)→os.Pairwise slt→K (.lst (os.map fun p=> .int p.2)) (st1.set n0 (.tab T lpos qual true))
 refine bF (ha pos pins s σ H (fun vs H1=>∃d v st1 α1 G1,vs=[v]∧K1 d st1∧Step α G α1 G1∧bJ G1 F H1∧aL α1 st1 G1∧Rep α1 G1 d v) I
  ⟨α,σd,st,fun ds st1=>match ds with| [d]=>K1 d st1|_=>False,G,F,Sp,RS,SR,t,fun ds st1 q α1 G1 H1 vs s1 P1 S1 r1=>?_⟩) fun us s1 ⟨vs,H1,I1,rv,d,v,st1,α1,G1,hvs,kd,s1',P1,S1,r1⟩=>?_
 · match ds,q,r1 with
   | [d],q,r1=>
     unfold ay at r1
     obtain⟨v,r,rfl,h1,h2⟩:=r1
     unfold ay at h2
     subst h2
     exact⟨d,v,st1,α1,G1,rfl,q,s1,P1,S1,h1⟩
 subst hvs
 obtain⟨ns,ks,b,rfl,h64,hup,hlen,hn0,hkey,hK⟩:=kd
 show wpAny _ _ (evalAll ((do let v ←eval (.Lambda params body scope lpos) X.env;standAt pos;pure v)::[])) _ _ s1
 refine wpAny_evalAll_cons (wpAny_bind (zy S hcode hC hdef hql I1 P1 S1 hn0 fun f c ctv pm G2 H2 s2 I2 st2 P2 S2 ⟨hc1,o,vs,tq,hc2,hc3,hc4⟩=>wpAny_bind (wpAny_standAt (wpAny_pure (wpAny_evalAll_nil ?_)))))
 have r2:=r1.step st2
 unfold Rep at r2
 obtain⟨l,xs,rfl,hl1,hl2,hl3⟩:=r2
 have exs:=tV hl3
 subst exs
 cases rv with
 |cons ru rn=>
  cases rn
  cases ru
  have hrd:Rd H2 l (.lst (ns.map V.int)):=by
   rcases hl2 with z|⟨w,z⟩
   · exact .inl (P2.get z)
   · exact .inr ⟨w,P2.get z⟩
  obtain⟨_,its,nn,vv,hobj⟩:=hrd.ok I2.aH
  have hints:=sZ vv
  have hlen2:=hints.length
  have key:∀(H':Hp),(∃α' G',Step α1 G2 α' G'∧bJ G' F H'∧aL α' (st1.set n0 (.tab T lpos qual true)) G')→H' c=some (.fo o (.own c)):=fun H' ⟨α',G',q1,q2,q3⟩=>q2.get (q1.ext c _ hc1 hc2)
  show wpAny _ _ (call (.builtin "sorted") [.ref l] [(Str.ofString "key",.ref f)]) _ _ _
  refine wy (X:=X) (pins:=pins++[(f,PySem.W.kla_obj "<lambda>" qual params body scope (cG X.env.cells scope.names []) pm c ctv)]) (R:=fun H'=>∃α' G',Step α1 G2 α' G'∧bJ G' F H'∧aL α' (st1.set n0 (.tab T lpos qual true)) G') (kz:=ks) (vs:=its)
   I2 ⟨α1,G2,Step.refl,P2,S2⟩ ⟨_,hobj,rfl,nn,rfl⟩ (by omega) (by omega) ?_ (fun i u kk hu hk own s' J=>?_) fun D s' out cc oD J so=>?_
  · rw[←List.pairwise_map,hints.nums];exact hup
  · have hi:i<ns.length:=by
     have:=(List.getElem?_eq_some_iff.mp hu).1
     omega
    obtain⟨tt,ht⟩:=hints.get i ns[i] (List.getElem?_eq_getElem hi)
    have ht:some u=some (Value.int ns[i] tt):=by rw[←hu];exact ht
    cases ht
    refine zd (v:= .int ns[i]) (u:= .int ns[i] tt) S hc (by have:=hr.dp;omega) (hb f c) hbind ⟨tt,rfl⟩ (List.mem_append_right _ (List.mem_singleton.mpr rfl)) (fun H' s'' J' r'=>?_) (fun H' r'=>?_) J
    · have q:=J'.aH c _ (key H' r')
      exact⟨c,o,vs,tq,rfl,q.1,hc3,hc4⟩
    · obtain⟨α',G',q1,q2,q3⟩:=r'
      refine⟨α',(fB fr σd).set 0 (some (.int ns[i])),_,_,G',F,q2,?_,q3,hkey i ns[i] kk (List.getElem?_eq_getElem hi) hk,fun d' st' hd α'' G'' H'' v' s'' P'' S'' r''=>?_⟩
      · exact((RS.step ((s1'.trans st2).trans q1)).comp).set 0 (by unfold Rep;rfl)
      · obtain⟨rfl,rfl⟩:=hd
        unfold Rep at r''
        exact⟨r'',α'',G'',q1.trans s'',P'',S''⟩
  · obtain⟨H',I',α',G',q1,q2,q3⟩:=J
    obtain⟨ps,hp,ho,hs⟩:=so
    have hps:∀q∈ps,∃t,q.2= .int (numOf q.2) t:=fun q hq=>by
     have h1:=hp.mem_iff.mp hq
     have h2:q.2∈its:=(List.of_mem_zip (show(q.1,q.2)∈ks.zip its from h1)).2
     obtain⟨n,t,e⟩:=hints.all _ h2
     exact⟨t,by rw[e];rfl⟩
    have hos:(ps.map fun q=>(q.1,numOf q.2)).Perm (ks.zip ns):=by
     have h1:=hp.map fun q:Int×Value=>(q.1,numOf q.2)
     have e:(ks.zip its).map (fun q:Int×Value=>(q.1,numOf q.2))=ks.zip ns:=by
      rw[←hints.nums,List.zip_map_right]
      exact List.map_congr_left fun⟨a,b⟩ _=>rfl
     rw[e]at h1;exact h1
    have hpw:(ps.map fun q=>(q.1,numOf q.2)).Pairwise slt:=by rw[List.pairwise_map];exact hs
    have kk:=hK _ hos hpw
    rw[List.map_map]at kk
    have hD0:=eM I'
    have vout:Vals ((ps.map fun q=>numOf q.2).map V.int) out.toList:=by
     rw[ho]
     clear hos hpw kk hs hp ho
     induction ps with
     |nil=>exact .nil
     |cons q r ih=>
      obtain⟨t,e⟩:=hps q (List.mem_cons_self ..)
      exact .cons ⟨t,e⟩ (ih fun z hz=>hps z (List.mem_cons_of_mem _ hz))
    have hlo:(ps.map fun q=>numOf q.2).length≤sizeLine:=by
     rw[List.length_map,hp.length_eq,List.length_zip]
     exact Nat.le_trans (Nat.min_le_left _ _) (Nat.le_trans (show ks.length≤64 by omega) (by decide))
    have I3:=xG (u:= .lst ((ps.map fun q=>numOf q.2).map V.int)) I' oD.ge oD.ne ⟨by rw[List.length_map];exact hlo,out.toList,cc,vout,hD0.1⟩
    have hG:=(q2.none hD0.2.1).1
    refine⟨.ref D,_,I3.fL,rfl,k _ _ kk α' _ _ _ ((s1'.trans st2).trans (q1.trans (Step.laid hG))) (q2.laid hD0.2.1) (q3.laid hG) ?_⟩
    unfold Rep
    refine⟨D,_,rfl,q3.i_ hG,.inl aT,?_⟩
    have e:List.map ((fun p:Int×Int=>L3.D.int p.snd)∘fun q:Int×Value=>(q.fst,numOf q.snd)) ps=(ps.map fun q=>numOf q.2).map L3.D.int:=by rw[List.map_map];rfl
    rw[e]
    exact sH _
end
end L3
namespace L3
open PySem L2
open PySem.Spec hiding items?
open PyProof.Rows hiding St
def zh(sc:Scope)(N gl:List Str):Bool:=
 N.all (fun x=>(sc.names.lookup x==some .local||sc.names.lookup x==some .cell)&&x != "__debug__"&&x != "__classdict__")&&gl.all (fun x=>sc.names.lookup x==some .globalImplicit&&x != "__debug__")
structure VS(sc:Scope)(N gl:List Str):Prop where
 ok:zh sc N gl=true
theorem VS.at_{sc:Scope}{N gl:List Str}(V:VS sc N gl){i:Nat}{x:Str}(h:N[i]?=some x):Loc sc x∧(x==("__debug__":Str))=false∧(x==("__classdict__":Str))=false:=by
 have o:=V.ok
 unfold zh at o
 have:=List.all_eq_true.mp (Bool.and_eq_true_iff.mp o).1 x (List.mem_of_getElem? h)
 simp only[Bool.and_eq_true,Bool.or_eq_true,beq_iff_eq,bne_iff_ne,ne_eq]at this
 exact⟨this.1.1,beq_false_of_ne this.1.2,beq_false_of_ne this.2⟩
theorem VS.FV{sc:Scope}{N gl:List Str}(V:VS sc N gl){i:Nat}{x:Str}(h:gl[i]?=some x):sc.names.lookup x=some .globalImplicit∧(x==("__debug__":Str))=false:=by
 have o:=V.ok
 unfold zh at o
 have:=List.all_eq_true.mp (Bool.and_eq_true_iff.mp o).2 x (List.mem_of_getElem? h)
 simp only[Bool.and_eq_true,beq_iff_eq,bne_iff_ne,ne_eq]at this
 exact⟨this.1,beq_false_of_ne this.2⟩
section
variable {X:Cx}{sc:Scope}{N gl:List Str}{x:Str}{pos:Pos}
theorem VS.nm(V:VS X.env.scope X.N gl)(i:Nat)(h:X.N[i]?=some x:=by rfl):JE X (.Name x pos) (aa i):=
 let q:=V.at_ h
 ye q.2.1 q.2.2 (q.1.elim .inl fun z=> .inr (.inl z)) h
theorem VS.l(V:VS sc N gl)(i:Nat)(h:N[i]?=some x:=by rfl):Loc sc x:=(V.at_ h).1
theorem VS.g(V:VS sc N gl)(i:Nat)(h:gl[i]?=some x:=by rfl):sc.names.lookup x=some .globalImplicit:=(V.FV h).1
theorem VS.d(V:VS sc N gl)(i:Nat)(h:gl[i]?=some x:=by rfl):(x==("__debug__":Str))=false:=(V.FV h).2
theorem cN{n:Nat}(hN:X.N[n]?=some x:=by rfl)(hd:((x==("__debug__":Str))||(x==("__classdict__":Str)))=false:=by decide+kernel)
 (hv:tj X.env.scope x:=by first|exact Or.inl rfl|exact Or.inr (Or.inl rfl)|exact Or.inr (Or.inr rfl)):JE X (.Name x pos) (aa n):=
 ye (Bool.or_eq_false_iff.mp hd).1 (Bool.or_eq_false_iff.mp hd).2 hv hN
@[irreducible] def kM:cO:=nI (fun _ j=>j≠0) fun i j=> .int (i.fdiv j)
theorem uX{k:Nat}(hr:cq k X.A)(hs:X.stack=X.env::X.outer)(hgen:X.env.scope.isGenerator=false)(hco:X.env.scope.isCoroutine=false):bG X (binaryOp .FloorDiv) (LR kM):=by
 unfold kM
 refine iG (g':=fun i j=> .int (i.fdiv j)) (fun _ _ _ _=>by unfold Rep;rfl) ?_
 intro pins s σ H x y v u Q I rx ry h
 obtain⟨i,j,rfl,rfl,hc,q⟩:=h
 obtain⟨t,rfl⟩:=rx
 obtain⟨t',rfl⟩:=ry
 refine floordiv_int hc ⟨.int (i.fdiv j),H,I.tok _,⟨_,rfl⟩,q⟩ (.inr (PySem.PylongRoom.of I.nolimit ?_ ?_))
 · have:=hr.dp
   show X.A.depth+100<_
   omega
 · exact PySem.SeerAt.of (env:=X.env) (l:=X.outer) (I.mod.seer.keeps I.bk) I.ok.gt (by rw[I.ok.frames,hs]) hgen hco I.ok.blt I.ok.glob
theorem sy{st:ae}{K:DK}{i j:Int}(h0:j≠0)(k:K (.int (i.fdiv j)) st):kM (.int i) (.int j) st K:=by unfold kM;exact⟨h0,k⟩
theorem jF.look{scope:Scope}{Nc:List Str}{fr:List (Option Nat)}{p:Str}(S:bj X scope Nc fr)(h:(scope.names.all (fun x=>x.2 != .cell)&&(!scope.isCoroutine&& !scope.isGenerator)&&(scope.names.lookup p==some .local))=true:=by decide+kernel)
 (p0:Nc[0]?=some p:=by rfl) (f0:fr[0]?=some none:=by rfl):jF X scope Nc fr p:=by
 simp only[Bool.and_eq_true,Bool.not_eq_true',beq_iff_eq]at h
 exact⟨S,fun x hx=>by simpa using List.all_eq_true.mp h.1.1 x hx,h.1.2.1,h.1.2.2,p0,f0,h.2⟩
theorem Au{scope:Scope}{Nc:List Str}{fr:List (Option Nat)}{p qual:Str}{params:Arguments}{e body:Expr}{te tb:DE}{lpos kpos pos ppos:Pos}{c0 T:Addr}{n0 k:Nat}(S:jF X scope Nc fr p)(hc:X.calm=true)(hr:cq k X.A)(hcode:X.env.code= .ref c0)(hC:PySem.W.codeHdIn X.K c0 T=true)
 (hb:∀(f c:Addr) (s:Shared) (H:Hp),JE (wQ X scope Nc qual f c s H) body tb) (he:JE X e te) (hg:X.env.kindOf "sorted"=some .globalImplicit) (hm:X.mg "sorted"=none)
 (hdef:defaultsOf params X.env=([],[]):=by rfl) (hql:X.env.qual++"<lambda>"=qual:=by rfl)
 (hbind:∀(cl:List (Str×Addr)) (pm cd ct v:Value),bindArgs (PySem.W.kla_fn "<lambda>" qual params body scope cl pm cd ct) ⟨[v],[]⟩=pure [(p,v)]:=by(intros;rfl)) (hk:2≤k:=by decide)
 (he1:starEach [e] X.env=(false,eval e X.env)::starEach [] X.env:=by rfl):
 JE X (.Call (.Name "sorted" ppos) [e] [⟨some "key",.Lambda params body scope lpos,kpos⟩] pos) (sN n0 T lpos qual fr tb te):=by
 unfold JE at he hb⊢
 refine AA S hc (hr.mono hk) hcode hC hdef hql hbind hb (pE he t7 he1) hg hm rfl ?_ ?_
 · rw[he1];rfl
 · rw[he1];rfl
end
structure Dc(K:PySem.W.Frag)(x qual:Str)(st:Stmt)(f:Addr)(fd:FuncData)(c:Addr):Prop where
 ex:∃(oc:Value) (od:Option Addr) (kV doc pm:Value) (an:Option Addr) (ct:Value) (osl:Array (Option Value)),
  fd=PySem.W.fnOf x qual (ba st) (aW st) (ag st) .none kV doc pm an (.ref c) ct∧K.lookup f=some ⟨oc,od,.func fd,osl⟩∧PySem.W.codeIn K (.ref c) qual=true
theorem B7{P:Program}{w:World}{K:PySem.W.Frag}{mg:Str→Option Value}{base:Heap}{x qual:Str}{st:Stmt}{f c:Addr}{fd:FuncData}{N ps:List Str}{k:Nat}{sp:cM}{t:DS}(F:Dc K x qual st f fd c)(S:bf N ps (ag st))
 (hbody:∀(A:Around) (outer:List Env) (s:Shared) (H:Hp) (E:XK),cq k (A.deeper (envOfC qual (ag st) s.heap.objs.size f (.ref c)))→JB (lG aO P w K mg base N qual (ag st) f (.ref c) A outer s H E).qI (aW st) t)
 (hsp:∀ds st K,sp ds st K→ds.length=ps.length∧t {nx:=fun _ st'=>K .aA st',rt:=K} (bx N ds) st):ax P w K mg base aO (k+1) f fd ps (aR sp):=by
 obtain⟨oc,od,kV,doc,pm,an,ct,osl,rfl,lk,hcd⟩:=F.ex
 unfold JB at hbody
 refine zJ lk hcd S (fun vs H Q E h=>?_) fun A outer s H vs Q E hr h=>?_
 · obtain⟨α,ds,st,K,G,F,P,R,S,q,k⟩:=h
   rw[←R.length];exact(hsp ds st K q).1
 · obtain⟨α,ds,st,K,G,F',P,R,SR,q,k⟩:=h
   refine⟨_,(hbody A outer s H E hr).qI,α,bx N ds,st,_,G,F',P,dh.start R,SR,(hsp ds st K q).2,?_,k,?_,?_⟩
   · intro σd' st' kk α' G' H' σ' s' P' R' S'
     exact k .aA st' kk α' G' H' .aA s' P' S' (by unfold Rep;rfl)
   · intro σd' st' kk
     exact kk.elim
   · intro σd' st' kk
     exact kk.elim
def xw(tl:List (Addr×Pos×Str)):cM:=fun ds st K=>∃ns:List Int,ds=[.lst (ns.map .int)]∧ns.length≤63∧st=tl.map (fun q=> .tab q.1 q.2.1 q.2.2 false)∧∀st',K (.bl true) st'
def oH(K:PySem.W.Frag)(ts:List (Addr×Addr)):Sp:=fun vs H Q _=>∃(a:Addr) (ns:List Int),vs=[.ref a]∧Entry K ts a ns H∧ns.length≤63∧∀H',Q (.bl true) H'
theorem xh{K:PySem.W.Frag}{ts:List (Addr×Addr)}{tl:List (Addr×Pos×Str)}(nl:tN K=true)(hts:ts.map (·.2)=tl.map (·.1))(nd:(tl.map (·.1)).Nodup){vs:List V}{H:Hp}{Q:VK}{E:XK}(h:oH K ts vs H Q E):aR (xw tl) vs H Q E:=by
 obtain⟨a,ns,rfl,hE,hl,q⟩:=h
 have tabs:∀q∈tl,H q.1=some (.h_ #[])∧q.1≠a:=fun q hq=>by
  have h1:q.1∈ts.map (·.2):=by rw[hts];exact List.mem_map_of_mem hq
  obtain⟨t,ht,e⟩:=List.mem_map.mp h1
  rw[←e];exact hE.tab t ht
 have at_:∀(i:Nat) (x:Addr),(tl.map fun q=>some q.1)[i]?=some (some x)→∃q,tl[i]?=some q∧q.1=x:=fun i x e=>by
  rw[List.getElem?_map]at e
  cases z:tl[i]? with
  |none=>rw[z]at e;cases e
  |some w=>rw[z]at e;simp at e;exact⟨w,rfl,e⟩
 have nota:some a∉tl.map fun q=>some q.1:=fun z=>by
  obtain⟨w,hw,e⟩:=List.mem_map.mp z
  exact(tabs w hw).2 (Option.some.inj e)
 rcases hE.lst with hS|⟨o,its,n,e,hc,_⟩
 · refine⟨tl.map fun q=>some q.1,[.lst (ns.map .int)],tl.map (fun q=> .tab q.1 q.2.1 q.2.2 false),fun d _=>d= .bl true,H,fun _=>none,⟨fun b=>by cases H b<;>rfl,fun _ _ _=>rfl⟩,?_,⟨by simp,fun i j x e1 e2=>?_,fun n c e=>?_⟩,⟨ns,rfl,hl,rfl,fun _=>rfl⟩,?_⟩
   · unfold ay
     refine⟨.ref a,[],rfl,?_,by unfold ay;rfl⟩
     unfold Rep
     exact⟨a,ns.map V.int,rfl,nota,hS,qF ns⟩
   · obtain⟨p,hp,e3⟩:=at_ i x e1
     obtain⟨r,hr,e4⟩:=at_ j x e2
     have k1:(tl.map (·.1))[i]?=some x:=by rw[List.getElem?_map,hp,←e3];rfl
     have k2:(tl.map (·.1))[j]?=some x:=by rw[List.getElem?_map,hr,←e4];rfl
     have hi:=(List.getElem?_eq_some_iff.mp k1).1
     exact(List.getElem?_inj hi nd).mp (k1.trans k2.symm)
   · rw[List.getElem?_map]at e
     cases z:tl[n]? with
     |none=>rw[z]at e;cases e
     |some w=>
      rw[z]at e
      have e':Cell.tab w.1 w.2.1 w.2.2 false=c:=Option.some.inj e
      subst e'
      refine .inr ⟨w.1,by rw[List.getElem?_map,z];rfl,rfl,#[],(tabs w (List.mem_of_getElem? z)).1,trivial,.inl ⟨rfl,rfl⟩⟩
   · rintro d st' rfl α' G' H' v _ _ _ r
     unfold Rep at r
     subst r
     exact q H'
 · exact absurd hc (qU nl e)
end L3
namespace L3
open PySem L2
open PySem.Spec hiding items?
open PyProof.Rows hiding St
section
variable {K:PySem.W.Frag}{x qual p1 p2 p3 p4 p5:Str}{st:Stmt}{f:Addr}{fd:FuncData}
abbrev zX(x qual:Str)(st:Stmt)(kV doc pm:Value)(an:Option Addr)(cdv ct:Value):FuncData:=PySem.W.fnOf x qual (ba st) (aW st) (ag st) .none kV doc pm an cdv ct
theorem fk{α:Type}{n:Nat}{us:List α}(h:us.length=n+1):∃a r,us=a::r∧r.length=n:=by
 cases us with
 |nil=>cases h
 |cons a r=>exact⟨a,r,rfl,Nat.succ.inj h⟩
theorem mJ{α:Type}{us:List α}(h:us.length=0):us=[]:=List.length_eq_zero_iff.mp h
theorem oy(F:kR K x qual st f fd)(h:∀kV doc pm an cdv ct a,bindArgs (zX x qual st kV doc pm an cdv ct) ⟨[a],[]⟩=pure [(p1,a)]):Binds K fd [p1] []:=
 F.binds fun kV doc pm an cdv ct us hl=>by
  obtain⟨a,r1,rfl,h1⟩:=fk hl
  cases mJ h1
  exact h kV doc pm an cdv ct a
theorem nv(F:kR K x qual st f fd)(h:∀kV doc pm an cdv ct a b,bindArgs (zX x qual st kV doc pm an cdv ct) ⟨[a,b],[]⟩=pure [(p1,a),(p2,b)]):Binds K fd [p1,p2] []:=
 F.binds fun kV doc pm an cdv ct us hl=>by
  obtain⟨a,r1,rfl,h1⟩:=fk hl
  obtain⟨b,r2,rfl,h2⟩:=fk h1
  cases mJ h2
  exact h kV doc pm an cdv ct a b
theorem oS(F:kR K x qual st f fd)(h:∀kV doc pm an cdv ct a b c,bindArgs (zX x qual st kV doc pm an cdv ct) ⟨[a,b,c],[]⟩=pure [(p1,a),(p2,b),(p3,c)]):Binds K fd [p1,p2,p3] []:=
 F.binds fun kV doc pm an cdv ct us hl=>by
  obtain⟨a,r1,rfl,h1⟩:=fk hl
  obtain⟨b,r2,rfl,h2⟩:=fk h1
  obtain⟨c,r3,rfl,h3⟩:=fk h2
  cases mJ h3
  exact h kV doc pm an cdv ct a b c
theorem FR(F:kR K x qual st f fd)(h:∀kV doc pm an cdv ct a b c d,bindArgs (zX x qual st kV doc pm an cdv ct) ⟨[a,b,c,d],[]⟩=pure [(p1,a),(p2,b),(p3,c),(p4,d)]):Binds K fd [p1,p2,p3,p4] []:=
 F.binds fun kV doc pm an cdv ct us hl=>by
  obtain⟨a,r1,rfl,h1⟩:=fk hl
  obtain⟨b,r2,rfl,h2⟩:=fk h1
  obtain⟨c,r3,rfl,h3⟩:=fk h2
  obtain⟨d,r4,rfl,h4⟩:=fk h3
  cases mJ h4
  exact h kV doc pm an cdv ct a b c d
end
end L3
namespace L3
open PySem L2
open PySem.Spec hiding items?
open PyProof.Rows hiding St
@[irreducible] def kU(to:DE):DE:=fun σ st K=>to σ st fun x st1=>match x with
 | .ref n=>(match st1[n]? with|some (.lst _)=>K .aA (st1.set n (.lst []))|_=>False)
 |_=>False
section
variable {X:Cx}
theorem LE.clear{to:DE}{σ:L2.St}{H:Hp}{Q:VK}(h:LE (kU to) σ H Q):Dw X.K "list" xk (LE to) σ H Q:=by
 obtain⟨α,σd,st,K,G,F,P,R,S,t,k⟩:=h
 unfold kU at t
 refine⟨α,σd,st,_,G,F,P,R,S,t,fun x st1 q α1 G1 H1 v s1 P1 S1 r1=>?_⟩
 cases x<;>try exact q.elim
 rename_i n
 simp only at q
 split at q
 · rename_i ys e
   obtain⟨p,ep,vs,h1,h2⟩:=S1.f_ e
   have r1':=dA ep r1
   subst r1'
   refine⟨.inl ⟨rfl,vs,.inl (.of (P1.get h1))⟩,p,vs,rfl,rfl,P1.get h1,?_⟩
   exact(k.at s1) .aA _ q α1 _ _ .aA (Step.write (List.mem_of_getElem? ep)) (P1.write h1) (S1.write ep ⟨[],aT,by unfold ay;rfl⟩) (by unfold Rep;rfl)
 · exact q.elim
theorem Bs{o:Expr}{to:DE}{apos cpos:Pos}(ho:JE X o to)(hbase:attributeBase o "clear" X.env (eval o X.env)=eval o X.env:=by rfl)(hline:(apos.endLine==cpos.line)=true:=by rfl):JE X (.Call (.Attribute o "clear" apos) [] [] cpos) (kU to):=by
 unfold JE at*
 exact PE.imp (CB PySem.F.plainAttrs_list PySem.F.slot_list_clear PySem.F.type_list_clear yU ho hbase hline) fun _ _ _ h=>LE.clear h
end
theorem yu{σ:bH}{st:ae}{K:DK}{n:Nat}{xs:List D}{to:DE}(ho:∀K',K' (.ref n) st→to σ st K')(e:st[n]?=some (.lst xs))(k:K .aA (st.set n (.lst []))):kU to σ st K:=by
 unfold kU
 refine ho _ ?_
 simp only[e]
 exact k
mutual
theorem vm{α:List (Option Addr)}{G:Hp}:∀(n:Nat) {d:D} {v:V},pl n d=true→Rep α G d v→Rep [] G d v
 |_,.aA,_,_,h=>by unfold Rep at h⊢;exact h
 |_,.bl _,_,_,h=>by unfold Rep at h⊢;exact h
 |_,.int _,_,_,h=>by unfold Rep at h⊢;exact h
 |_,.str _,_,_,h=>by unfold Rep at h⊢;exact h
 |_,.ty _,_,p,_=>by unfold pl at p;cases p
 |_,.ref _,_,p,_=>by unfold pl at p;cases p
 |0,.lst _,_,p,_=>by unfold pl at p;cases p
 |0,.tup _,_,p,_=>by unfold pl at p;cases p
 |n+1,.lst xs,_,p,h=>by
  unfold pl at p
  unfold Rep at h⊢
  obtain⟨a,vs,e,_,r,q⟩:=h
  exact⟨a,vs,e,by simp,r,lI n p q⟩
 |n+1,.tup xs,_,p,h=>by
  unfold pl at p
  unfold Rep at h⊢
  obtain⟨a,vs,e,_,r,q⟩:=h
  exact⟨a,vs,e,by simp,r,lI n p q⟩
theorem lI{α:List (Option Addr)}{G:Hp}:∀(n:Nat) {ds:List D} {vs:List V},ds.all (pl n)=true→ay α G ds vs→ay [] G ds vs
 |_,[],_,_,h=>by unfold ay at h⊢;exact h
 |n,d::ds,_,p,h=>by
  rw[List.all_cons,Bool.and_eq_true]at p
  unfold ay at h⊢
  obtain⟨v,r,e,h1,h2⟩:=h
  exact⟨v,r,e,vm n p.1 h1,lI n p.2 h2⟩
end
def eJ(st:ae):List Nat→List (List D)→Prop
 | [],[]=>True
 |n::ns,r::rs=>st[n]?=some (.lst r)∧eJ st ns rs
 |_,_=>False
theorem sf{α:List (Option Addr)}{G:Hp}{st:ae}(S:aL α st G):∀ {ns:List Nat} {rs:List (List D)} {vs:List V},eJ st ns rs→(rs.map D.lst).all (pl 39)=true→ay α G (ns.map D.ref) vs→ay [] G (rs.map D.lst) vs
 | [],[],_,_,_,h=>by
   rw[List.map_nil]at h⊢
   unfold ay at h⊢;exact h
 |n::ns,r::rs,_,hr,p,h=>by
  rw[List.map_cons]at h p⊢
  rw[List.all_cons,Bool.and_eq_true]at p
  unfold ay at h⊢
  obtain⟨v,vr,e,h1,h2⟩:=h
  refine⟨v,vr,e,?_,sf S hr.2 p.2 h2⟩
  obtain⟨a,ea,ws,g1,g2⟩:=S.f_ hr.1
  have:=dA ea h1
  subst this
  have p1:=p.1
  unfold pl at p1
  unfold Rep
  exact⟨a,ws,rfl,by simp,.inl g1,lI 38 p1 g2⟩
@[irreducible] def sQ:cO:=fun x y st K=>∃(ns:List Nat) (rs:List (List D)),x= .lst (ns.map .ref)∧eJ st ns rs∧(rs.map D.lst).all (pl 39)=true∧pl 40 y=true∧K (.bl (!bZ (.lst (rs.map .lst)) y)) st
theorem E1{X:Cx}{k:Nat}(hr:cq k X.A):bG X (compareOp .NotEq) (LR sQ):=fun pins s σ H x y v u Q I rx ry ⟨α,d,e,st,K,G,F',P,r1,r2,S,q,k⟩=>by
 have hu:=hr.units
 unfold sQ at q
 obtain⟨ns,rs,rfl,h1,h2,h3,q⟩:=q
 have r1':Rep [] G (.lst (rs.map .lst)) x:=by
  unfold Rep at r1⊢
  obtain⟨a,vs,e,_,r,z⟩:=r1
  exact⟨a,vs,e,by simp,r,sf S h1 h2 z⟩
 exact Al I 40 X.A _ e x y v u (by unfold pl;exact h2) h3 (r1'.mono P.same) ((vm 40 h3 r2).mono P.same) rx ry (by omega) _ _ _ _ ⟨.bl _,H,I,rfl,k.here P q S (by unfold Rep;rfl)⟩
theorem Cp{st:ae}{K:DK}{ns:List Nat}{rs:List (List D)}{y:D}(h1:eJ st ns rs)(h2:(rs.map D.lst).all (pl 39)=true)(h3:pl 40 y=true)(k:K (.bl (!bZ (.lst (rs.map .lst)) y)) st):sQ (.lst (ns.map .ref)) y st K:=by
 unfold sQ;exact⟨ns,rs,rfl,h1,h2,h3,k⟩
end L3
namespace Mx
def S:Nat→(Nat→Int)→Int
 |0,_=>0
 |n+1,f=>S n f+f n
theorem cA{n:Nat}{f g:Nat→Int}(h:∀i,i<n→f i=g i):S n f=S n g:=by
 induction n with
 |zero=>rfl
 |succ n ih=>unfold S;rw[ih fun i hi=>h i (by omega),h n (by omega)]
theorem BY{n:Nat}{f:Nat→Int}(h:∀i,i<n→f i=0):S n f=0:=by
 induction n with
 |zero=>rfl
 |succ n ih=>unfold S;rw[ih fun i hi=>h i (by omega),h n (by omega)];rfl
theorem rF(n:Nat)(f g:Nat→Int):S n (fun i=>f i+g i)=S n f+S n g:=by
 induction n with
 |zero=>rfl
 |succ n ih=>unfold S;rw[ih];dsimp only;omega
theorem wk(n:Nat)(c:Int)(f:Nat→Int):S n (fun i=>c*f i)=c*S n f:=by
 induction n with
 |zero=>unfold S;rw[Int.mul_zero]
 |succ n ih=>unfold S;rw[ih,Int.mul_add]
theorem EJ(n:Nat)(f:Nat→Int):S n (fun i=> -f i)= -S n f:=by
 induction n with
 |zero=>rfl
 |succ n ih=>unfold S;rw[ih];dsimp only;omega
theorem rp{n:Nat}{k:Nat}(hk:k<n){f:Nat→Int}(h:∀i,i<n→i≠k→f i=0):S n f=f k:=by
 induction n with
 |zero=>omega
 |succ n ih=>
  unfold S
  by_cases e:k=n
  · subst e
    rw[BY fun i hi=>h i (by omega) (by omega),Int.zero_add]
  · rw[ih (by omega) fun i hi hn=>h i (by omega) hn,h n (by omega) (by omega),Int.add_zero]
theorem C8(n:Nat)(f:Nat→Int):S (n+1) f=f 0+S n fun i=>f (i+1):=by
 induction n with
 |zero=>unfold S S;omega
 |succ n ih=>
  have:S (n+1+1) f=S (n+1) f+f (n+1):=rfl
  rw[this,ih]
  have:S (n+1) (fun i=>f (i+1))=S n (fun i=>f (i+1))+f (n+1):=rfl
  rw[this]
  omega
def dl(i j:Nat):Int:=if i=j then 1 else 0
theorem dU(i:Nat):dl i i=1:=if_pos rfl
theorem eB{i j:Nat}(h:i≠j):dl i j=0:=if_neg h
theorem xn{n k:Nat}(hk:k<n)(f:Nat→Int):S n (fun i=>dl k i*f i)=f k:=by
 rw[rp hk (fun i _ h=>by rw[eB (Ne.symm h),Int.zero_mul]),dU,Int.one_mul]
theorem ue{n k:Nat}(hk:k<n)(f:Nat→Int):S n (fun i=>f i*dl i k)=f k:=by
 rw[rp hk (fun i _ h=>by rw[eB h,Int.mul_zero]),dU,Int.mul_one]
abbrev Row:=List Int
abbrev Rows:=List (List Int)
def g(A:Rows)(i j:Nat):Int:=(A.getD i []).getD j 0
structure cm(m n:Nat)(A:Rows):Prop where
 len:A.length=m
 jy:∀r∈A,r.length=n
theorem aV{α:Type}{l:List α}{i:Nat}{d:α}(h:i<l.length):l.getD i d=l[i]:=by
 rw[List.getD_eq_getElem?_getD,List.getElem?_eq_getElem h];rfl
theorem jN{α:Type}{l:List α}{i:Nat}{d:α}(h:l.length≤i):l.getD i d=d:=by
 rw[List.getD_eq_getElem?_getD,List.getElem?_eq_none h];rfl
theorem BE{a b:Row}{n:Nat}(ha:a.length=n)(hb:b.length=n)(h:∀j,j<n→a.getD j 0=b.getD j 0):a=b:=by
 refine List.ext_getElem (by omega) fun i h1 h2=>?_
 have:=h i (by omega)
 rwa [aV h1,aV h2]at this
theorem cm.row{m n:Nat}{A:Rows}(h:cm m n A){i:Nat}(hi:i<m):(A.getD i []).length=n:=by
 have hl:=h.len
 rw[aV (by omega)]
 exact h.jy _ (List.getElem_mem _)
theorem cm.ext{m n:Nat}{A B:Rows}(ha:cm m n A)(hb:cm m n B)(h:∀i j,i<m→j<n→g A i j=g B i j):A=B:=by
 have h1:=ha.len
 have h2:=hb.len
 refine List.ext_getElem (by omega) fun i hi hj=>?_
 have e1:=ha.row (i:=i) (by omega)
 have e2:=hb.row (i:=i) (by omega)
 have:=BE e1 e2 fun j hj=>h i j (by omega) hj
 rwa [aV hi,aV hj]at this
def fx(r:Row)(t:Int)(s:Row):Row:=List.zipWith (fun a b=>a+t*b) r s
theorem lr{r s:Row}{t:Int}(h:r.length=s.length):(fx r t s).length=r.length:=by unfold fx;simp[h]
theorem u9{r s:Row}{t:Int}(h:r.length=s.length)(j:Nat):(fx r t s).getD j 0=r.getD j 0+t*s.getD j 0:=by
 unfold fx
 by_cases hj:j<r.length
 · rw[aV (by simp;omega),aV hj,aV (by omega)];simp
 · rw[jN (by simp;omega),jN (by omega),jN (by omega)];simp
def fg:Row→Rows→Row→Row
 |w::ws,r::rs,acc=>fg ws rs (fx acc w r)
 |_,_,acc=>acc
theorem qm{n:Nat}:∀ {ws:Row} {rs:Rows} {acc:Row},acc.length=n→(∀r∈rs,r.length=n)→(fg ws rs acc).length=n
 | [],_,acc,h,_=>by unfold fg;exact h
 |_::_,[],acc,h,_=>by unfold fg;exact h
 |w::ws,r::rs,acc,h,hr=>by
  unfold fg
  refine qm ?_ fun r hr'=>hr r (List.mem_cons_of_mem _ hr')
  rw[lr (by rw[h,hr r List.mem_cons_self]),h]
theorem sM{n:Nat}:∀ {ws:Row} {rs:Rows} {acc:Row} (j:Nat),acc.length=n→(∀r∈rs,r.length=n)→ws.length=rs.length→(fg ws rs acc).getD j 0=acc.getD j 0+S rs.length fun k=>ws.getD k 0*g rs k j
 | [],[],acc,j,h,_,_=>by unfold fg;show _=_+(0:Int);rw[Int.add_zero]
 | [],_::_,acc,j,h,_,hl=>by cases hl
 |_::_,[],acc,j,h,_,hl=>by cases hl
 |w::ws,r::rs,acc,j,h,hr,hl=>by
  have e1:acc.length=r.length:=by rw[h,hr r List.mem_cons_self]
  unfold fg
  rw[sM j (by rw[lr e1,h]) (fun r hr'=>hr r (List.mem_cons_of_mem _ hr')) (by simpa using hl),u9 e1,List.length_cons,C8]
  have:(fun k=>(w::ws).getD (k+1) 0*g (r::rs) (k+1) j)=fun k=>ws.getD k 0*g rs k j:=by
   funext k;unfold g;simp
  rw[this]
  unfold g
  simp
  omega
def mulM(A B:Rows)(n:Nat):Rows:=A.map fun w=>fg w B (List.replicate n 0)
theorem dA(n j:Nat):(List.replicate n (0:Int)).getD j 0=0:=by
 by_cases h:j<n
 · rw[aV (by simpa using h)];simp
 · rw[jN (by simp;omega)]
theorem pF{m p n:Nat}{A B:Rows}(ha:cm m p A)(hb:cm p n B):cm m n (mulM A B n):=by
 refine⟨by unfold mulM;rw[List.length_map];exact ha.len,fun r hr=>?_⟩
 unfold mulM at hr
 obtain⟨w,_,rfl⟩:=List.mem_map.mp hr
 exact qm (by simp) hb.jy
theorem map_getD{α:Type}{f:Row→List α}{A:Rows}{i:Nat}(h:i<A.length):(A.map f).getD i []=f (A.getD i []):=by
 rw[aV (by simpa using h),aV h];simp
theorem qd{m p n:Nat}{A B:Rows}(ha:cm m p A)(hb:cm p n B){i:Nat}(hi:i<m)(j:Nat):g (mulM A B n) i j=S p fun k=>g A i k*g B k j:=by
 have hl:=ha.len
 show((mulM A B n).getD i []).getD j 0=_
 unfold mulM
 rw[map_getD (by omega),sM (n:=n) j (by simp) hb.jy (by rw[ha.row hi,hb.len]),dA,Int.zero_add,hb.len]
 rfl
def eX(n i:Nat):Row:=(List.range n).map fun k=>dl k i
def units(n:Nat):Rows:=(List.range n).map fun i=>eX n i
theorem range_getD{α:Type}{f:Nat→α}{n i:Nat}{d:α}(h:i<n):((List.range n).map f).getD i d=f i:=by
 rw[aV (by simpa using h)];simp
theorem j5(n:Nat):cm n n (units n):=⟨by simp[units],fun r hr=>by unfold units at hr;obtain⟨i,_,rfl⟩:=List.mem_map.mp hr;simp[eX]⟩
theorem gw{n i j:Nat}(hi:i<n)(hj:j<n):g (units n) i j=dl i j:=by
 unfold g units eX
 rw[range_getD hi,range_getD hj]
 unfold dl
 by_cases h:i=j
 · subst h;rfl
 · rw[if_neg (Ne.symm h),if_neg h]
def lL(A:Rows)(j:Nat):Row:=A.map fun r=>r.getD j 0
def gT(A:Rows)(n:Nat):Rows:=(List.range n).map fun j=>lL A j
theorem Dq{m n:Nat}{A:Rows}(ha:cm m n A):cm n m (gT A n):=⟨by simp[gT],fun r hr=>by
 unfold gT at hr
 obtain⟨j,_,rfl⟩:=List.mem_map.mp hr
 unfold lL
 rw[List.length_map,ha.len]⟩
theorem Bb{A:Rows}{i:Nat}(j:Nat)(h:i<A.length):(lL A j).getD i 0=g A i j:=by
 unfold lL g
 rw[aV (by simpa using h),aV h];simp
theorem r9{m n:Nat}{A:Rows}(ha:cm m n A){i j:Nat}(hi:i<m)(hj:j<n):g (gT A n) j i=g A i j:=by
 show((gT A n).getD j []).getD i 0=_
 unfold gT
 rw[range_getD hj,Bb j (by rw[ha.len];exact hi)]
def CA:Row→Row→Int
 |a::as,b::bs=>a*b+CA as bs
 |_,_=>0
end Mx
namespace Mx
theorem vg(i j:Nat):dl i j=dl j i:=by
 unfold dl
 by_cases h:i=j
 · rw[if_pos h,if_pos h.symm]
 · rw[if_neg h,if_neg (Ne.symm h)]
def sw(i j k:Nat):Nat:=if k=i then j else if k=j then i else k
theorem GC{n i j:Nat}(hi:i<n)(hj:j<n)(hij:i≠j)(f:Nat→Int):S n (fun k=>f (sw i j k))=S n f:=by
 have:S n (fun k=>f (sw i j k))=S n fun k=>f k+(f j-f i)*dl k i+(f i-f j)*dl k j:=cA fun k _=>by
  unfold sw
  by_cases h1:k=i
  · subst h1;rw[if_pos rfl,dU,eB hij];omega
  · rw[if_neg h1,eB h1]
    by_cases h2:k=j
    · subst h2;rw[if_pos rfl,dU];omega
    · rw[if_neg h2,eB h2];omega
 rw[this,rF,rF,ue (f:=fun _=>f j-f i) hi,ue (f:=fun _=>f i-f j) hj]
 omega
end Mx
namespace Mx
abbrev Fn:=Nat→Nat→Int
def sk(j c:Nat):Nat:=if c<j then c else c+1
def sg(j:Nat):Int:=if j%2=0 then 1 else-1
def D:Nat→Fn→Int
 |0,_=>1
 |n+1,M=>S (n+1) fun j=>sg j*M 0 j*D n fun r c=>M (r+1) (sk j c)
def upd(M:Fn)(i:Nat)(x:Nat→Int):Fn:=fun r c=>if r=i then x c else M r c
theorem aB{M:Fn}{i r:Nat}{x:Nat→Int}(h:r≠i)(c:Nat):upd M i x r c=M r c:=if_neg h
def un(j c:Nat):Nat:=if c<j then c else c-1
def tr(M:Fn):Fn:=fun r c=>M c r
end Mx
namespace Mx
def gx(R:Fn)(p:Nat)(x:Nat→Int)(j:Nat):Int:=D (p+1) fun r c=>if r<p then R r (if c<p then c else j)else x (if c<p then c else j)
def cl(p j1 j2 c:Nat):Nat:=if c<p then c else if c=p then j1 else j2
end Mx
namespace Mx
end Mx
namespace Mx
def lam(G:Fn)(i j:Nat):Int:=gx G j (G i) j
def GL(A:Rows):Fn:=fun i j=>CA (A.getD i []) (A.getD j [])
end Mx
namespace Mx
def E9(G:Fn)(i:Nat):Row:=(List.range (i+1)).map fun j=>lam G i j
def Cs(G:Fn)(n:Nat):Rows:=(List.range n).map (E9 G)
end Mx
namespace Mx
def RA(A:Rows)(N:Nat):Fn:=fun i j=>if j<N then GL A i j else(A.getD i []).getD (j-N) 0
def ev(A:Rows)(N i k c:Nat):Int:=gx (RA A N) k (RA A N i) (N+c)
theorem vX(n:Nat)(a b:Int)(f g:Nat→Int):S n (fun c=>a*f c-b*g c)=a*S n f-b*S n g:=by
 induction n with
 |zero=>show(0:Int)=a*0-b*0;omega
 |succ n ih=>
  show S n (fun c=>a*f c-b*g c)+(a*f n-b*g n)=a*(S n f+f n)-b*(S n g+g n)
  rw[ih,Int.mul_add,Int.mul_add];omega
section
variable {A:Rows}{N w:Nat}
end
end Mx
namespace Mx
end Mx
namespace Mx
def Hc(M:Fn)(k j:Nat)(q:Int):Fn:=fun a b=>if a=k then M a b-q*M j b else M a b
def Hk(M:Fn)(k j:Nat)(q:Int):Fn:=fun a b=>if b=k then M a b-q*M a j else M a b
def tk(G:Fn)(k j:Nat)(q:Int):Fn:=Hk (Hc G k j q) k j q
end Mx
namespace Mx
section
variable {G:Fn}{t:Nat}(sym:∀i j,G i j=G j i)
include sym
end
end Mx
namespace Mx
section
variable {A:Rows}{N w:Nat}
theorem bW(hA:cm N w A){i:Nat}(hi:i<N):(A.getD i []).length=w:=hA.jy _ (by have:=hA.len;rw[aV (by omega)];exact List.getElem_mem _)
end
end Mx
namespace Mx
def bt(A:Rows)(k:Nat)(q:Int)(j:Nat):Rows:=A.set k (fx (A.getD k []) (-q) (A.getD j []))
def bp(A:Rows)(k o:Nat):Rows:=(A.set k (A.getD o [])).set o (A.getD k [])
theorem iM{A:Rows}{k i:Nat}{r:Row}(hk:k<A.length):(A.set k r).getD i []=if i=k then r else A.getD i []:=by
 rw[List.getD_eq_getElem?_getD,List.getElem?_set]
 by_cases h:k=i
 · rw[if_pos h,if_pos (by omega),if_pos h.symm];rfl
 · rw[if_neg h,if_neg (Ne.symm h),List.getD_eq_getElem?_getD]
theorem xr{A:Rows}{k j:Nat}{q:Int}:(bt A k q j).length=A.length:=by unfold bt;rw[List.length_set]
theorem oa{A:Rows}{N w k j:Nat}{q:Int}(hA:cm N w A)(hk:k<N)(hj:j<N):cm N w (bt A k q j):=by
 refine⟨xr.trans hA.len,fun r hr=>?_⟩
 unfold bt at hr
 rcases List.mem_or_eq_of_mem_set hr with h|rfl
 · exact hA.jy r h
 · rw[lr (by rw[bW hA hk,bW hA hj]),bW hA hk]
end Mx
namespace Mx
structure Tn(A0 A U C:Rows)(N w:Nat):Prop where
 isA:cm N w A
 eF:cm N N U
 e9:cm N N C
 ua:∀i c,i<N→c<w→g A i c=S N fun k=>g U i k*g A0 k c
 ub:∀i j,i<N→j<N→S N (fun k=>g U i k*g C j k)=dl i j
 bu:∀i j,i<N→j<N→S N (fun k=>g C k i*g U k j)=dl i j
theorem d9{A:Rows}{N w k j:Nat}{q:Int}(hA:cm N w A)(hk:k<N)(hj:j<N)(i c:Nat):g (bt A k q j) i c=if i=k then g A k c-q*g A j c else g A i c:=by
 unfold g bt
 have hl:=hA.len
 rw[iM (by omega)]
 by_cases h:i=k
 · rw[if_pos h,if_pos h,u9 (by rw[bW hA hk,bW hA hj]),Int.neg_mul];omega
 · rw[if_neg h,if_neg h]
theorem pC(n:Nat)(a b:Int)(f h:Nat→Int):S n (fun c=>a*f c+b*h c)=a*S n f+b*S n h:=by
 rw[rF,wk,wk]
theorem Tn.take{A0 A U C:Rows}{N w k j:Nat}{q:Int}(T:Tn A0 A U C N w)(hk:k<N)(hj:j<N)(hkj:j≠k):Tn A0 (bt A k q j) (bt U k q j) (bt C j (-q) k) N w where
 isA:=oa T.isA hk hj
 eF:=oa T.eF hk hj
 e9:=oa T.e9 hj hk
 ua:=fun i c hi hc=>by
  rw[d9 T.isA hk hj]
  have e:S N (fun m=>g (bt U k q j) i m*g A0 m c)=S N fun m=>(if i=k then g U k m-q*g U j m else g U i m)*g A0 m c:=cA fun m _=>by rw[d9 T.eF hk hj]
  rw[e]
  by_cases h:i=k
  · simp only[if_pos h]
    rw[T.ua k c hk hc,T.ua j c hj hc]
    have e2:S N (fun m=>(g U k m-q*g U j m)*g A0 m c)=S N fun m=>1*(g U k m*g A0 m c)-q*(g U j m*g A0 m c):=cA fun m _=>by grind
    rw[e2,vX];omega
  · simp only[if_neg h]
    exact T.ua i c hi hc
 ub:=fun i l hi hl=>by
  have e:S N (fun m=>g (bt U k q j) i m*g (bt C j (-q) k) l m)=S N fun m=>(if i=k then g U k m-q*g U j m else g U i m)*(if l=j then g C j m- -q*g C k m else g C l m):=cA fun m _=>by rw[d9 T.eF hk hj,d9 T.e9 hj hk]
  rw[e]
  have djk:dl j k=0:=eB hkj
  by_cases h:i=k
  · by_cases h2:l=j
    · simp only[if_pos h,if_pos h2]
      have e2:S N (fun m=>(g U k m-q*g U j m)*(g C j m- -q*g C k m))=S N fun m=>1*(1*(g U k m*g C j m)+q*(g U k m*g C k m))-q*(1*(g U j m*g C j m)+q*(g U j m*g C k m)):=cA fun m _=>by grind
      rw[e2,vX,pC,pC,T.ub k j hk hj,T.ub k k hk hk,T.ub j j hj hj,T.ub j k hj hk,h,h2,dU,dU,djk,vg k j,djk]
      omega
    · simp only[if_pos h,if_neg h2]
      have e2:S N (fun m=>(g U k m-q*g U j m)*g C l m)=S N fun m=>1*(g U k m*g C l m)-q*(g U j m*g C l m):=cA fun m _=>by grind
      rw[e2,vX,T.ub k l hk hl,T.ub j l hj hl,h,eB (Ne.symm h2)]
      omega
  · by_cases h2:l=j
    · simp only[if_neg h,if_pos h2]
      have e2:S N (fun m=>g U i m*(g C j m- -q*g C k m))=S N fun m=>1*(g U i m*g C j m)+q*(g U i m*g C k m):=cA fun m _=>by grind
      rw[e2,pC,T.ub i j hi hj,T.ub i k hi hk,h2,eB h]
      omega
    · simp only[if_neg h,if_neg h2]
      exact T.ub i l hi hl
 bu:=fun i l hi hl=>by
  have e:S N (fun m=>g (bt C j (-q) k) m i*g (bt U k q j) m l)=S N fun m=>g C m i*g U m l+((q*(g C k i*g U j l))*dl m j+(-(q*(g C k i*g U j l)))*dl m k):=cA fun m _=>by
   rw[d9 T.eF hk hj,d9 T.e9 hj hk]
   by_cases h1:m=j
   · have h2:m≠k:=by omega
     rw[if_pos h1,if_neg h2,h1,dU,eB hkj];grind
   · rw[if_neg h1,eB h1]
     by_cases h2:m=k
     · rw[if_pos h2,h2,dU];grind
     · rw[if_neg h2,eB h2];grind
  rw[e,rF,pC,T.bu i l hi hl]
  have e1:S N (fun c=>dl c j)=1:=by
   rw[rp hj fun i _ h=>eB h,dU]
  have e2:S N (fun c=>dl c k)=1:=by
   rw[rp hk fun i _ h=>eB h,dU]
  rw[e1,e2];omega
end Mx
namespace Mx
theorem tJ{A:Rows}{k o i:Nat}(hk:k<A.length)(ho:o<A.length):(bp A k o).getD i []=A.getD (sw k o i) []:=by
 unfold bp
 rw[iM (by rw[List.length_set];exact ho),iM hk]
 unfold sw
 by_cases h1:i=k
 · rw[if_pos h1,if_pos h1]
   by_cases h2:i=o
   · rw[if_pos h2,←h1,←h2]
   · rw[if_neg h2]
 · rw[if_neg h1,if_neg h1]
   by_cases h2:i=o
   · rw[if_pos h2,if_pos h2]
   · rw[if_neg h2,if_neg h2]
theorem oo{A:Rows}{N w k o:Nat}(hA:cm N w A)(hk:k<N)(ho:o<N):cm N w (bp A k o):=by
 refine⟨by unfold bp;rw[List.length_set,List.length_set];exact hA.len,fun r hr=>?_⟩
 unfold bp at hr
 rcases List.mem_or_eq_of_mem_set hr with h|rfl
 · rcases List.mem_or_eq_of_mem_set h with h|rfl
   · exact hA.jy r h
   · exact bW hA ho
 · exact bW hA hk
theorem ig{A:Rows}{N w k o:Nat}(hA:cm N w A)(hk:k<N)(ho:o<N)(i c:Nat):g (bp A k o) i c=g A (sw k o i) c:=by
 unfold g
 rw[tJ (by have:=hA.len;omega) (by have:=hA.len;omega)]
theorem lY{k o N i:Nat}(hk:k<N)(ho:o<N)(hi:i<N):sw k o i<N:=by unfold sw;split<;>(try split)<;>assumption
theorem ya(k o x:Nat):sw k o (sw k o x)=x:=by
 unfold sw
 by_cases h1:x=k
 · subst h1
   rw[if_pos rfl]
   by_cases h2:o=x
   · rw[if_pos h2];exact h2
   · rw[if_neg h2,if_pos rfl]
 · rw[if_neg h1]
   by_cases h2:x=o
   · subst h2;rw[if_pos rfl,if_pos rfl]
   · rw[if_neg h2,if_neg h1,if_neg h2]
theorem EM{k o a b:Nat}:dl (sw k o a) (sw k o b)=dl a b:=by
 by_cases h:a=b
 · rw[h,dU,dU]
 · rw[eB h,eB fun z=>h (by rw[←ya k o a,←ya k o b,z])]
theorem BO(k x:Nat):sw k k x=x:=by
 unfold sw
 by_cases h:x=k
 · rw[if_pos h,h]
 · rw[if_neg h,if_neg h]
theorem Fg{n i j:Nat}(hi:i<n)(hj:j<n)(f:Nat→Int):S n (fun k=>f (sw i j k))=S n f:=by
 by_cases h:i=j
 · subst h;exact cA fun k _=>by rw[BO]
 · exact GC hi hj h f
theorem Tn.zU{A0 A U C:Rows}{N w k o:Nat}(T:Tn A0 A U C N w)(hk:k<N)(ho:o<N):Tn A0 (bp A k o) (bp U k o) (bp C k o) N w where
 isA:=oo T.isA hk ho
 eF:=oo T.eF hk ho
 e9:=oo T.e9 hk ho
 ua:=fun i c hi hc=>by
  rw[ig T.isA hk ho,T.ua _ c (lY hk ho hi) hc]
  exact cA fun m _=>by rw[ig T.eF hk ho]
 ub:=fun i j hi hj=>by
  rw[←EM (k:=k) (o:=o),←T.ub _ _ (lY hk ho hi) (lY hk ho hj)]
  exact cA fun m _=>by rw[ig T.eF hk ho,ig T.e9 hk ho]
 bu:=fun i j hi hj=>by
  rw[←T.bu i j hi hj,←Fg hk ho fun m=>g C m i*g U m j]
  exact cA fun m _=>by rw[ig T.eF hk ho,ig T.e9 hk ho]
def ft(A:Rows)(k:Nat):Rows:=A.set k ((A.getD k []).map fun x=> -x)
theorem tu{A:Rows}{N w k:Nat}(hA:cm N w A)(hk:k<N):cm N w (ft A k):=by
 refine⟨by unfold ft;rw[List.length_set];exact hA.len,fun r hr=>?_⟩
 unfold ft at hr
 rcases List.mem_or_eq_of_mem_set hr with h|rfl
 · exact hA.jy r h
 · rw[List.length_map];exact bW hA hk
theorem yz(r:Row)(c:Nat):(r.map fun x=> -x).getD c 0= -r.getD c 0:=by
 rw[List.getD_eq_getElem?_getD,List.getD_eq_getElem?_getD,List.getElem?_map]
 cases r[c]?<;>rfl
theorem iC{A:Rows}{N w k:Nat}(hA:cm N w A)(hk:k<N)(i c:Nat):g (ft A k) i c=if i=k then-g A k c else g A i c:=by
 unfold g ft
 rw[iM (by have:=hA.len;omega)]
 by_cases h:i=k
 · rw[if_pos h,if_pos h,yz]
 · rw[if_neg h,if_neg h]
theorem Tn.neg{A0 A U C:Rows}{N w k:Nat}(T:Tn A0 A U C N w)(hk:k<N):Tn A0 (ft A k) (ft U k) (ft C k) N w where
 isA:=tu T.isA hk
 eF:=tu T.eF hk
 e9:=tu T.e9 hk
 ua:=fun i c hi hc=>by
  rw[iC T.isA hk]
  by_cases h:i=k
  · rw[if_pos h,T.ua k c hk hc,←EJ]
    exact cA fun m _=>by rw[iC T.eF hk,if_pos h,Int.neg_mul]
  · rw[if_neg h,T.ua i c hi hc]
    exact cA fun m _=>by rw[iC T.eF hk,if_neg h]
 ub:=fun i j hi hj=>by
  have e:S N (fun m=>g (ft U k) i m*g (ft C k) j m)=S N fun m=>(if i=k then-1 else 1)*(if j=k then-1 else 1)*(g U i m*g C j m):=cA fun m _=>by
   rw[iC T.eF hk,iC T.e9 hk]
   by_cases h1:i=k<;>by_cases h2:j=k<;>simp only[h1,h2,if_true,if_false]<;>grind
  rw[e,wk,T.ub i j hi hj]
  by_cases h1:i=k
  · by_cases h2:j=k
    · simp[h1,h2]
    · rw[eB (by omega)];simp
  · by_cases h2:j=k
    · rw[eB (by omega)];simp
    · simp[h1,h2]
 bu:=fun i j hi hj=>by
  rw[←T.bu i j hi hj]
  exact cA fun m _=>by
   rw[iC T.eF hk,iC T.e9 hk]
   by_cases h:m=k
   · subst h;rw[if_pos rfl,if_pos rfl];grind
   · rw[if_neg h,if_neg h]
structure fX(A:Rows)(N top p:Nat)(L:List Nat):Prop where
 mem:∀k,k∈L↔top≤k∧k<N∧g A k p≠0
 ord:L.Pairwise fun i j=>(g A i p).natAbs<(g A j p).natAbs∨((g A i p).natAbs=(g A j p).natAbs∧i<j)
theorem o_{f:Nat→Nat}:∀ {l m:List Nat},(∀k,k∈l↔k∈m)→l.Pairwise (fun i j=>f i<f j∨(f i=f j∧i<j))→m.Pairwise (fun i j=>f i<f j∨(f i=f j∧i<j))→l=m
 | [],[],_,_,_=>rfl
 | [],b::m,h,_,_=>by have:=(h b).mpr (List.mem_cons_self ..);simp at this
 |a::l,[],h,_,_=>by have:=(h a).mp (List.mem_cons_self ..);simp at this
 |a::l,b::m,h,h1,h2=>by
  obtain⟨p1,q1⟩:=List.pairwise_cons.mp h1
  obtain⟨p2,q2⟩:=List.pairwise_cons.mp h2
  have e:a=b:=by
   rcases List.mem_cons.mp ((h a).mp (List.mem_cons_self ..))with z|z
   · exact z
   · rcases List.mem_cons.mp ((h b).mpr (List.mem_cons_self ..))with y|y
     · exact y.symm
     · have x1:=p1 b y
       have x2:=p2 a z
       omega
  subst e
  have na:a∉l:=fun z=>by have:=p1 a z;omega
  have nb:a∉m:=fun z=>by have:=p2 a z;omega
  rw[o_ (l:=l) (m:=m) (fun k=>?_) q1 q2]
  have:=h k
  rw[List.mem_cons,List.mem_cons]at this
  constructor
  · intro z
    rcases this.mp (.inr z)with y|y
    · subst y;exact absurd z na
    · exact y
  · intro z
    rcases this.mpr (.inr z)with y|y
    · subst y;exact absurd z nb
    · exact y
theorem fX.unique{A:Rows}{N top p:Nat}{L M:List Nat}(h:fX A N top p L)(h':fX A N top p M):L=M:=
 o_ (f:=fun i=>(g A i p).natAbs) (fun k=>(h.mem k).trans (h'.mem k).symm) h.ord h'.ord
structure B3 where
 A:Rows
 U:Rows
 C:Rows
def qn(x y:Int):Int:=(2*x+y).fdiv (2*y)
def ix(b:B3)(p k j:Nat):B3:=⟨bt b.A k (qn (g b.A k p) (g b.A j p)) j,bt b.U k (qn (g b.A k p) (g b.A j p)) j,bt b.C j (-(qn (g b.A k p) (g b.A j p))) k⟩
def mO(N top p:Nat)(b c:B3):Prop:=∃(L:List Nat) (k j:Nat),fX b.A N top p (L++[j,k])∧c=ix b p k j
theorem mO.unique{N top p:Nat}{b c d:B3}(h:mO N top p b c)(h':mO N top p b d):c=d:=by
 obtain⟨L,k,j,h1,rfl⟩:=h
 obtain⟨M,k',j',h2,rfl⟩:=h'
 have e:=h1.unique h2
 have e2:=congrArg List.reverse e
 simp only[List.reverse_append,List.reverse_cons,List.reverse_nil,List.nil_append,List.cons_append,List.cons.injEq]at e2
 rw[e2.1,e2.2.1]
inductive e7(N top p:Nat):B3→B3→Prop
 |refl (b:B3):e7 N top p b b
 |head {b c d:B3} (h:mO N top p b c) (t:e7 N top p c d):e7 N top p b d
theorem e7.tail{N top p:Nat}{b c d:B3}(h:e7 N top p b c)(t:mO N top p c d):e7 N top p b d:=by
 induction h with
 |refl b=>exact .head t (.refl _)
 |head x _ ih=>exact .head x (ih t)
def oV(N top p:Nat)(b:B3):Prop:=∃L,fX b.A N top p L∧L.length≤1
theorem oV.stop{N top p:Nat}{b c:B3}(h:oV N top p b)(s:mO N top p b c):False:=by
 obtain⟨L,h1,h2⟩:=h
 obtain⟨M,k,j,h3,_⟩:=s
 rw[h1.unique h3]at h2
 simp at h2
theorem e7.unique{N top p:Nat}{b c d:B3}(h:e7 N top p b c)(hc:oV N top p c)(h':e7 N top p b d)(hd:oV N top p d):c=d:=by
 induction h with
 |refl b=>
  cases h' with
  |refl=>rfl
  |head s _=>exact(hc.stop s).elim
 |head s _ ih=>
  cases h' with
  |refl=>exact(hd.stop s).elim
  |head s' t=>
   rw[s'.unique s]at t
   exact ih hc t
def gS(X:Rows)(N top m:Nat):Prop:=∀i c,top≤i→i<N→(g X i c).natAbs≤m
def PR(f:Nat→Nat):Nat→Nat
 |0=>1
 |n+1=>PR f n*f n
theorem xQ{f:Nat→Nat}(h:∀i,1≤f i):∀n,1≤PR f n
 |0=>Nat.le_refl _
 |n+1=>Nat.mul_le_mul (xQ h n) (h n)
theorem rX{f f':Nat→Nat}:∀ {n:Nat},(∀i,i<n→f i=f' i)→PR f n=PR f' n
 |0,_=>rfl
 |n+1,h=>by
  show PR f n*f n=PR f' n*f' n
  rw[rX fun i hi=>h i (Nat.lt_succ_of_lt hi),h n (Nat.lt_succ_self n)]
theorem xV{f f':Nat→Nat}{k:Nat}:∀ {n:Nat},k<n→(∀i,i≠k→f i=f' i)→PR f n*f' k=PR f' n*f k
 |0,hk,_=>absurd hk (Nat.not_lt_zero _)
 |n+1,hk,h=>by
  show PR f n*f n*f' k=PR f' n*f' n*f k
  by_cases e:k=n
  · subst e
    rw[rX (n:=k) fun i hi=>h i (Nat.ne_of_lt hi),Nat.mul_assoc,Nat.mul_comm (f k),Nat.mul_assoc]
  · have:=xV (n:=n) (by omega) h
    rw[h n (Ne.symm e),Nat.mul_right_comm,this,Nat.mul_right_comm]
theorem zR{f:Nat→Nat}{m top:Nat}(hm:1≤m):∀ {n:Nat},(∀i,i<n→i<top→f i≤1)→(∀i,i<n→f i≤m)→PR f n≤m^(n-top)
 |0,_,_=>by simp[PR]
 |n+1,h1,h2=>by
  have ih:=zR hm (n:=n) (fun i hi=>h1 i (Nat.lt_succ_of_lt hi)) fun i hi=>h2 i (Nat.lt_succ_of_lt hi)
  show PR f n*f n≤_
  by_cases ht:n<top
  · have z:n+1-top=n-top:=by omega
    rw[z]
    exact Nat.le_trans (Nat.mul_le_mul ih (h1 n (Nat.lt_succ_self n) ht)) (by rw[Nat.mul_one];exact Nat.le_refl _)
  · have z:n+1-top=(n-top)+1:=by omega
    rw[z,Nat.pow_succ]
    exact Nat.mul_le_mul ih (h2 n (Nat.lt_succ_self n))
def wt(A:Rows)(top p i:Nat):Nat:=if top≤i∧g A i p≠0 then 2*(g A i p).natAbs else 1
theorem xf(A:Rows)(top p i:Nat):1≤wt A top p i:=by
 unfold wt
 split<;>omega
theorem uM{x y:Int}(hy:y≠0):2*(x-qn x y*y).natAbs≤y.natAbs:=by
 unfold qn
 have h1:=Int.mul_fdiv_add_fmod (2*x+y) (2*y)
 have h2:(2*x+y).fmod (2*y)=2*x+y-2*y*(2*x+y).fdiv (2*y):=by omega
 generalize(2*x+y).fdiv (2*y)=q at*
 have e:2*(x-q*y)=(2*x+y).fmod (2*y)-y:=by rw[h2];grind
 rcases Int.lt_or_gt_of_ne hy with h|h
 · have a0:=Int.neg_fmod_neg (2*x+y) (2*y)
   have a1:=Int.fmod_nonneg_of_pos (-(2*x+y)) (show 0< -(2*y) by omega)
   have a2:=Int.fmod_lt_of_pos (-(2*x+y)) (show 0< -(2*y) by omega)
   omega
 · have a1:=Int.fmod_nonneg_of_pos (2*x+y) (show 0<2*y by omega)
   have a2:=Int.fmod_lt_of_pos (2*x+y) (show 0<2*y by omega)
   omega
theorem By{x y:Int}(hy:y≠0)(hxy:y.natAbs≤x.natAbs):(1+(qn x y).natAbs)*(if x-qn x y*y≠0 then 2*(x-qn x y*y).natAbs else 1)≤2*x.natAbs:=by
 have h2:=uM (x:=x) hy
 generalize qn x y=q at*
 generalize hr:x-q*y=r at*
 have hx:x=q*y+r:=by omega
 have hq:(q*y).natAbs=q.natAbs*y.natAbs:=Int.natAbs_mul ..
 by_cases h0:r=0
 · rw[if_neg (fun z=>z h0),Nat.mul_one]
   subst h0
   have hxa:x.natAbs=q.natAbs*y.natAbs:=by rw[←hq,hx];simp
   have hy1:1≤y.natAbs:=by omega
   have hq1:1≤q.natAbs:=by
    rcases Nat.eq_zero_or_pos q.natAbs with z|z
    · rw[z,Nat.zero_mul]at hxa;omega
    · exact z
   have:q.natAbs≤q.natAbs*y.natAbs:=Nat.le_mul_of_pos_right _ hy1
   omega
 · rw[if_pos h0]
   have hr1:1≤r.natAbs:=by omega
   have key:(1+q.natAbs)*r.natAbs≤x.natAbs:=by
    rcases Nat.lt_or_ge q.natAbs 2 with hlt|hge
    · rcases Nat.lt_or_ge q.natAbs 1 with h|h
      · have z:q.natAbs=0:=by omega
        have zq:q=0:=by omega
        subst zq
        simp at hx
        subst hx
        simp
      · have z:q.natAbs=1:=by omega
        rw[z]at hq⊢
        have:(q*y).natAbs=y.natAbs:=by omega
        have h3:x.natAbs=y.natAbs+r.natAbs∨x.natAbs+r.natAbs=y.natAbs∨x.natAbs+y.natAbs=r.natAbs:=by omega
        omega
    · have h3:(q*y).natAbs≤x.natAbs+r.natAbs:=by omega
      rw[hq]at h3
      have h4:q.natAbs*(2*r.natAbs)≤q.natAbs*y.natAbs:=Nat.mul_le_mul_left _ h2
      have h5:2*r.natAbs≤q.natAbs*r.natAbs:=Nat.mul_le_mul_right _ hge
      have h6:q.natAbs*(2*r.natAbs)=q.natAbs*r.natAbs+q.natAbs*r.natAbs:=by rw[Nat.mul_left_comm];omega
      rw[Nat.add_mul,Nat.one_mul]
      omega
   have:(1+q.natAbs)*(2*r.natAbs)=2*((1+q.natAbs)*r.natAbs):=by rw[Nat.mul_left_comm]
   omega
structure nL(A0:Rows)(N w top p m:Nat)(b0 b:B3)(gr:Nat):Prop where
 tn:Tn A0 b.A b.U b.C N w
 up:∀i,i<top→b.A.getD i []=b0.A.getD i []∧b.U.getD i []=b0.U.getD i []∧b.C.getD i []=b0.C.getD i []
 lA:gS b.A N top (m*gr)
 lU:gS b.U N top (m*gr)
 lC:gS b.C N top (m*gr)
 zs:∀i c,top≤i→i<N→c<p→g b.A i c=0
 FL:gr*PR (wt b.A top p) N≤PR (wt b0.A top p) N
 pos:1≤gr
 FG:b=b0∨∃j,top≤j∧j<N∧g b.A j p≠0
theorem oh{X:Rows}{N w top k j m gr:Nat}{q:Int}(hX:cm N w X)(hk:k<N)(hj:j<N)(hkt:top≤k)(hjt:top≤j)(h:gS X N top (m*gr)):gS (bt X k q j) N top (m*(gr*(1+q.natAbs))):=fun i c hi hN=>by
 rw[d9 hX hk hj]
 have e:m*(gr*(1+q.natAbs))=m*gr+q.natAbs*(m*gr):=by rw[←Nat.mul_assoc,Nat.mul_add,Nat.mul_one,Nat.mul_comm (m*gr) q.natAbs]
 rw[e]
 by_cases hik:i=k
 · rw[if_pos hik]
   have h1:=h k c hkt hk
   have h2:=h j c hjt hj
   have h3:(q*g X j c).natAbs≤q.natAbs*(m*gr):=by rw[Int.natAbs_mul];exact Nat.mul_le_mul_left _ h2
   omega
 · rw[if_neg hik]
   have:=h i c hi hN
   omega
theorem ib{X:Rows}{k j i:Nat}{q:Int}(hk:k<X.length)(h:i≠k):(bt X k q j).getD i []=X.getD i []:=by
 unfold bt
 rw[iM hk,if_neg h]
theorem nL.step{A0:Rows}{N w top p m gr:Nat}{b0 b:B3}{L:List Nat}{k j:Nat}(G:nL A0 N w top p m b0 b gr)(hp:p<w)(hL:fX b.A N top p (L++[j,k])):
 nL A0 N w top p m b0 (ix b p k j) (gr*(1+(qn (g b.A k p) (g b.A j p)).natAbs))∧(g (ix b p k j).A k p).natAbs<(g b.A k p).natAbs∧(∀i,i≠k→g (ix b p k j).A i p=g b.A i p)∧top≤k∧k<N∧top≤j∧j<N∧j≠k∧g b.A j p≠0:=by
 obtain⟨hk1,hk2,hk3⟩:=(hL.mem k).mp (by simp)
 obtain⟨hj1,hj2,hj3⟩:=(hL.mem j).mp (by simp)
 have hord:=hL.ord
 rw[List.pairwise_append]at hord
 have o2:=(List.pairwise_cons.mp hord.2.1).1 k (by simp)
 have hjk:j≠k:=by intro z;subst z;omega
 have hle:(g b.A j p).natAbs≤(g b.A k p).natAbs:=by omega
 have gk:g (ix b p k j).A k p=g b.A k p-qn (g b.A k p) (g b.A j p)*g b.A j p:=by
  show g (bt b.A k _ j) k p=_
  rw[d9 G.tn.isA hk2 hj2,if_pos rfl]
 have gi:∀i,i≠k→g (ix b p k j).A i p=g b.A i p:=fun i hi=>by
  show g (bt b.A k _ j) i p=_
  rw[d9 G.tn.isA hk2 hj2,if_neg hi]
 have hrest:=uM (x:=g b.A k p) hj3
 have hgrow:=By (x:=g b.A k p) hj3 hle
 refine⟨⟨G.tn.take hk2 hj2 hjk,fun i hi=>?_,oh G.tn.isA hk2 hj2 hk1 hj1 G.lA,oh G.tn.eF hk2 hj2 hk1 hj1 G.lU,?_,fun i c hi hN hc=>?_,?_,?_,.inr ⟨j,hj1,hj2,by rw[gi j hjk];exact hj3⟩⟩,?_,gi,hk1,hk2,hj1,hj2,hjk,hj3⟩
 · obtain⟨a1,a2,a3⟩:=G.up i hi
   refine⟨(ib (by rw[G.tn.isA.len];exact hk2) (by omega)).trans a1,(ib (by rw[G.tn.eF.len];exact hk2) (by omega)).trans a2,(ib (by rw[G.tn.e9.len];exact hj2) (by omega)).trans a3⟩
 · have:=oh (q:= -(qn (g b.A k p) (g b.A j p))) G.tn.e9 hj2 hk2 hj1 hk1 G.lC
   rw[Int.natAbs_neg]at this
   exact this
 · show g (bt b.A k _ j) i c=0
   rw[d9 G.tn.isA hk2 hj2]
   by_cases h:i=k
   · rw[if_pos h,G.zs k c hk1 hk2 hc,G.zs j c hj1 hj2 hc,Int.mul_zero];rfl
   · rw[if_neg h];exact G.zs i c hi hN hc
 · have e:=xV (f:=wt (ix b p k j).A top p) (f':=wt b.A top p) (k:=k) hk2 fun i hi=>by unfold wt;rw[gi i hi]
   have w1:wt b.A top p k=2*(g b.A k p).natAbs:=by unfold wt;rw[if_pos ⟨hk1,hk3⟩]
   have w2:(1+(qn (g b.A k p) (g b.A j p)).natAbs)*wt (ix b p k j).A top p k≤wt b.A top p k:=by
    rw[w1]
    unfold wt
    rw[gk]
    by_cases h0:g b.A k p-qn (g b.A k p) (g b.A j p)*g b.A j p=0
    · rw[if_neg (fun z=>z.2 h0)]
      rw[if_neg (fun z=>z h0)]at hgrow
      exact hgrow
    · rw[if_pos ⟨hk1,h0⟩]
      rw[if_pos h0]at hgrow
      exact hgrow
   have hw:0<wt b.A top p k:=xf _ _ _ _
   refine Nat.le_of_mul_le_mul_right (c:=wt b.A top p k) ?_ hw
   have s1:gr*(1+(qn (g b.A k p) (g b.A j p)).natAbs)*PR (wt (ix b p k j).A top p) N*wt b.A top p k=gr*PR (wt b.A top p) N*((1+(qn (g b.A k p) (g b.A j p)).natAbs)*wt (ix b p k j).A top p k):=by
    rw[Nat.mul_assoc _ (PR _ N),e]
    simp only[Nat.mul_assoc,Nat.mul_left_comm]
   rw[s1]
   exact Nat.mul_le_mul G.FL w2
 · exact Nat.mul_pos G.pos (by omega)
 · rw[gk];omega
end Mx
namespace Mx
theorem nL.low{A0:Rows}{N w top p e gr:Nat}{b0 b:B3}(G:nL A0 N w top p (2^e) b0 b gr)(h0:gS b0.A N top (2^e)):2^e*gr≤2^((N-top+1)*(e+1)):=by
 have h1:gr≤PR (wt b0.A top p) N:=Nat.le_trans (Nat.le_mul_of_pos_right _ (xQ (xf _ _ _) N)) G.FL
 have h2:PR (wt b0.A top p) N≤(2^(e+1))^(N-top):=zR Nat.one_le_two_pow (fun i _ ht=>by unfold wt;rw[if_neg (by omega)];exact Nat.le_refl _) fun i hi=>by
  unfold wt
  split
  · rename_i h
    have:=h0 i p h.1 hi
    rw[Nat.pow_succ];omega
  · exact Nat.one_le_two_pow
 refine Nat.le_trans (Nat.mul_le_mul_left _ (Nat.le_trans h1 h2)) ?_
 rw[←Nat.pow_mul,←Nat.pow_add]
 refine Nat.pow_le_pow_right (by decide) ?_
 have e1:(N-top+1)*(e+1)=(e+1)*(N-top)+(e+1):=by rw[Nat.add_mul,Nat.one_mul,Nat.mul_comm]
 rw[e1]
 omega
structure jw(A0:Rows)(N w:Nat)(b:B3)(top p:Nat)(ld:Nat→Nat)(e u:Nat):Prop where
 tn:Tn A0 b.A b.U b.C N w
 le:top≤N
 lo:gS b.A N top (2^e)∧gS b.U N top (2^e)∧gS b.C N top (2^e)
 hi:∀i c,i<top→(g b.A i c).natAbs≤2^u∧(g b.U i c).natAbs≤2^u∧(g b.C i c).natAbs≤2^u
 zs:∀i c,top≤i→i<N→c<p→g b.A i c=0
 lead:∀i,i<top→ld i<p∧0<g b.A i (ld i)∧∀c,c<ld i→g b.A i c=0
 mono:∀i j,i<j→j<top→ld i<ld j
 red:∀i j,i<j→j<top→0≤g b.A i (ld j)∧g b.A i (ld j)<g b.A j (ld j)
theorem jw.Hm{A0:Rows}{N w top p e u:Nat}{b:B3}{ld:Nat→Nat}(S:jw A0 N w b top p ld e u):nL A0 N w top p (2^e) b b 1:=
 ⟨S.tn,fun _ _=>⟨rfl,rfl,rfl⟩,by rw[Nat.mul_one];exact S.lo.1,by rw[Nat.mul_one];exact S.lo.2.1,by rw[Nat.mul_one];exact S.lo.2.2,S.zs,by rw[Nat.one_mul];exact Nat.le_refl _,Nat.le_refl _,.inl rfl⟩
theorem jw.skip{A0:Rows}{N w top p e u:Nat}{b:B3}{ld:Nat→Nat}(S:jw A0 N w b top p ld e u)(h:fX b.A N top p []):jw A0 N w b top (p+1) ld e u:=
 ⟨S.tn,S.le,S.lo,S.hi,fun i c h1 h2 h3=>by
  by_cases hc:c=p
  · subst hc
    exact Classical.byContradiction fun z=>absurd ((h.mem i).mpr ⟨h1,h2,z⟩) (by simp)
  · exact S.zs i c h1 h2 (by omega),fun i hi=>⟨Nat.lt_succ_of_lt (S.lead i hi).1,(S.lead i hi).2⟩,S.mono,S.red⟩
def setB(b:B3)(p top r:Nat):B3:=
 if g (bp b.A top r) top p<0 then⟨ft (bp b.A top r) top,ft (bp b.U top r) top,ft (bp b.C top r) top⟩else⟨bp b.A top r,bp b.U top r,bp b.C top r⟩
theorem om{X:Rows}{N w top r m:Nat}(hX:cm N w X)(ht:top<N)(hr:r<N)(hrt:top≤r)(h:gS X N top m):gS (bp X top r) N top m:=fun i c hi hN=>by
 rw[ig hX ht hr]
 refine h _ c ?_ (lY ht hr hN)
 unfold sw
 split
 · exact hrt
 · split
   · exact Nat.le_refl _
   · exact hi
theorem tG{X:Rows}{N w top m:Nat}(hX:cm N w X)(ht:top<N)(h:gS X N top m):gS (ft X top) N top m:=fun i c hi hN=>by
 rw[iC hX ht]
 split
 · rw[Int.natAbs_neg];exact h top c (Nat.le_refl _) ht
 · exact h i c hi hN
theorem nO{X:Rows}{N w top r i:Nat}(hX:cm N w X)(ht:top<N)(hr:r<N)(hrt:top≤r)(hi:i<top):(bp X top r).getD i []=X.getD i []:=by
 rw[tJ (by have:=hX.len;omega) (by have:=hX.len;omega)]
 unfold sw
 rw[if_neg (by omega),if_neg (by omega)]
theorem sT{X:Rows}{N w top i:Nat}(hX:cm N w X)(ht:top<N)(hi:i<top):(ft X top).getD i []=X.getD i []:=by
 unfold ft
 rw[iM (by have:=hX.len;omega),if_neg (by omega)]
structure pS(A0:Rows)(N w top p m:Nat)(b0 b:B3):Prop where
 tn:Tn A0 b.A b.U b.C N w
 up:∀i,i<top→b.A.getD i []=b0.A.getD i []∧b.U.getD i []=b0.U.getD i []∧b.C.getD i []=b0.C.getD i []
 lo:gS b.A N top m∧gS b.U N top m∧gS b.C N top m
 zs:∀i c,top≤i→i<N→c<p→g b.A i c=0
 tp:0<g b.A top p
 z1:∀i,top<i→i<N→g b.A i p=0
theorem nL.set{A0:Rows}{N w top p m gr r:Nat}{b0 b:B3}(G:nL A0 N w top p m b0 b gr)(hL:fX b.A N top p [r]):pS A0 N w top p (m*gr) b0 (setB b p top r)∧top≤r∧r<N:=by
 obtain⟨hr1,hr2,hr3⟩:=(hL.mem r).mp (by simp)
 have ht:top<N:=by omega
 have z:∀i,top≤i→i<N→i≠r→g b.A i p=0:=fun i h1 h2 h3=>Classical.byContradiction fun y=>h3 (by simpa using(hL.mem i).mpr ⟨h1,h2,y⟩)
 have swg:∀i c,g (bp b.A top r) i c=g b.A (sw top r i) c:=fun i c=>ig G.tn.isA ht hr2 i c
 have gt:g (bp b.A top r) top p=g b.A r p:=by rw[swg];unfold sw;rw[if_pos rfl]
 have T1:=G.tn.zU ht hr2
 have z1:∀i,top<i→i<N→g (bp b.A top r) i p=0:=fun i h1 h2=>by
  rw[swg]
  unfold sw
  rw[if_neg (by omega)]
  by_cases h:i=r
  · rw[if_pos h];exact z top (Nat.le_refl _) ht (by omega)
  · rw[if_neg h];exact z i (by omega) h2 h
 have zs:∀i c,top≤i→i<N→c<p→g (bp b.A top r) i c=0:=fun i c h1 h2 h3=>by
  rw[swg]
  refine G.zs _ c ?_ (lY ht hr2 h2) h3
  unfold sw
  split
  · exact hr1
  · split
    · exact Nat.le_refl _
    · exact h1
 have up:∀i,i<top→(bp b.A top r).getD i []=b0.A.getD i []∧(bp b.U top r).getD i []=b0.U.getD i []∧(bp b.C top r).getD i []=b0.C.getD i []:=fun i hi=>by
  obtain⟨a1,a2,a3⟩:=G.up i hi
  exact⟨(nO G.tn.isA ht hr2 hr1 hi).trans a1,(nO G.tn.eF ht hr2 hr1 hi).trans a2,(nO G.tn.e9 ht hr2 hr1 hi).trans a3⟩
 have lo:=And.intro (om G.tn.isA ht hr2 hr1 G.lA) (And.intro (om G.tn.eF ht hr2 hr1 G.lU) (om G.tn.e9 ht hr2 hr1 G.lC))
 refine⟨?_,hr1,hr2⟩
 unfold setB
 by_cases hs:g (bp b.A top r) top p<0
 · rw[if_pos hs]
   refine⟨T1.neg ht,fun i hi=>?_,⟨tG T1.isA ht lo.1,tG T1.eF ht lo.2.1,tG T1.e9 ht lo.2.2⟩,fun i c h1 h2 h3=>?_,?_,fun i h1 h2=>?_⟩
   · obtain⟨a1,a2,a3⟩:=up i hi
     exact⟨(sT T1.isA ht hi).trans a1,(sT T1.eF ht hi).trans a2,(sT T1.e9 ht hi).trans a3⟩
   · show g (ft (bp b.A top r) top) i c=0
     rw[iC T1.isA ht]
     split
     · rw[zs top c (Nat.le_refl _) ht h3];rfl
     · exact zs i c h1 h2 h3
   · show 0<g (ft (bp b.A top r) top) top p
     rw[iC T1.isA ht,if_pos rfl];omega
   · show g (ft (bp b.A top r) top) i p=0
     rw[iC T1.isA ht,if_neg (by omega)];exact z1 i h1 h2
 · rw[if_neg hs]
   exact⟨T1,up,lo,zs,by show 0<g (bp b.A top r) top p;rw[gt]at hs⊢;omega,z1⟩
def jt(p top:Nat):Nat→B3→B3
 |0,b=>b
 |k+1,b=>
  let c:=jt p top k b
  ⟨bt c.A k ((g c.A k p).fdiv (g c.A top p)) top,bt c.U k ((g c.A k p).fdiv (g c.A top p)) top,bt c.C top (-((g c.A k p).fdiv (g c.A top p))) k⟩
structure kY(A0:Rows)(N w top p e u:Nat)(b:B3)(k:Nat)(c:B3):Prop where
 tn:Tn A0 c.A c.U c.C N w
 rA:∀i,k≤i→c.A.getD i []=b.A.getD i []∧c.U.getD i []=b.U.getD i []
 rC:∀i,i≠top→c.C.getD i []=b.C.getD i []
 ah:∀i q,i<k→q<p→g c.A i q=g b.A i q
 rd:∀i,i<k→0≤g c.A i p∧g c.A i p<g c.A top p
 sz:∀i q,i<k→(g c.A i q).natAbs≤2^(u+e+1)∧(g c.U i q).natAbs≤2^(u+e+1)
 sC:∀q,(g c.C top q).natAbs≤2^e+k*2^(u+u)
theorem t8(a:Int){b:Int}(hb:0<b):(a.fdiv b).natAbs≤a.natAbs:=by
 have h1:=Int.mul_fdiv_add_fmod a b
 have h2:=Int.fmod_nonneg_of_pos a hb
 have h3:=Int.fmod_lt_of_pos a hb
 generalize a.fdiv b=q at*
 rcases Int.lt_trichotomy q 0 with h|h|h
 · have h4:0≤(b-1)*(-q-1):=Int.mul_nonneg (by omega) (by omega)
   have e:(b-1)*(-q-1)= -(b*q)-b+q+1:=by grind
   omega
 · subst h;simp
 · have:q≤b*q:=by
    have:0≤(b-1)*q:=Int.mul_nonneg (by omega) (by omega)
    grind
   omega
theorem kY.step{A0:Rows}{N w top p e u k:Nat}{b c:B3}(I:kY A0 N w top p e u b k c)(hk:k<top)(ht:top<N)(hp:p<w)(htp:0<g b.A top p)(hz:∀q,q<p→g b.A top q=0)
 (hlo:∀q,(g b.A top q).natAbs≤2^e∧(g b.U top q).natAbs≤2^e) (hhi:∀i q,i<top→(g b.A i q).natAbs≤2^u∧(g b.U i q).natAbs≤2^u∧(g b.C i q).natAbs≤2^u):
 kY A0 N w top p e u b (k+1) ⟨bt c.A k ((g c.A k p).fdiv (g c.A top p)) top,bt c.U k ((g c.A k p).fdiv (g c.A top p)) top,bt c.C top (-((g c.A k p).fdiv (g c.A top p))) k⟩:=by
 have hkN:k<N:=by omega
 have gA:∀i q,k≤i→g c.A i q=g b.A i q:=fun i q hi=>by unfold g;rw[(I.rA i hi).1]
 have gU:∀i q,k≤i→g c.U i q=g b.U i q:=fun i q hi=>by unfold g;rw[(I.rA i hi).2]
 have gC:∀i q,i≠top→g c.C i q=g b.C i q:=fun i q hi=>by unfold g;rw[I.rC i hi]
 have qe:((g c.A k p).fdiv (g c.A top p)).natAbs≤2^u:=by
  rw[gA k p (Nat.le_refl _),gA top p (by omega)]
  exact Nat.le_trans (t8 _ htp) (hhi k p hk).1
 have hq:∀x:Int,x.natAbs≤2^e→((g c.A k p).fdiv (g c.A top p)*x).natAbs≤2^(u+e):=fun x hx=>by
  rw[Int.natAbs_mul,Nat.pow_add];exact Nat.mul_le_mul qe hx
 have le1:2^u≤2^(u+e):=Nat.pow_le_pow_right (by decide) (by omega)
 refine⟨I.tn.take hkN ht (by omega),fun i hi=>?_,fun i hi=>?_,fun i q hi hqp=>?_,fun i hi=>?_,fun i q hi=>?_,fun q=>?_⟩
 · exact⟨(ib (by rw[I.tn.isA.len];exact hkN) (by omega)).trans (I.rA i (by omega)).1,(ib (by rw[I.tn.eF.len];exact hkN) (by omega)).trans (I.rA i (by omega)).2⟩
 · exact(ib (by rw[I.tn.e9.len];exact ht) hi).trans (I.rC i hi)
 · show g (bt c.A k _ top) i q=_
   rw[d9 I.tn.isA hkN ht]
   split
   · rename_i h
     rw[gA top q (by omega),hz q hqp,Int.mul_zero,gA k q (Nat.le_refl _),h];omega
   · exact I.ah i q (by omega) hqp
 · show 0≤g (bt c.A k _ top) i p∧g (bt c.A k _ top) i p<g (bt c.A k _ top) top p
   rw[d9 I.tn.isA hkN ht,d9 I.tn.isA hkN ht,if_neg (show¬top=k by omega)]
   split
   · have h1:=Int.mul_fdiv_add_fmod (g c.A k p) (g c.A top p)
     have htp':0<g c.A top p:=by rw[gA top p (by omega)];exact htp
     have h2:=Int.fmod_nonneg_of_pos (g c.A k p) htp'
     have h3:=Int.fmod_lt_of_pos (g c.A k p) htp'
     rw[Int.mul_comm]at h1
     omega
   · exact I.rd i (by omega)
 · show(g (bt c.A k _ top) i q).natAbs≤_∧(g (bt c.U k _ top) i q).natAbs≤_
   rw[d9 I.tn.isA hkN ht,d9 I.tn.eF hkN ht]
   split
   · have a1:=hq (g c.A top q) (by rw[gA top q (by omega)];exact(hlo q).1)
     have a2:=hq (g c.U top q) (by rw[gU top q (by omega)];exact(hlo q).2)
     rw[gA k q (Nat.le_refl _),gU k q (Nat.le_refl _)]
     have b1:=(hhi k q hk).1
     have b2:=(hhi k q hk).2.1
     rw[Nat.pow_succ]
     omega
   · exact I.sz i q (by omega)
 · show(g (bt c.C top _ k) top q).natAbs≤_
   rw[d9 I.tn.e9 ht hkN,if_pos rfl,gC k q (by omega),Int.neg_mul]
   have a1:=I.sC q
   have a2:((g c.A k p).fdiv (g c.A top p)*g b.C k q).natAbs≤2^(u+u):=by
    rw[Int.natAbs_mul,Nat.pow_add];exact Nat.mul_le_mul qe (hhi k q hk).2.2
   rw[Nat.add_mul,Nat.one_mul]
   omega
theorem kY.start{A0:Rows}{N w top p e u:Nat}{b:B3}(T:Tn A0 b.A b.U b.C N w)(h:∀q,(g b.C top q).natAbs≤2^e):kY A0 N w top p e u b 0 b:=
 ⟨T,fun _ _=>⟨rfl,rfl⟩,fun _ _=>rfl,fun _ _ h=>absurd h (Nat.not_lt_zero _),fun _ h=>absurd h (Nat.not_lt_zero _),fun _ _ h=>absurd h (Nat.not_lt_zero _),fun q=>by rw[Nat.zero_mul];exact h q⟩
theorem pS.next{A0:Rows}{N w top p e u e' u':Nat}{b0 b c:B3}{ld:Nat→Nat}(S:jw A0 N w b0 top p ld e u)(s:pS A0 N w top p (2^e') b0 b)(ht:top<N)(I:kY A0 N w top p e' u b top c)(hN:N≤8)
 (h1:u+e'+1≤u') (h2:u+u+4≤u'):jw A0 N w c (top+1) (p+1) (fun i=>if i=top then p else ld i) e' u':=by
 have hup:∀i q,i<top→g b.A i q=g b0.A i q:=fun i q hi=>by unfold g;rw[(s.up i hi).1]
 have hA:∀i q,top≤i→g c.A i q=g b.A i q:=fun i q hi=>by unfold g;rw[(I.rA i hi).1]
 have hU:∀i q,top≤i→g c.U i q=g b.U i q:=fun i q hi=>by unfold g;rw[(I.rA i hi).2]
 have hC:∀i q,i≠top→g c.C i q=g b.C i q:=fun i q hi=>by unfold g;rw[I.rC i hi]
 have le:∀ {a x:Nat},a≤2^x→x≤u'→a≤2^u':=fun h hx=>Nat.le_trans h (Nat.pow_le_pow_right (by decide) hx)
 refine⟨I.tn,ht,⟨fun i q hi hN=>?_,fun i q hi hN=>?_,fun i q hi hN=>?_⟩,fun i q hi=>?_,fun i q hi hN hq=>?_,fun i hi=>?_,fun i j hij hj=>?_,fun i j hij hj=>?_⟩
 · rw[hA i q (by omega)];exact s.lo.1 i q (by omega) hN
 · rw[hU i q (by omega)];exact s.lo.2.1 i q (by omega) hN
 · rw[hC i q (by omega)];exact s.lo.2.2 i q (by omega) hN
 · by_cases h:i=top
   · subst h
     refine⟨?_,?_,?_⟩
     · rw[hA i q (Nat.le_refl _)];exact le (s.lo.1 i q (Nat.le_refl _) ht) (by omega)
     · rw[hU i q (Nat.le_refl _)];exact le (s.lo.2.1 i q (Nat.le_refl _) ht) (by omega)
     · have h3:=I.sC q
       have h4:i*2^(u+u)≤2^(u+u+3):=by rw[Nat.pow_add _ _ 3,Nat.mul_comm];exact Nat.mul_le_mul_left _ (by omega)
       have h5:2^(u+u+3)*2≤2^u':=by rw[←Nat.pow_succ];exact Nat.pow_le_pow_right (by decide) h2
       have h6:2^e'*2≤2^u':=by rw[←Nat.pow_succ];exact Nat.pow_le_pow_right (by decide) (by omega)
       omega
   · have hi':i<top:=by omega
     refine⟨le (I.sz i q hi').1 h1,le (I.sz i q hi').2 h1,?_⟩
     rw[hC i q h]
     have:g b.C i q=g b0.C i q:=by unfold g;rw[(s.up i hi').2.2]
     rw[this]
     exact le (S.hi i q hi').2.2 (by omega)
 · rw[hA i q (by omega)]
   by_cases h:q=p
   · rw[h];exact s.z1 i (by omega) hN
   · exact s.zs i q (by omega) hN (by omega)
 · by_cases h:i=top
   · subst h
     rw[if_pos rfl]
     refine⟨Nat.lt_succ_self p,?_,fun q hq=>?_⟩
     · rw[hA i p (Nat.le_refl _)];exact s.tp
     · rw[hA i q (Nat.le_refl _)];exact s.zs i q (Nat.le_refl _) ht hq
   · have hi':i<top:=by omega
     rw[if_neg h]
     obtain⟨a1,a2,a3⟩:=S.lead i hi'
     refine⟨Nat.lt_succ_of_lt a1,?_,fun q hq=>?_⟩
     · rw[I.ah i _ hi' a1,hup i _ hi'];exact a2
     · rw[I.ah i _ hi' (Nat.lt_trans hq a1),hup i _ hi'];exact a3 q hq
 · by_cases h:j=top
   · rw[if_pos h,if_neg (by omega)];exact(S.lead i (by omega)).1
   · rw[if_neg h,if_neg (by omega)];exact S.mono i j hij (by omega)
 · by_cases h:j=top
   · subst h
     rw[if_pos rfl]
     exact I.rd i hij
   · have hj':j<top:=by omega
     rw[if_neg h]
     have:=S.red i j hij hj'
     have hl:=(S.lead j hj').1
     rw[I.ah i _ (by omega) hl,I.ah j _ hj' hl,hup i _ (by omega),hup j _ hj']
     exact this
theorem Tn.start{A:Rows}{N w:Nat}(hA:cm N w A):Tn A A (units N) (units N) N w where
 isA:=hA
 eF:=j5 N
 e9:=j5 N
 ua:=fun i c hi hc=>by
  rw[←xn hi fun k=>g A k c]
  exact cA fun m hm=>by rw[gw hi hm]
 ub:=fun i j hi hj=>by
  rw[vg i j,←xn hi fun k=>dl j k]
  · exact cA fun m hm=>by rw[gw hi hm,gw hj hm]
 bu:=fun i j hi hj=>by
  rw[←ue hi fun k=>dl k j]
  exact cA fun m hm=>by rw[gw hm hi,gw hm hj,Int.mul_comm]
theorem jw.start{A:Rows}{N w e:Nat}(hA:cm N w A)(h:gS A N 0 (2^e)):jw A N w ⟨A,units N,units N⟩ 0 0 (fun _=>0) e 0:=by
 have hu:gS (units N) N 0 (2^e):=fun i c _ hi=>by
  by_cases hc:c<N
  · rw[gw hi hc]
    unfold dl
    split
    · exact Nat.one_le_two_pow
    · exact Nat.zero_le _
  · unfold g
    rw[jN (l:=(units N).getD i []) (by rw[bW (j5 N) hi];omega)]
    exact Nat.zero_le _
 exact⟨Tn.start hA,Nat.zero_le _,⟨h,hu,hu⟩,fun _ _ h=>absurd h (Nat.not_lt_zero _),fun _ _ _ _ h=>absurd h (Nat.not_lt_zero _),fun _ h=>absurd h (Nat.not_lt_zero _),fun _ _ _ h=>absurd h (Nat.not_lt_zero _),fun _ _ _ h=>absurd h (Nat.not_lt_zero _)⟩
end Mx
namespace Mx
def SU(f:Nat→Nat):Nat→Nat
 |0=>0
 |n+1=>SU f n+f n
theorem zH{f f':Nat→Nat}:∀ {n:Nat},(∀i,i<n→f' i≤f i)→SU f' n≤SU f n
 |0,_=>Nat.le_refl _
 |n+1,h=>Nat.add_le_add (zH fun i hi=>h i (Nat.lt_succ_of_lt hi)) (h n (Nat.lt_succ_self n))
theorem Ab{f f':Nat→Nat}{k:Nat}(hlt:f' k<f k):∀ {n:Nat},k<n→(∀i,i<n→f' i≤f i)→SU f' n<SU f n
 |0,hk,_=>absurd hk (Nat.not_lt_zero _)
 |n+1,hk,h=>by
  by_cases e:k=n
  · subst e
    exact Nat.add_lt_add_of_le_of_lt (zH fun i hi=>h i (Nat.lt_succ_of_lt hi)) hlt
  · exact Nat.add_lt_add_of_lt_of_le (Ab hlt (by omega) fun i hi=>h i (Nat.lt_succ_of_lt hi)) (h n (Nat.lt_succ_self n))
def mu(A:Rows)(N p:Nat):Nat:=SU (fun i=>(g A i p).natAbs) N
inductive uL(N p:Nat):Nat→B3→Nat→B3→Prop
 |none {top:Nat} {b:B3} (h:fX b.A N top p []):uL N p top b top b
 |one {top r:Nat} {b c:B3} (h:e7 N top p b c) (l:fX c.A N top p [r]):uL N p top b (top+1) (jt p top top (setB c p top r))
theorem uL.unique{N p t t1 t2:Nat}{b b1 b2:B3}(h:uL N p t b t1 b1)(h':uL N p t b t2 b2):t1=t2∧b1=b2:=by
 have no:∀ {c:B3} {r:Nat},fX b.A N t p []→e7 N t p b c→fX c.A N t p [r]→False:=fun{c r} h g l=>by
  cases g with
  |refl=>have:=h.unique l;cases this
  |head s _=>exact oV.stop ⟨[],h,by simp⟩ s
 cases h with
 |none h=>
  cases h' with
  |none _=>exact⟨rfl,rfl⟩
  |one g l=>exact(no h g l).elim
 |one g l=>
  cases h' with
  |none h=>exact(no h g l).elim
  |one g' l'=>
   have e:=g.unique ⟨_,l,by simp⟩ g' ⟨_,l',by simp⟩
   subst e
   have e2:=l.unique l'
   cases e2
   exact⟨rfl,rfl⟩
inductive j4(A:Rows)(N:Nat):Nat→Nat→B3→Prop
 |start:j4 A N 0 0 ⟨A,units N,units N⟩
 |next {p t t':Nat} {b b':B3} (h:j4 A N p t b) (c:uL N p t b t' b'):j4 A N (p+1) t' b'
theorem j4.unique{A:Rows}{N:Nat}:∀ {p t1 t2:Nat} {b1 b2:B3},j4 A N p t1 b1→j4 A N p t2 b2→t1=t2∧b1=b2
 |0,_,_,_,_,.start,.start=>⟨rfl,rfl⟩
 |p+1,_,_,_,_,.next h c,.next h' c'=>by
  obtain⟨rfl,rfl⟩:=j4.unique h h'
  exact c.unique c'
def Ez(N e0:Nat):Nat→Nat
 |0=>e0
 |t+1=>(N-t+1)*(Ez N e0 t+1)
def Vz(N e0:Nat):Nat→Nat
 |0=>0
 |t+1=>Vz N e0 t+Vz N e0 t+Ez N e0 (t+1)+5
theorem DR:∀N,N<9→∀t,t<N+1→Ez N 48 t≤50000000∧Vz N 48 t≤60000000:=by decide+kernel
end Mx
namespace Prog
open PySem L2 L3
open PySem.Spec hiding items?
open PyProof.Rows hiding St
theorem iK{i j:Int}(h1: -(2^64)<i)(h2:i<2^64):IntMulOk i j:= .of_left (intBits_le_64 h1 h2)
theorem mX{i j:Int}(h1: -(2^64)<j)(h2:j<2^64):IntMulOk i j:= .of_right (intBits_le_64 h1 h2)
def isInt:D→Bool
 | .int _=>true
 |_=>false
abbrev aC(r:List Int):List D:=r.map D.int
abbrev cS(r:List Int):D:= .tup (aC r)
abbrev aX(r:List Int):D:= .lst (aC r)
abbrev cH(A:List (List Int)):D:= .tup (A.map cS)
def bN(st:ae):List D→List (List Int)→Prop
 | [],[]=>True
 |d::ds,r::rs=>items? st d=some (aC r)∧bN st ds rs
 |_,_=>False
structure fN(st:ae)(d:D)(A:List (List Int)):Prop where
 ex:∃ds,items? st d=some ds∧bN st ds A
theorem bN.len{st:ae}:∀ {ds:List D} {A:List (List Int)},bN st ds A→ds.length=A.length
 | [],[],_=>rfl
 |_::_,_::_,h=>by simp[bN.len h.2]
theorem bN.tup{st:ae}:∀ {A:List (List Int)},bN st (A.map cS) A
 | []=>trivial
 |_::_=>⟨rfl,bN.tup⟩
theorem bN.lst{st:ae}:∀ {A:List (List Int)},bN st (A.map aX) A
 | []=>trivial
 |_::_=>⟨rfl,bN.lst⟩
theorem bN.get{st:ae}:∀ {ds:List D} {A:List (List Int)} {i:Nat} {d:D},bN st ds A→ds[i]?=some d→∃r,A[i]?=some r∧items? st d=some (aC r)
 |_::_,r::_,0,_,h,e=>by simp at e;subst e;exact⟨r,rfl,h.1⟩
 |_::_,_::_,i+1,d,h,e=>by
  obtain⟨r,e1,e2⟩:=bN.get (i:=i) (d:=d) h.2 (by simpa using e)
  exact⟨r,by simpa using e1,e2⟩
theorem gH{st:ae}{A:List (List Int)}:fN st (cH A) A:=⟨_,rfl,bN.tup⟩
structure Ext(st st':ae):Prop where
 len:st.length≤st'.length
 same:∀m,m<st.length→st'[m]?=st[m]?
theorem Ext.refl{st:ae}:Ext st st:=⟨Nat.le_refl _,fun _ _=>rfl⟩
theorem Ext.push{st:ae}{c:List Cell}:Ext st (st++c):=⟨by simp,fun m h=>List.getElem?_append_left h⟩
theorem iS{r:List Int}{k:Nat}(h:k<r.length):eP (aC r) (k:Int)=some (.int (r.getD k 0)):=by
 refine h8 ?_
 rw[List.getElem?_map,List.getElem?_eq_getElem h,Mx.aV h];rfl
theorem getD_mem{r:List Int}{k:Nat}(h:k<r.length):r.getD k 0∈r:=by rw[Mx.aV h];exact List.getElem_mem _
theorem bN.at{st:ae}{ds:List D}{A:List (List Int)}{k:Nat}(h:bN st ds A)(hk:k<A.length):∃d,eP ds (k:Int)=some d∧items? st d=some (aC (A.getD k [])):=by
 have hl:=h.len
 have e:ds[k]?=some ds[k]:=List.getElem?_eq_getElem (by omega)
 obtain⟨r,er,hr⟩:=h.get e
 refine⟨ds[k],h8 e,?_⟩
 rw[Mx.aV hk]
 rw[List.getElem?_eq_getElem hk]at er
 cases er
 exact hr
theorem ints_app{r:List Int}{x:Int}:aC r++[D.int x]=aC (r++[x]):=by simp[aC]
theorem zE{A:List (List Int)}{r:List Int}:A.map cS++[cS r]=(A++[r]).map cS:=by simp
theorem ou{r s:List Int}{d:D}(h:d∈gu (aC r) (aC s)):∃a b,a∈r∧b∈s∧d= .tup [.int a,.int b]:=by
 obtain⟨n,hn,e⟩:=List.mem_iff_getElem.mp h
 have e':(gu (aC r) (aC s))[n]?=some d:=by rw[List.getElem?_eq_getElem hn,e]
 obtain⟨x,y,ex,ey,rfl⟩:=nN e'
 rw[List.getElem?_map]at ex ey
 cases q1:r[n]? with
 |none=>rw[q1]at ex;cases ex
 |some a=>
  cases q2:s[n]? with
  |none=>rw[q2]at ey;cases ey
  |some b=>
   rw[q1]at ex
   rw[q2]at ey
   cases ex
   cases ey
   exact⟨a,b,List.mem_of_getElem? q1,List.mem_of_getElem? q2,rfl⟩
theorem nP(n:Nat):(List.replicate n [D.int 0]).flatten=aC (List.replicate n 0):=by
 induction n with
 |zero=>rfl
 |succ n ih=>rw[List.replicate_succ,List.flatten_cons,ih];rfl
theorem ll{d:D}{ds:List D}:eP (d::ds) 0=some d:=h8 (j:=0) rfl
theorem x6{x y:D}{xs ys:List D}:gu (x::xs) (y::ys)= .tup [x,y]::gu xs ys:=rfl
def ai:Addr:=118
abbrev fC(b:Bool):Cell:=Cell.tab 98 ⟨48,32,48,66⟩ "Bench.live_rows.<locals>.<lambda>" b
abbrev Cs:List (Addr×Pos×Str):=[(98,⟨48,32,48,66⟩,"Bench.live_rows.<locals>.<lambda>")]
def h7:cM:=fun ds st K=>∃(d:D) (A:List (List Int)),ds=[d]∧fN st d A∧A.length≤1000∧K (cH A) st
def kn:List Str:=["rows"]
def xJ:DS:=(bT (bV d7 (af (dc (eE (aa 0)) [none] (bD 0) ck (bV d7 (af (aa 0) ao))) ao)))
theorem gM{tg:eS}{te:DE}{ok:ae→Prop}{σc:bH}{st:ae}{K:List D→ae→Prop}{ds:List D}{A:List (List Int)}(f:List Int→D)(aH:ok st)(hr:bN st ds A)(hx:∀d r,r∈A→items? st d=some (aC r)→∀K',K' (f r) st→∃σ2,tg d σc=some σ2∧te σ2 st K')(k:K (A.map f) st):cU tg ck te ok σc ds [] st K:=by
 refine gD (fun rest acc st'=>∃(A1 A2:List (List Int)),st=st'∧A1++A2=A∧bN st rest A2∧acc=A1.map f) ?_ ?_ _ _ _ ⟨[],A,rfl,rfl,hr,rfl⟩
 · rintro acc st' ⟨A1,A2,rfl,he,h,rfl⟩
   match A2,h with
   | [],_=>
     rw[List.append_nil]at he
     subst he
     exact⟨aH,k⟩
 · rintro d rest acc st' ⟨A1,A2,rfl,he,h,rfl⟩ next
   match A2,h with
   |r::A2,h=>
    obtain⟨σ2,e2,q⟩:=hx d r (by rw[←he];simp) h.1 (fun y st2=>cU tg ck te ok σc rest (A1.map f++[y]) st2 K) (next _ _ ⟨A1++[r],A2,rfl,by rw[←he];simp,h.2,by simp⟩)
    exact⟨aH,σ2,e2,q⟩
theorem vx:∀ds st K,h7 ds st K→ds.length=1∧xJ {nx:=fun _ st'=>K .aA st',rt:=K} (bx kn ds) st:=by
 rintro ds st K ⟨d,A,rfl,⟨da,hd,ra⟩,hl,k⟩
 refine⟨rfl,?_⟩
 refine mx hd fun ok aH=>⟨cj (by rw[ra.len];exact hl),?_⟩
 refine gM cS aH ra (fun e r hr he K' q=>⟨_,rfl,d5 he q⟩) ?_
 exact d5 rfl k
def iO:cM:=fun ds st K=>∃x y t r s,ds=[x,.int t,y]∧items? st x=some (aC r)∧items? st y=some (aC s)∧r.length≤1000∧(∀b∈s,IntMulOk t b)∧K (aX (Mx.fx r t s)) st
def m_:List Str:=["row","times","other"]
def Bq:DS:=(bT (dc (p8 (af (aa 0) (af (aa 2) ao))) [none,none,some 1] (i5 0 1) ck (aq dw (aa 0) (aq dy (aa 2) (aa 1)))))
theorem mB{t:Int}:∀(r s:List Int),(gu (aC r) (aC s)).map (fun d=>match d with| .tup [.int a,.int b]=> .int (a+t*b)|_=> .aA)=aC (Mx.fx r t s)
 | [],_=>rfl
 |_::_,[]=>rfl
 |a::r,b::s=>by
  have:=mB (t:=t) r s
  unfold gu Mx.fx at this⊢
  simp only[aC,List.map_cons,List.zip_cons_cons,List.zipWith_cons_cons]at this⊢
  rw[this]
theorem zp:∀ds st K,iO ds st K→ds.length=3∧Bq {nx:=fun _ st'=>K .aA st',rt:=K} (bx m_ ds) st:=by
 rintro ds st K ⟨x,y,t,r,s,rfl,hx,hy,hl,hm,k⟩
 refine⟨rfl,?_⟩
 refine ox hx hy fun ok aH=>⟨cj (by rw[lp];simp;omega),?_⟩
 refine comp_map (g:=fun d=>match d with| .tup [.int a,.int b]=> .int (a+t*b)|_=> .aA) (aH st hx hy) _ (fun d hd K' q=>?_) ?_
 · obtain⟨a,b,ha,hb,rfl⟩:=ou hd
   exact⟨_,rfl,fE (hm b hb) (d8 q)⟩
 · rw[mB];exact k
def kg:cM:=fun ds st K=>∃(d:D) (A:List (List Int)) (j:Nat),ds=[d,.int j]∧fN st d A∧(∀r∈A,j<r.length)∧A.length≤1000∧K (cS (Mx.lL A j)) st
def lj:List Str:=["rows","place"]
def yX:DS:=(bT (bV d7 (af (dc (eE (aa 0)) [none,some 1] (bD 0) ck (aq bw (aa 0) (aa 1))) ao)))
theorem xm{tg:eS}{te:DE}{ok:ae→Prop}{σc:bH}{st:ae}{K:List D→ae→Prop}{ds:List D}{A:List (List Int)}(f:List Int→D)(aH:ok st)(hr:bN st ds A)(hx:∀d r,r∈A→items? st d=some (aC r)→∀K',K' (f r) st→∃σ2,tg d σc=some σ2∧te σ2 st K')(k:K (A.map f) st):cU tg ck te ok σc ds [] st K:=by
 refine gD (fun rest acc st'=>∃(A1 A2:List (List Int)),st=st'∧A1++A2=A∧bN st rest A2∧acc=A1.map f) ?_ ?_ _ _ _ ⟨[],A,rfl,rfl,hr,rfl⟩
 · rintro acc st' ⟨A1,A2,rfl,he,h,rfl⟩
   match A2,h with
   | [],_=>
     rw[List.append_nil]at he
     subst he
     exact⟨aH,k⟩
 · rintro d rest acc st' ⟨A1,A2,rfl,he,h,rfl⟩ next
   match A2,h with
   |r::A2,h=>
    obtain⟨σ2,e2,q⟩:=hx d r (by rw[←he];simp) h.1 (fun y st2=>cU tg ck te ok σc rest (A1.map f++[y]) st2 K) (next _ _ ⟨A1++[r],A2,rfl,by rw[←he];simp,h.2,by simp⟩)
    exact⟨aH,σ2,e2,q⟩
theorem wZ(A:List (List Int))(j:Nat):A.map (fun r=>D.int (r.getD j 0))=aC (Mx.lL A j):=by unfold Mx.lL aC;rw[List.map_map];rfl
theorem wY:∀ds st K,kg ds st K→ds.length=2∧yX {nx:=fun _ st'=>K .aA st',rt:=K} (bx lj ds) st:=by
 rintro ds st K ⟨d,A,j,rfl,⟨da,hd,ra⟩,hj,hl,k⟩
 refine⟨rfl,?_⟩
 refine mx hd fun ok aH=>⟨cj (by rw[ra.len];exact hl),?_⟩
 refine xm (fun r=> .int (r.getD j 0)) aH ra (fun e r hr he K' q=>⟨_,rfl,aJ he (iS (hj r hr)) q⟩) ?_
 rw[wZ]
 exact d5 rfl k
def fR:cM:=fun ds st K=>∃(d:D) (A:List (List Int)) (n:Nat),ds=[d,.int n]∧fN st d A∧(∀r∈A,r.length=n)∧A.length≤1000∧n≤1000∧K (cH (Mx.gT A n)) st
def g_:List Str:=["rows","wide"]
def qL:DS:=(bT (bV d7 (af (dc (dJ (af (aa 1) ao)) [none,some 0] (bD 0) ck (a_ kg (af (aa 1) (af (aa 0) ao)))) ao)))
theorem yL(A:List (List Int))(n:Nat):(List.range n).map (fun j=>cS (Mx.lL A j))=(Mx.gT A n).map cS:=by unfold Mx.gT;rw[List.map_map];rfl
theorem pR:∀ds st K,fR ds st K→ds.length=2∧qL {nx:=fun _ st'=>K .aA st',rt:=K} (bx g_ ds) st:=by
 rintro ds st K ⟨d,A,n,rfl,hd,hw,hl,hn,k⟩
 refine⟨rfl,?_⟩
 refine eW ⟨by omega,by omega⟩ ⟨cj (by rw[eA];omega),?_⟩
 rw[Int.toNat_natCast]
 refine iD (fun j=>cS (Mx.lL A j)) n (fun i hi K' q=>⟨_,rfl,d,A,i,rfl,hd,fun r hr=>by rw[hw r hr];exact hi,hl,q⟩) ?_
 rw[yL]
 exact d5 rfl k
def iz:cM:=fun ds st K=>∃(n i:Nat),ds=[.int n,.int i]∧n≤1000∧K (cS (Mx.eX n i)) st
def jE:List Str:=["n","place"]
def vq:DS:=(bT (bV d7 (af (dc (dJ (af (aa 0) ao)) [none,some 1] (bD 0) ck (DV (aY (aq gF (aa 0) (aa 1))) (dC (.int 1)) (dC (.int 0)))) ao)))
theorem uj:∀ds st K,iz ds st K→ds.length=2∧vq {nx:=fun _ st'=>K .aA st',rt:=K} (bx jE ds) st:=by
 rintro ds st K ⟨n,i,rfl,hn,k⟩
 refine⟨rfl,?_⟩
 refine eW ⟨by omega,by omega⟩ ⟨cj (by rw[eA];omega),?_⟩
 rw[Int.toNat_natCast]
 refine iD (fun j=> .int (Mx.dl j i)) n (fun j hj K' q=>⟨_,rfl,?_⟩) ?_
 · refine eq2 (fun h=>fJ ?_) fun h=>?_
   · have:j=i:=by omega
     subst this
     rw[Mx.dU]at q;exact q
   · rw[Mx.eB (by omega)]at q;exact q
 · have:(List.range n).map (fun j=>D.int (Mx.dl j i))=aC (Mx.eX n i):=by unfold Mx.eX aC;rw[List.map_map];rfl
   rw[this]
   exact d5 rfl k
def fW:cM:=fun ds st K=>∃(n:Nat),ds=[.int n]∧n≤1000∧K (cH (Mx.units n)) st
def i4:List Str:=["n"]
def ur:DS:=(bT (bV d7 (af (dc (dJ (af (aa 0) ao)) [none,some 0] (bD 0) ck (a_ iz (af (aa 1) (af (aa 0) ao)))) ao)))
theorem tf:∀ds st K,fW ds st K→ds.length=1∧ur {nx:=fun _ st'=>K .aA st',rt:=K} (bx i4 ds) st:=by
 rintro ds st K ⟨n,rfl,hn,k⟩
 refine⟨rfl,?_⟩
 refine eW ⟨by omega,by omega⟩ ⟨cj (by rw[eA];omega),?_⟩
 rw[Int.toNat_natCast]
 refine iD (fun i=>cS (Mx.eX n i)) n (fun i hi K' q=>⟨_,rfl,n,i,rfl,hn,q⟩) ?_
 have:(List.range n).map (fun i=>cS (Mx.eX n i))=(Mx.units n).map cS:=by unfold Mx.units;rw[List.map_map];rfl
 rw[this]
 exact d5 rfl k
def dS:cM:=fun ds st K=>∃(t d:Int),ds=[.int t,.int d]∧d≠0∧K (.int (Mx.qn t d)) st
def e8:List Str:=["top","bottom"]
def mw:DS:=(bT (aq kM (aq dw (aq dy (dC (.int 2)) (aa 0)) (aa 1)) (aq dy (dC (.int 2)) (aa 1))))
theorem za{a:Int}{m:Nat}(h:a.natAbs<2^m):Builtin.Int.intBits a≤m:=by
 unfold Builtin.Int.intBits
 by_cases h0:a.natAbs=0
 · have:a=0:=by omega
   subst this
   simp
 · have:=(Nat.log2_lt h0).mpr h
   split<;>omega
theorem ij{a b:Int}{m n:Nat}(ha:a.natAbs≤2^m)(hb:b.natAbs≤2^n)(h:m+n≤130000000):IntMulOk a b:=by
 have q:∀ {x:Int} {k:Nat},x.natAbs≤2^k→Builtin.Int.intBits x≤k+1:=fun{x k} h=>za (Nat.lt_of_le_of_lt h (Nat.pow_lt_pow_right (by decide) (Nat.lt_succ_self k)))
 have h1:=q ha
 have h2:=q hb
 have e:(2:Nat)^27=134217728:=by decide
 have z:Builtin.Int.intTooBig (Builtin.Int.intBits a+Builtin.Int.intBits b)=false:=by
  unfold Builtin.Int.intTooBig bitsLine
  exact decide_eq_false (by omega)
 unfold IntMulOk
 rw[z]
 simp
theorem lR:∀ds st K,dS ds st K→ds.length=2∧mw {nx:=fun _ st'=>K .aA st',rt:=K} (bx e8 ds) st:=by
 rintro ds st K ⟨t,d,rfl,hd,k⟩
 exact⟨rfl,fE (iK (by decide) (by decide)) (d8 (fE (iK (by decide) (by decide)) (sy (by omega) k)))⟩
def fm:cM:=fun ds st K=>∃(n k o:Nat) (A:List (List Int)),ds=[.ref n,.int k,.int o]∧st[n]?=some (.lst (A.map aX))∧k<A.length∧o<A.length∧K (.ref st.length) (st++[.lst ((Mx.bp A k o).map aX)])
def i8:List Str:=["rows","k","other","order"]
def uu:DS:=(aQ (cf 3 (bV j0 (af (aa 0) ao)))
 (aQ (eL (aa 3) (aa 1) (aq bw (aa 0) (aa 2)))
 (aQ (eL (aa 3) (aa 2) (aq bw (aa 0) (aa 1)))
 (bT (aa 3)))))
theorem cV{A:List (List Int)}{j:Nat}(h:j<A.length):eP (A.map aX) (j:Int)=some (aX (A.getD j [])):=by
 refine h8 ?_
 rw[List.getElem?_map,List.getElem?_eq_getElem h,Mx.aV h];rfl
theorem jh{m k:Nat}(h:k<m):jx m (k:Int)=some k:=by
 have:=Dl (i:=(k:Int)) (m:=m) (by omega) (by omega)
 rw[Int.toNat_natCast]at this
 exact this
theorem fT{A:List (List Int)}{k:Nat}{r:List Int}:(A.map aX).set k (aX r)=(A.set k r).map aX:=by rw[List.map_set]
theorem tH:∀ds st K,fm ds st K→ds.length=3∧uu {nx:=fun _ st'=>K .aA st',rt:=K} (bx i8 ds) st:=by
 rintro ds st K ⟨n,k,o,A,rfl,e,hk,ho,kk⟩
 refine⟨rfl,?_⟩
 have hn:n<st.length:=(List.getElem?_eq_some_iff.mp e).1
 refine tK (aE e) ?_
 have e1:(st++[Cell.lst (A.map aX)])[n]?=some (.lst (A.map aX)):=by rw[List.getElem?_append_left hn];exact e
 have e2:(st++[Cell.lst (A.map aX)])[st.length]?=some (.lst (A.map aX)):=by simp
 refine aJ (aE e1) (cV ho) (iB e2 (by rw[List.length_map];exact jh hk) ?_)
 rw[fT]
 have es:(st++[Cell.lst (A.map aX)]).set st.length (.lst ((A.set k (A.getD o [])).map aX))=st++[Cell.lst ((A.set k (A.getD o [])).map aX)]:=by
  rw[List.set_append_right _ _ (Nat.le_refl _),Nat.sub_self];rfl
 rw[es]
 have e3:(st++[Cell.lst ((A.set k (A.getD o [])).map aX)])[n]?=some (.lst (A.map aX)):=by rw[List.getElem?_append_left hn];exact e
 have e4:(st++[Cell.lst ((A.set k (A.getD o [])).map aX)])[st.length]?=some (.lst ((A.set k (A.getD o [])).map aX)):=by simp
 refine aJ (aE e3) (cV hk) (iB e4 (by rw[List.length_map,List.length_set];exact jh ho) ?_)
 rw[fT]
 have es2:(st++[Cell.lst ((A.set k (A.getD o [])).map aX)]).set st.length (.lst (((A.set k (A.getD o [])).set o (A.getD k [])).map aX))=st++[Cell.lst ((Mx.bp A k o).map aX)]:=by
  rw[List.set_append_right _ _ (Nat.le_refl _),Nat.sub_self];rfl
 rw[es2]
 exact kk
def gv:cM:=fun ds st K=>∃(d:D) (r:List Int),ds=[d]∧items? st d=some (aC r)∧r.length≤1000∧K (aX (r.map fun x=> -x)) st
def kj:List Str:=["row"]
def x4:DS:=(bT (dc (eE (aa 0)) [none] (bD 0) ck (mv iP (aa 0))))
theorem vD:∀ds st K,gv ds st K→ds.length=1∧x4 {nx:=fun _ st'=>K .aA st',rt:=K} (bx kj ds) st:=by
 rintro ds st K ⟨d,r,rfl,hd,hl,k⟩
 refine⟨rfl,?_⟩
 refine mx hd fun ok aH=>⟨cj (by unfold aC;rw[List.length_map];exact hl),?_⟩
 refine comp_map (g:=fun x=>match x with| .int a=> .int (-a)|_=> .aA) aH _ (fun x hx K' q=>?_) ?_
 · unfold aC at hx
   obtain⟨a,_,rfl⟩:=List.mem_map.mp hx
   exact⟨_,rfl,jo q⟩
 · have e:(aC r).map (fun x=>match x with| .int a=> .int (-a)|_=> .aA)=aC (r.map fun x=> -x):=by unfold aC;rw[List.map_map,List.map_map];rfl
   rw[e];exact k
structure Bn(st:ae)(b xb xu xc:Nat)(A U C:List (List Int)):Prop where
 eb:st[b]?=some (Cell.ins ai [("body",.ref xb),("turn",.ref xu),("back_columns",.ref xc)])
 e1:st[xb]?=some (Cell.lst (A.map aX))
 e2:st[xu]?=some (Cell.lst (U.map aX))
 e3:st[xc]?=some (Cell.lst (C.map aX))
 n1:xb≠xu
 n2:xb≠xc
 n3:xu≠xc
theorem iy{st:ae}{b x:Nat}{C:Addr}{fs:List (Str×D)}{xs:List D}(h1:st[b]?=some (Cell.ins C fs))(h2:st[x]?=some (Cell.lst xs)):b≠x:=fun z=>by rw[z,h2]at h1;cases h1
def eR:cM:=fun ds st K=>∃(b N:Nat) (d:D) (A:List (List Int)),ds=[.ref b,d]∧st[b]?=some (.ins ai [])∧fN st d A∧A.length=N∧N≤8∧∀st',Bn st' b st.length (st.length+1) (st.length+2) A (Mx.units N) (Mx.units N)→st'.length=st.length+3→(∀m,m<st.length→m≠b→st'[m]?=st[m]?)→K .aA st'
def fP:List Str:=["self","rows"]
def nU:DS:=(aQ (kl ai "body" (aa 0) (mF (eE (aa 1)) [none] (bD 0) ck (bV jD (af (aa 0) ao))))
 (aQ (kl ai "turn" (aa 0) (mF (eE (a_ fW (af (bV eg (af (aa 1) ao)) ao))) [none] (bD 0) ck (bV jD (af (aa 0) ao))))
 (kl ai "back_columns" (aa 0) (mF (eE (a_ fW (af (bV eg (af (aa 1) ao)) ao))) [none] (bD 0) ck (bV jD (af (aa 0) ao))))))
theorem lF(f:Str)(v:D):∀fs:List (Str×D),(putD f v fs).length≤fs.length+1
 | []=>by simp[putD]
 |(g,x)::r=>by
  unfold putD
  split
  · simp
  · have:=lF f v r
    simp only[List.length_cons]
    omega
theorem sR{st:ae}{A:List (List Int)}:bN st (A.map cS) A:=bN.tup
theorem qx(n:Nat):(Mx.units n).length=n:=by unfold Mx.units;simp
theorem nq:∀ds st K,eR ds st K→ds.length=2∧nU {nx:=fun _ st'=>K .aA st',rt:=K} (bx fP ds) st:=by
 rintro ds st K ⟨b,N,d,A,rfl,eb,hA,hl,hN,k⟩
 refine⟨rfl,?_⟩
 have hb:b<st.length:=(List.getElem?_eq_some_iff.mp eb).1
 obtain⟨da,hd,ra⟩:=hA.ex
 have hdl:=ra.len
 have lst:∀(e:D) (r:List Int),True:=fun _ _=>trivial
 refine mx hd fun ok aH=>⟨cj (by omega),?_⟩
 refine gM aX aH ra (fun e r hr he K' q=>⟨_,rfl,kH he q⟩) ?_
 have eb1:(st++[Cell.lst (A.map aX)])[b]?=some (.ins ai []):=by rw[List.getElem?_append_left hb];exact eb
 refine jP eb1 (by decide) ?_
 generalize hs1:(st++[Cell.lst (A.map aX)]).set b (.ins ai (putD "body" (.ref st.length) []))=st1
 have l1:st1.length=st.length+1:=by rw[←hs1];simp
 have f1:∀m,m<st.length→m≠b→st1[m]?=st[m]?:=fun m hm hmb=>by rw[←hs1,List.getElem?_set_ne (Ne.symm hmb),List.getElem?_append_left hm]
 have b1:st1[b]?=some (.ins ai (putD "body" (.ref st.length) [])):=by rw[←hs1,List.getElem?_set_self (by simp;omega)]
 have x1:st1[st.length]?=some (.lst (A.map aX)):=by rw[←hs1,List.getElem?_set_ne (by omega)];simp
 clear hs1
 have itd:∃da',items? st1 d=some da'∧da'.length=N:=by
  cases d with
  |ref n=>
   by_cases hnb:n=b
   · subst hnb
     unfold items? at hd
     simp only[eb]at hd
     cases hd
   · have hn:n<st.length:=by
      unfold items? at hd
      simp only at hd
      cases q:st[n]? with
      |none=>rw[q]at hd;cases hd
      |some c=>exact(List.getElem?_eq_some_iff.mp q).1
     refine⟨da,?_,by omega⟩
     unfold items? at hd⊢
     simp only at hd⊢
     rw[f1 n hn hnb]
     exact hd
  |_=>exact⟨da,hd,by omega⟩
 obtain⟨da1,hd1,hdl1⟩:=itd
 refine du hd1 ?_
 rw[hdl1]
 refine⟨N,rfl,by omega,?_⟩
 refine jQ ⟨cj (by rw[List.length_map,qx];omega),?_⟩
 refine gM aX trivial sR (fun e r hr he K' q=>⟨_,rfl,kH he q⟩) ?_
 have b2:(st1++[Cell.lst ((Mx.units N).map aX)])[b]?=some (.ins ai (putD "body" (.ref st.length) [])):=by rw[List.getElem?_append_left (by omega)];exact b1
 refine jP b2 (by have:=lF "body" (.ref st.length) [];simp only[List.length_nil]at this;omega) ?_
 generalize hs2:(st1++[Cell.lst ((Mx.units N).map aX)]).set b (.ins ai (putD "turn" (.ref st1.length) (putD "body" (.ref st.length) [])))=st2
 have l2:st2.length=st.length+2:=by rw[←hs2];simp;omega
 have f2:∀m,m<st1.length→m≠b→st2[m]?=st1[m]?:=fun m hm hmb=>by rw[←hs2,List.getElem?_set_ne (Ne.symm hmb),List.getElem?_append_left hm]
 have b2':st2[b]?=some (.ins ai (putD "turn" (.ref st1.length) (putD "body" (.ref st.length) []))):=by rw[←hs2,List.getElem?_set_self (by simp;omega)]
 have x2:st2[st1.length]?=some (.lst ((Mx.units N).map aX)):=by rw[←hs2,List.getElem?_set_ne (by omega)];simp
 clear hs2
 have itd2:items? st2 d=some da1:=by
  cases d with
  |ref n=>
   by_cases hnb:n=b
   · subst hnb
     unfold items? at hd1
     simp only[b1]at hd1
     cases hd1
   · have hn:n<st1.length:=by
      unfold items? at hd1
      simp only at hd1
      cases q:st1[n]? with
      |none=>rw[q]at hd1;cases hd1
      |some c=>exact(List.getElem?_eq_some_iff.mp q).1
     unfold items? at hd1⊢
     simp only at hd1⊢
     rw[f2 n hn hnb]
     exact hd1
  |_=>exact hd1
 refine du itd2 ?_
 rw[hdl1]
 refine⟨N,rfl,by omega,?_⟩
 refine jQ ⟨cj (by rw[List.length_map,qx];omega),?_⟩
 refine gM aX trivial sR (fun e r hr he K' q=>⟨_,rfl,kH he q⟩) ?_
 have b3:(st2++[Cell.lst ((Mx.units N).map aX)])[b]?=some (.ins ai (putD "turn" (.ref st1.length) (putD "body" (.ref st.length) []))):=by rw[List.getElem?_append_left (by omega)];exact b2'
 refine jP b3 (by have h1:=lF "body" (.ref st.length) [];have h2:=lF "turn" (.ref st1.length) (putD "body" (.ref st.length) []);simp only[List.length_nil]at h1;omega) ?_
 refine k _ ⟨?_,?_,?_,?_,by omega,by omega,by omega⟩ (by simp;omega) fun m hm hmb=>?_
 · rw[List.getElem?_set_self (by simp;omega),l1,l2];rfl
 · rw[List.getElem?_set_ne (by omega),List.getElem?_append_left (by omega),f2 _ (by omega) (by omega)];exact x1
 · rw[List.getElem?_set_ne (by omega),List.getElem?_append_left (by omega)]
   rw[l1]at x2
   exact x2
 · rw[List.getElem?_set_ne (by omega)]
   rw[show st.length+2=st2.length by omega]
   simp
 · rw[List.getElem?_set_ne (Ne.symm hmb),List.getElem?_append_left (by omega),f2 m (by omega) hmb,f1 m hm hmb]
def eQ:cM:=fun ds st K=>∃(b xb xu xc N w k j:Nat) (A U C:List (List Int)) (q:Int),ds=[.ref b,.int k,.int q,.int j]∧Bn st b xb xu xc A U C∧Mx.cm N w A∧Mx.cm N N U∧Mx.cm N N C∧k<N∧j<N∧N≤8∧w≤9∧(∀x∈A.getD j [],IntMulOk (-q) x)∧(∀x∈U.getD j [],IntMulOk (-q) x)∧(∀x∈C.getD k [],IntMulOk q x)∧
 ∀st',Bn st' b xb xu xc (Mx.bt A k q j) (Mx.bt U k q j) (Mx.bt C j (-q) k)→st'.length=st.length→(∀m,m≠xb→m≠xu→m≠xc→st'[m]?=st[m]?)→K .aA st'
def ir:List Str:=["self","k","times","other"]
def t_:DS:=(aQ (eL (dg ai "body" (aa 0)) (aa 1) (a_ iO (af (aq bw (dg ai "body" (aa 0)) (aa 1)) (af (mv iP (aa 2)) (af (aq bw (dg ai "body" (aa 0)) (aa 3)) ao)))))
 (aQ (eL (dg ai "turn" (aa 0)) (aa 1) (a_ iO (af (aq bw (dg ai "turn" (aa 0)) (aa 1)) (af (mv iP (aa 2)) (af (aq bw (dg ai "turn" (aa 0)) (aa 3)) ao)))))
 (eL (dg ai "back_columns" (aa 0)) (aa 3) (a_ iO (af (aq bw (dg ai "back_columns" (aa 0)) (aa 3)) (af (aa 2) (af (aq bw (dg ai "back_columns" (aa 0)) (aa 1)) ao)))))))
theorem qY:∀ds st K,eQ ds st K→ds.length=4∧t_ {nx:=fun _ st'=>K .aA st',rt:=K} (bx ir ds) st:=by
 rintro ds st K ⟨b,xb,xu,xc,N,w,k,j,A,U,C,q,rfl,B,hA,hU,hC,hk,hj,hN,hw,mA,mU,mC,kk⟩
 refine⟨rfl,?_⟩
 have lA:=hA.len
 have lU:=hU.len
 have lC:=hC.len
 have rA:=Mx.bW hA hk
 have rU:=Mx.bW hU hk
 have rC:=Mx.bW hC hj
 have bx1:=iy B.eb B.e1
 have bx2:=iy B.eb B.e2
 have bx3:=iy B.eb B.e3
 have n1:=B.n1
 have n2:=B.n2
 have n3:=B.n3
 refine bY B.eb rfl (aJ (aE B.e1) (cV (by omega)) (jo (bY B.eb rfl (aJ (aE B.e1) (cV (by omega)) ?_))))
 refine⟨_,_,-q,A.getD k [],A.getD j [],rfl,rfl,rfl,by omega,mA,?_⟩
 refine bY B.eb rfl (iB B.e1 (by rw[List.length_map,lA];exact jh hk) ?_)
 rw[fT]
 have g1:∀m,m≠xb→(st.set xb (.lst ((A.set k (Mx.fx (A.getD k []) (-q) (A.getD j []))).map aX)))[m]?=st[m]?:=fun m hm=>List.getElem?_set_ne (Ne.symm hm)
 have h1:(st.set xb (.lst ((A.set k (Mx.fx (A.getD k []) (-q) (A.getD j []))).map aX)))[xb]?=some (.lst ((Mx.bt A k q j).map aX)):=List.getElem?_set_self (List.getElem?_eq_some_iff.mp B.e1).1
 have z1:(st.set xb (.lst ((A.set k (Mx.fx (A.getD k []) (-q) (A.getD j []))).map aX))).length=st.length:=List.length_set
 generalize st.set xb (.lst ((A.set k (Mx.fx (A.getD k []) (-q) (A.getD j []))).map aX))=st1 at g1 h1 z1⊢
 have eb1:=(g1 b bx1).trans B.eb
 have e21:=(g1 xu (Ne.symm n1)).trans B.e2
 have e31:=(g1 xc (Ne.symm n2)).trans B.e3
 refine bY eb1 rfl (aJ (aE e21) (cV (by omega)) (jo (bY eb1 rfl (aJ (aE e21) (cV (by omega)) ?_))))
 refine⟨_,_,-q,U.getD k [],U.getD j [],rfl,rfl,rfl,by omega,mU,?_⟩
 refine bY eb1 rfl (iB e21 (by rw[List.length_map,lU];exact jh hk) ?_)
 rw[fT]
 have g2:∀m,m≠xu→(st1.set xu (.lst ((U.set k (Mx.fx (U.getD k []) (-q) (U.getD j []))).map aX)))[m]?=st1[m]?:=fun m hm=>List.getElem?_set_ne (Ne.symm hm)
 have h2:(st1.set xu (.lst ((U.set k (Mx.fx (U.getD k []) (-q) (U.getD j []))).map aX)))[xu]?=some (.lst ((Mx.bt U k q j).map aX)):=List.getElem?_set_self (List.getElem?_eq_some_iff.mp e21).1
 have z2:(st1.set xu (.lst ((U.set k (Mx.fx (U.getD k []) (-q) (U.getD j []))).map aX))).length=st1.length:=List.length_set
 generalize st1.set xu (.lst ((U.set k (Mx.fx (U.getD k []) (-q) (U.getD j []))).map aX))=st2 at g2 h2 z2⊢
 have eb2:=(g2 b bx2).trans eb1
 have e32:=(g2 xc (Ne.symm n3)).trans e31
 refine bY eb2 rfl (aJ (aE e32) (cV (by omega)) (bY eb2 rfl (aJ (aE e32) (cV (by omega)) ?_)))
 refine⟨_,_,q,C.getD j [],C.getD k [],rfl,rfl,rfl,by omega,mC,?_⟩
 refine bY eb2 rfl (iB e32 (by rw[List.length_map,lC];exact jh hj) ?_)
 rw[fT]
 have hc:C.set j (Mx.fx (C.getD j []) q (C.getD k []))=Mx.bt C j (-q) k:=by unfold Mx.bt;rw[Int.neg_neg]
 rw[hc]
 refine kk _ ⟨?_,?_,?_,?_,n1,n2,n3⟩ (by rw[List.length_set];omega) fun m m1 m2 m3=>?_
 · rw[List.getElem?_set_ne (Ne.symm bx3)];exact eb2
 · rw[List.getElem?_set_ne (Ne.symm n2),g2 _ n1];exact h1
 · rw[List.getElem?_set_ne (Ne.symm n3)];exact h2
 · exact List.getElem?_set_self (List.getElem?_eq_some_iff.mp e32).1
 · rw[List.getElem?_set_ne (Ne.symm m3),g2 m m2,g1 m m1]
def eO:cM:=fun ds st K=>∃(b xb xu xc N w k o:Nat) (A U C:List (List Int)),ds=[.ref b,.int k,.int o]∧Bn st b xb xu xc A U C∧Mx.cm N w A∧Mx.cm N N U∧Mx.cm N N C∧k<N∧o<N∧
 ∀st',Bn st' b st.length (st.length+1) (st.length+2) (Mx.bp A k o) (Mx.bp U k o) (Mx.bp C k o)→st'.length=st.length+3→(∀m,m<st.length→m≠b→st'[m]?=st[m]?)→K .aA st'
def fM:List Str:=["self","k","other"]
def nQ:DS:=(aQ (kl ai "body" (aa 0) (a_ fm (af (dg ai "body" (aa 0)) (af (aa 1) (af (aa 2) ao)))))
 (aQ (kl ai "turn" (aa 0) (a_ fm (af (dg ai "turn" (aa 0)) (af (aa 1) (af (aa 2) ao)))))
 (kl ai "back_columns" (aa 0) (a_ fm (af (dg ai "back_columns" (aa 0)) (af (aa 1) (af (aa 2) ao)))))))
theorem nh:∀ds st K,eO ds st K→ds.length=3∧nQ {nx:=fun _ st'=>K .aA st',rt:=K} (bx fM ds) st:=by
 rintro ds st K ⟨b,xb,xu,xc,N,w,k,o,A,U,C,rfl,B,hA,hU,hC,hk,ho,kk⟩
 refine⟨rfl,?_⟩
 have lA:=hA.len
 have lU:=hU.len
 have lC:=hC.len
 have bx1:=iy B.eb B.e1
 have bx2:=iy B.eb B.e2
 have bx3:=iy B.eb B.e3
 have hb:b<st.length:=(List.getElem?_eq_some_iff.mp B.eb).1
 have hu:xu<st.length:=(List.getElem?_eq_some_iff.mp B.e2).1
 have hc:xc<st.length:=(List.getElem?_eq_some_iff.mp B.e3).1
 refine bY B.eb rfl ?_
 refine⟨xb,k,o,A,rfl,B.e1,by omega,by omega,?_⟩
 have eb1:(st++[Cell.lst ((Mx.bp A k o).map aX)])[b]?=some (.ins ai [("body",.ref xb),("turn",.ref xu),("back_columns",.ref xc)]):=by rw[List.getElem?_append_left hb];exact B.eb
 refine jP eb1 (by simp) ?_
 have pb:putD "body" (.ref st.length) [("body",.ref xb),("turn",.ref xu),("back_columns",.ref xc)]=([("body",.ref st.length),("turn",.ref xu),("back_columns",.ref xc)]:List (Str×D)):=rfl
 rw[pb]
 generalize hs1:(st++[Cell.lst ((Mx.bp A k o).map aX)]).set b (.ins ai [("body",.ref st.length),("turn",.ref xu),("back_columns",.ref xc)])=st1
 have l1:st1.length=st.length+1:=by rw[←hs1];simp
 have f1:∀m,m<st.length→m≠b→st1[m]?=st[m]?:=fun m hm hmb=>by rw[←hs1,List.getElem?_set_ne (Ne.symm hmb),List.getElem?_append_left hm]
 have b1:st1[b]?=some (.ins ai [("body",.ref st.length),("turn",.ref xu),("back_columns",.ref xc)]):=by rw[←hs1,List.getElem?_set_self (by simp;omega)]
 have x1:st1[st.length]?=some (.lst ((Mx.bp A k o).map aX)):=by rw[←hs1,List.getElem?_set_ne (by omega)];simp
 clear hs1 eb1
 refine bY b1 rfl ?_
 refine⟨xu,k,o,U,rfl,(f1 xu hu (Ne.symm bx2)).trans B.e2,by omega,by omega,?_⟩
 have eb1:(st1++[Cell.lst ((Mx.bp U k o).map aX)])[b]?=some (.ins ai [("body",.ref st.length),("turn",.ref xu),("back_columns",.ref xc)]):=by rw[List.getElem?_append_left (by omega)];exact b1
 refine jP eb1 (by simp) ?_
 have pb:putD "turn" (.ref st1.length) [("body",.ref st.length),("turn",.ref xu),("back_columns",.ref xc)]=([("body",.ref st.length),("turn",.ref st1.length),("back_columns",.ref xc)]:List (Str×D)):=rfl
 rw[pb]
 generalize hs2:(st1++[Cell.lst ((Mx.bp U k o).map aX)]).set b (.ins ai [("body",.ref st.length),("turn",.ref st1.length),("back_columns",.ref xc)])=st2
 have l2:st2.length=st.length+2:=by rw[←hs2];simp;omega
 have f2:∀m,m<st1.length→m≠b→st2[m]?=st1[m]?:=fun m hm hmb=>by rw[←hs2,List.getElem?_set_ne (Ne.symm hmb),List.getElem?_append_left hm]
 have b2:st2[b]?=some (.ins ai [("body",.ref st.length),("turn",.ref st1.length),("back_columns",.ref xc)]):=by rw[←hs2,List.getElem?_set_self (by simp;omega)]
 have x2:st2[st1.length]?=some (.lst ((Mx.bp U k o).map aX)):=by rw[←hs2,List.getElem?_set_ne (by omega)];simp
 clear hs2 eb1
 refine bY b2 rfl ?_
 refine⟨xc,k,o,C,rfl,((f2 xc (by omega) (Ne.symm bx3)).trans (f1 xc hc (Ne.symm bx3))).trans B.e3,by omega,by omega,?_⟩
 have eb1:(st2++[Cell.lst ((Mx.bp C k o).map aX)])[b]?=some (.ins ai [("body",.ref st.length),("turn",.ref st1.length),("back_columns",.ref xc)]):=by rw[List.getElem?_append_left (by omega)];exact b2
 refine jP eb1 (by simp) ?_
 have pb:putD "back_columns" (.ref st2.length) [("body",.ref st.length),("turn",.ref st1.length),("back_columns",.ref xc)]=([("body",.ref st.length),("turn",.ref st1.length),("back_columns",.ref st2.length)]:List (Str×D)):=rfl
 rw[pb]
 refine kk _ ⟨?_,?_,?_,?_,by omega,by omega,by omega⟩ (by simp;omega) fun m hm hmb=>?_
 · rw[List.getElem?_set_self (by simp;omega),l1,l2]
 · rw[List.getElem?_set_ne (by omega),List.getElem?_append_left (by omega),f2 _ (by omega) (by omega)];exact x1
 · rw[List.getElem?_set_ne (by omega),List.getElem?_append_left (by omega)]
   rw[l1]at x2
   exact x2
 · rw[List.getElem?_set_ne (by omega)]
   rw[show st.length+2=st2.length by omega]
   simp
 · rw[List.getElem?_set_ne (Ne.symm hmb),List.getElem?_append_left (by omega),f2 m (by omega) hmb,f1 m hm hmb]
def dz:cM:=fun ds st K=>∃(b xb xu xc N w k:Nat) (A U C:List (List Int)),ds=[.ref b,.int k]∧Bn st b xb xu xc A U C∧Mx.cm N w A∧Mx.cm N N U∧Mx.cm N N C∧k<N∧N≤8∧w≤9∧
 ∀st',Bn st' b xb xu xc (Mx.ft A k) (Mx.ft U k) (Mx.ft C k)→st'.length=st.length→(∀m,m≠xb→m≠xu→m≠xc→st'[m]?=st[m]?)→K .aA st'
def eU:List Str:=["self","k"]
def lT:DS:=(aQ (eL (dg ai "body" (aa 0)) (aa 1) (a_ gv (af (aq bw (dg ai "body" (aa 0)) (aa 1)) ao)))
 (aQ (eL (dg ai "turn" (aa 0)) (aa 1) (a_ gv (af (aq bw (dg ai "turn" (aa 0)) (aa 1)) ao)))
 (eL (dg ai "back_columns" (aa 0)) (aa 1) (a_ gv (af (aq bw (dg ai "back_columns" (aa 0)) (aa 1)) ao)))))
theorem lu:∀ds st K,dz ds st K→ds.length=2∧lT {nx:=fun _ st'=>K .aA st',rt:=K} (bx eU ds) st:=by
 rintro ds st K ⟨b,xb,xu,xc,N,w,k,A,U,C,rfl,B,hA,hU,hC,hk,hN,hw,kk⟩
 refine⟨rfl,?_⟩
 have lA:=hA.len
 have lU:=hU.len
 have lC:=hC.len
 have rA:=Mx.bW hA hk
 have rU:=Mx.bW hU hk
 have rC:=Mx.bW hC hk
 have bx1:=iy B.eb B.e1
 have bx2:=iy B.eb B.e2
 have bx3:=iy B.eb B.e3
 have n1:=B.n1
 have n2:=B.n2
 have n3:=B.n3
 refine bY B.eb rfl (aJ (aE B.e1) (cV (by omega)) ?_)
 refine⟨_,A.getD k [],rfl,rfl,by omega,?_⟩
 refine bY B.eb rfl (iB B.e1 (by rw[List.length_map,lA];exact jh hk) ?_)
 rw[fT]
 have g1:∀m,m≠xb→(st.set xb (.lst ((A.set k ((A.getD k []).map fun x=> -x)).map aX)))[m]?=st[m]?:=fun m hm=>List.getElem?_set_ne (Ne.symm hm)
 have h1:(st.set xb (.lst ((A.set k ((A.getD k []).map fun x=> -x)).map aX)))[xb]?=some (.lst ((Mx.ft A k).map aX)):=List.getElem?_set_self (List.getElem?_eq_some_iff.mp B.e1).1
 have z1:(st.set xb (.lst ((A.set k ((A.getD k []).map fun x=> -x)).map aX))).length=st.length:=List.length_set
 generalize st.set xb (.lst ((A.set k ((A.getD k []).map fun x=> -x)).map aX))=st1 at g1 h1 z1⊢
 have eb1:=(g1 b bx1).trans B.eb
 have e21:=(g1 xu (Ne.symm n1)).trans B.e2
 have e31:=(g1 xc (Ne.symm n2)).trans B.e3
 refine bY eb1 rfl (aJ (aE e21) (cV (by omega)) ?_)
 refine⟨_,U.getD k [],rfl,rfl,by omega,?_⟩
 refine bY eb1 rfl (iB e21 (by rw[List.length_map,lU];exact jh hk) ?_)
 rw[fT]
 have g2:∀m,m≠xu→(st1.set xu (.lst ((U.set k ((U.getD k []).map fun x=> -x)).map aX)))[m]?=st1[m]?:=fun m hm=>List.getElem?_set_ne (Ne.symm hm)
 have h2:(st1.set xu (.lst ((U.set k ((U.getD k []).map fun x=> -x)).map aX)))[xu]?=some (.lst ((Mx.ft U k).map aX)):=List.getElem?_set_self (List.getElem?_eq_some_iff.mp e21).1
 have z2:(st1.set xu (.lst ((U.set k ((U.getD k []).map fun x=> -x)).map aX))).length=st1.length:=List.length_set
 generalize st1.set xu (.lst ((U.set k ((U.getD k []).map fun x=> -x)).map aX))=st2 at g2 h2 z2⊢
 have eb2:=(g2 b bx2).trans eb1
 have e32:=(g2 xc (Ne.symm n3)).trans e31
 refine bY eb2 rfl (aJ (aE e32) (cV (by omega)) ?_)
 refine⟨_,C.getD k [],rfl,rfl,by omega,?_⟩
 refine bY eb2 rfl (iB e32 (by rw[List.length_map,lC];exact jh hk) ?_)
 rw[fT]
 refine kk _ ⟨?_,?_,?_,?_,n1,n2,n3⟩ (by rw[List.length_set];omega) fun m m1 m2 m3=>?_
 · rw[List.getElem?_set_ne (Ne.symm bx3)];exact eb2
 · rw[List.getElem?_set_ne (Ne.symm n2),g2 _ n1];exact h1
 · rw[List.getElem?_set_ne (Ne.symm n3)];exact h2
 · exact List.getElem?_set_self (List.getElem?_eq_some_iff.mp e32).1
 · rw[List.getElem?_set_ne (Ne.symm m3),g2 m m2,g1 m m1]
def dv:cM:=fun ds st K=>∃(b xb xu xc N w top p:Nat) (A U C:List (List Int)) (f:Bool),ds=[.ref b,.int top,.int p]∧Bn st b xb xu xc A U C∧Mx.cm N w A∧top≤N∧N≤8∧p<w∧w≤9∧st[0]?=some (fC f)∧
 ∀L,Mx.fX A N top p L→K (.lst (L.map fun(k:Nat)=> .int (k:Int))) (st.set 0 (fC true))
def fq:List Str:=["self","top","place","live"]
def ni:DS:=(aQ (cf 3 (dc (mI (af (aa 1) (af (bV eg (af (dg ai "body" (aa 0)) ao)) ao))) [none,some 0,some 2] (bD 0) (aY (aq kK (aq bw (aq bw (dg ai "body" (aa 1)) (aa 0)) (aa 2)) (dC (.int 0)))) (aa 0)))
 (bT (sN 0 98 ⟨48,32,48,66⟩ "Bench.live_rows.<locals>.<lambda>" [none,some 0,some 2] (bV p_ (af (aq bw (aq bw (dg ai "body" (aa 1)) (aa 0)) (aa 2)) ao)) (aa 3))))
theorem pk{a b:Prop}(h:b):if false=true then a else b:=h
theorem BD{st:ae}{b:Nat}{C:Addr}{fs:List (Str×D)}{f:Bool}(h1:st[b]?=some (Cell.ins C fs))(h2:st[0]?=some (fC f)):b≠0:=fun z=>by rw[z,h2]at h1;cases h1
theorem mT{st:ae}{b:Nat}{xs:List D}{f:Bool}(h1:st[b]?=some (Cell.lst xs))(h2:st[0]?=some (fC f)):b≠0:=fun z=>by rw[z,h2]at h1;cases h1
theorem Bn.keep{st st':ae}{b xb xu xc:Nat}{A U C:List (List Int)}(B:Bn st b xb xu xc A U C)(h:∀m,m=b∨m=xb∨m=xu∨m=xc→st'[m]?=st[m]?):Bn st' b xb xu xc A U C:=
 ⟨(h b (.inl rfl)).trans B.eb,(h xb (.inr (.inl rfl))).trans B.e1,(h xu (.inr (.inr (.inl rfl)))).trans B.e2,(h xc (.inr (.inr (.inr rfl)))).trans B.e3,B.n1,B.n2,B.n3⟩
theorem Bn.tab{st:ae}{b xb xu xc:Nat}{A U C:List (List Int)}{f:Bool}(B:Bn st b xb xu xc A U C)(h:st[0]?=some (fC f))(c:Cell):Bn (st.set 0 c) b xb xu xc A U C:=
 B.keep fun m hm=>List.getElem?_set_ne fun z=>by
  subst z
  rcases hm with rfl|rfl|rfl|rfl
  · exact BD B.eb h rfl
  · exact mT B.e1 h rfl
  · exact mT B.e2 h rfl
  · exact mT B.e3 h rfl
theorem j8{r:List Int}{k:Nat}(h:k<r.length):eP (aC r) (k:Int)=some (.int (r.getD k 0)):=by
 refine h8 ?_
 unfold aC
 rw[List.getElem?_map,List.getElem?_eq_getElem h,Mx.aV h];rfl
def fb(A:List (List Int))(N top p:Nat):List Nat:=(List.range (N-top)).filterMap fun i=>if Mx.g A (top+i) p≠0 then some (top+i)else none
theorem qv{A:List (List Int)}{N top p k:Nat}:k∈fb A N top p↔top≤k∧k<N∧Mx.g A k p≠0:=by
 unfold fb
 rw[List.mem_filterMap]
 constructor
 · rintro⟨i,hi,e⟩
   rw[List.mem_range]at hi
   split at e
   · rename_i h;cases e;exact⟨by omega,by omega,h⟩
   · cases e
 · rintro⟨h1,h2,h3⟩
   refine⟨k-top,List.mem_range.mpr (by omega),?_⟩
   rw[show top+(k-top)=k by omega,if_pos h3]
theorem pw_filterMap{f:Nat→Option Nat}(h:∀i j a b,i<j→f i=some a→f j=some b→a<b):∀ {l:List Nat},l.Pairwise (· < ·)→(l.filterMap f).Pairwise (· < ·)
 | [],_=>by simp
 |x::l,hl=>by
  obtain⟨h1,h2⟩:=List.pairwise_cons.mp hl
  rw[List.filterMap_cons]
  split
  · exact pw_filterMap h h2
  · rename_i a e
    refine List.pairwise_cons.mpr ⟨fun b hb=>?_,pw_filterMap h h2⟩
    obtain⟨j,hj,ej⟩:=List.mem_filterMap.mp hb
    exact h x j a b (h1 j hj) e ej
theorem pw_liveR{A:List (List Int)}{N top p:Nat}:(fb A N top p).Pairwise (· < ·):=by
 unfold fb
 refine pw_filterMap (fun i j a b hij ha hb=>?_) List.pairwise_lt_range
 split at ha
 · split at hb
   · cases ha;cases hb;omega
   · cases hb
 · cases ha
theorem qQ{f:Nat→Option Nat}(l:List Nat):(l.filterMap f).length≤l.length:=List.length_filterMap_le ..
theorem Aw{A:List (List Int)}{N top p:Nat}{os:List (Int×Int)}(hp:os.Perm (((fb A N top p).map fun(k:Nat)=>(((Mx.g A k p).natAbs:Nat):Int)).zip ((fb A N top p).map fun(k:Nat)=>(k:Int))))(hs:os.Pairwise slt):
 Mx.fX A N top p (os.map fun q=>q.2.toNat)∧os.map (fun q=>D.int q.2)=(os.map fun q=>q.2.toNat).map fun(k:Nat)=>D.int (k:Int):=by
 have hz:((fb A N top p).map fun(k:Nat)=>(((Mx.g A k p).natAbs:Nat):Int)).zip ((fb A N top p).map fun(k:Nat)=>(k:Int))=(fb A N top p).map fun k=>((((Mx.g A k p).natAbs:Nat):Int),(k:Int)):=by
  exact List.zip_map' ..
 rw[hz]at hp
 have hm:∀q∈os,∃k,k∈fb A N top p∧q=((((Mx.g A k p).natAbs:Nat):Int),(k:Int)):=fun q hq=>by
  obtain⟨k,h1,h2⟩:=List.mem_map.mp (hp.mem_iff.mp hq)
  exact⟨k,h1,h2.symm⟩
 refine⟨⟨fun k=>?_,?_⟩,?_⟩
 · rw[←qv]
   constructor
   · intro h
     obtain⟨q,hq,e⟩:=List.mem_map.mp h
     obtain⟨j,h1,rfl⟩:=hm q hq
     simp only[Int.toNat_natCast]at e
     rw[←e];exact h1
   · intro h
     exact List.mem_map.mpr ⟨((((Mx.g A k p).natAbs:Nat):Int),(k:Int)),hp.mem_iff.mpr (List.mem_map.mpr ⟨k,h,rfl⟩),by simp⟩
 · rw[List.pairwise_map]
   refine hs.imp_of_mem fun{x y} hx hy h=>?_
   obtain⟨j,_,rfl⟩:=hm x hx
   obtain⟨k,_,rfl⟩:=hm y hy
   unfold slt at h
   simp only[Int.toNat_natCast]
   omega
 · rw[List.map_map]
   refine List.map_congr_left fun q hq=>?_
   obtain⟨j,_,rfl⟩:=hm q hq
   simp
theorem l_:∀ds st K,dv ds st K→ds.length=3∧ni {nx:=fun _ st'=>K .aA st',rt:=K} (bx fq ds) st:=by
 rintro ds st K ⟨b,xb,xu,xc,N,w,top,p,A,U,C,f,rfl,B,hA,ht,hN,hp,hw,h0,k⟩
 refine⟨rfl,?_⟩
 have lA:=hA.len
 have rowA:∀i,i<N→(A.getD i []).length=w:=fun i hi=>Mx.bW hA hi
 refine bY B.eb rfl (du (aE B.e1) ?_)
 rw[List.length_map,lA]
 refine A6 ⟨by omega,by omega,by omega,by omega⟩ ⟨cj (by unfold cX;simp;omega),?_⟩
 have er:((N:Int)-(top:Int)).toNat=N-top:=by omega
 rw[er]
 refine gD (fun rest acc st'=>∃i:Nat,i≤N-top∧st'=st∧rest=(List.range (N-top-i)).map (fun j=>D.int ((top+i+j:Nat):Int))∧acc=((List.range i).filterMap fun i=>if Mx.g A (top+i) p≠0 then some (top+i)else none).map fun(k:Nat)=>D.int (k:Int)) ?_ ?_ _ _ _ ⟨0,Nat.zero_le _,rfl,by unfold cX;simp,by simp⟩
 · rintro acc st' ⟨i,hi,rfl,hr,rfl⟩
   have hi':i=N-top:=by
    rcases Nat.lt_or_ge i (N-top)with z|z
    · rw[show N-top-i=(N-top-i-1)+1 by omega,List.range_succ_eq_map]at hr;cases hr
    · omega
   subst hi'
   refine⟨trivial,?_⟩
   have e1:((fb A N top p).map fun(k:Nat)=>D.int (k:Int))=((fb A N top p).map fun(k:Nat)=>(k:Int)).map D.int:=by rw[List.map_map];rfl
   refine⟨(fb A N top p).map fun(k:Nat)=>(k:Int),(fb A N top p).map fun(k:Nat)=>(((Mx.g A k p).natAbs:Nat):Int),f,congrArg D.lst e1,?_,?_,by rw[List.length_map,List.length_map],h0,fun i n q hn hq=>?_,fun os hp' hs=>?_⟩
   · rw[List.length_map]
     have:=qQ (f:=fun i=>if Mx.g A (top+i) p≠0 then some (top+i)else none) (List.range (N-top))
     rw[List.length_range]at this
     show(fb A N top p).length<64
     unfold fb
     omega
   · rw[List.pairwise_map]
     exact pw_liveR.imp fun h=>by omega
   · rw[List.getElem?_map]at hn hq
     cases z:(fb A N top p)[i]? with
     |none=>rw[z]at hn;cases hn
     |some j=>
      rw[z]at hn hq
      cases hn;cases hq
      obtain⟨j1,j2,j3⟩:=qv.mp (List.mem_of_getElem? z)
      have B1:=B.tab h0 (fC true)
      refine bY B1.eb rfl (aJ (aE B1.e1) (cV (by omega)) (aJ rfl (j8 (by rw[rowA j j2];exact hp)) (x5 ⟨rfl,rfl⟩)))
   · obtain⟨h1,h2⟩:=Aw hp' hs
     rw[h2]
     exact k _ h1
 · rintro d rest acc st' ⟨i,hi,rfl,hr,rfl⟩ next
   have hlt:i<N-top:=by
    rcases Nat.lt_or_ge i (N-top)with z|z
    · exact z
    · rw[show N-top-i=0 by omega]at hr;cases hr
   rw[show N-top-i=(N-top-i-1)+1 by omega,List.range_succ_eq_map,List.map_cons,List.map_map]at hr
   obtain⟨rfl,rfl⟩:=List.cons.inj hr
   refine⟨trivial,_,rfl,?_⟩
   refine bY B.eb rfl (aJ (aE B.e1) (cV (j:=top+i+0) (by omega)) (aJ rfl (j8 (by rw[rowA _ (by omega)];exact hp)) ?_))
   have e2:List.range (i+1)=List.range i++[i]:=List.range_succ
   have e3:((List.range (N-top-i-1)).map ((fun j=>D.int ((top+i+j:Nat):Int))∘Nat.succ))=(List.range (N-top-(i+1))).map fun j=>D.int ((top+(i+1)+j:Nat):Int):=by
    rw[show N-top-i-1=N-top-(i+1) by omega]
    refine List.map_congr_left fun j _=>?_
    show D.int ((top+i+(j+1):Nat):Int)=_
    rw[show top+i+(j+1)=top+(i+1)+j by omega]
   refine ne2 (fun h=>?_) fun h=>?_
   · refine(next _ _ ⟨i+1,by omega,rfl,e3,?_⟩)
     rw[e2,List.filterMap_append,List.map_append]
     have:Mx.g A (top+i) p≠0:=h
     simp[this]
   · refine(next _ _ ⟨i+1,by omega,rfl,e3,?_⟩)
     rw[e2,List.filterMap_append,List.map_append]
     have:Mx.g A (top+i) p=0:=h
     simp[this]
structure Bo(n0:Nat)(st st':ae)(b xb xu xc:Nat):Prop where
 lo:1≤n0∧n0≤b∧n0≤xb∧n0≤xu∧n0≤xc
 fr:∀m,m<n0→m≠0→st'[m]?=st[m]?
 tb:∃f,st'[0]?=some (fC f)
def fy:cM:=fun ds st K=>∃(n0 b xb xu xc N w top p e u:Nat) (A0 A U C:List (List Int)) (ld:Nat→Nat),ds=[.ref b,.int top,.int p]∧Bn st b xb xu xc A U C∧Bo n0 st st b xb xu xc∧Mx.jw A0 N w ⟨A,U,C⟩ top p ld e u∧N≤8∧w≤9∧p<w∧(N-top+1)*(e+1)≤60000000∧
 (∀st',Bn st' b xb xu xc A U C→Bo n0 st st' b xb xu xc→Mx.fX A N top p []→K (.bl false) st')∧
 ∀st' xb' xu' xc' (c:Mx.B3) (r:Nat),Bn st' b xb' xu' xc' (Mx.setB c p top r).A (Mx.setB c p top r).U (Mx.setB c p top r).C→Bo n0 st st' b xb' xu' xc'→Mx.e7 N top p ⟨A,U,C⟩ c→Mx.fX c.A N top p [r]→top<N→
  Mx.pS A0 N w top p (2^((N-top+1)*(e+1))) ⟨A,U,C⟩ (Mx.setB c p top r)→K (.bl true) st'
def gN:List Str:=["self","top","place","live","great","small"]
def pH:DS:=(aQ (cf 3 (gX ai "live_rows" dv (aa 0) (af (aa 1) (af (aa 2) ao))))
 (aQ (ug (aY (aq kJ (bV eg (af (aa 3) ao)) (dC (.int 1)))) (aQ (cf 4 (aq bw (aa 3) (mv iP (dC (.int 1)))))
 (aQ (cf 5 (aq bw (aa 3) (mv iP (dC (.int 2)))))
 (aQ (iZ (gX ai "take" eQ (aa 0) (af (aa 4) (af (a_ dS (af (aq bw (aq bw (dg ai "body" (aa 0)) (aa 4)) (aa 2)) (af (aq bw (aq bw (dg ai "body" (aa 0)) (aa 5)) (aa 2)) ao))) (af (aa 5) ao)))))
 (cf 3 (gX ai "live_rows" dv (aa 0) (af (aa 1) (af (aa 2) ao))))))))
 (aQ (dE (aY (aq gF (bV eg (af (aa 3) ao)) (dC (.int 0)))) (bT (dC (.bl false))) cT)
 (aQ (iZ (gX ai "exchange" eO (aa 0) (af (aa 1) (af (aq bw (aa 3) (dC (.int 0))) ao))))
 (aQ (dE (aY (aq lO (aq bw (aq bw (dg ai "body" (aa 0)) (aa 1)) (aa 2)) (dC (.int 0)))) (iZ (gX ai "change_sign" dz (aa 0) (af (aa 1) ao))) cT)
 (bT (dC (.bl true))))))))
theorem Bo.B_{n0:Nat}{st st':ae}{b xb xu xc:Nat}(h:Bo n0 st st' b xb xu xc):Bo n0 st (st'.set 0 (fC true)) b xb xu xc:=
 ⟨h.lo,fun m hm h0=>by rw[List.getElem?_set_ne (Ne.symm h0)];exact h.fr m hm h0,true,by
  obtain⟨f,e⟩:=h.tb
  exact List.getElem?_set_self (List.getElem?_eq_some_iff.mp e).1⟩
theorem Bo.low{n0:Nat}{st st1 st2:ae}{b xb xu xc:Nat}(h:Bo n0 st st1 b xb xu xc)(f:∀m,m≠xb→m≠xu→m≠xc→st2[m]?=st1[m]?):Bo n0 st st2 b xb xu xc:=by
 obtain⟨l1,l2,l3,l4,l5⟩:=h.lo
 refine⟨h.lo,fun m hm h0=>?_,?_⟩
 · rw[f m (by omega) (by omega) (by omega)];exact h.fr m hm h0
 · obtain⟨z,e⟩:=h.tb
   exact⟨z,by rw[f 0 (by omega) (by omega) (by omega)];exact e⟩
theorem pG{X:List (List Int)}{N w top m i:Nat}(hX:Mx.cm N w X)(h:Mx.gS X N top m)(hi:top≤i)(hN:i<N):∀x∈X.getD i [],x.natAbs≤m:=fun x hx=>by
 obtain⟨c,hc,rfl⟩:=List.mem_iff_getElem.mp hx
 have:=h i c hi hN
 unfold Mx.g at this
 rwa [Mx.aV hc]at this
theorem sG{n j:Nat}(h:1≤j)(h2:j≤n):jx n (-(j:Int))=some (n-j):=by
 unfold jx
 rw[if_neg (by omega),if_pos (by omega)]
 congr 1
 omega
theorem E6{L:List Nat}{j k:Nat}:eP ((L++[j,k]).map fun(k:Nat)=>D.int (k:Int)) (-1)=some (.int (k:Int)):=by
 unfold eP
 have:=sG (n:=((L++[j,k]).map fun(k:Nat)=>D.int (k:Int)).length) (j:=1) (by decide) (by simp)
 rw[show(-((1:Nat):Int))= -1 from rfl]at this
 rw[this]
 simp
theorem E_{L:List Nat}{j k:Nat}:eP ((L++[j,k]).map fun(k:Nat)=>D.int (k:Int)) (-2)=some (.int (j:Int)):=by
 unfold eP
 have:=sG (n:=((L++[j,k]).map fun(k:Nat)=>D.int (k:Int)).length) (j:=2) (by decide) (by simp)
 rw[show(-((2:Nat):Int))= -2 from rfl]at this
 rw[this]
 simp
theorem zl:∀ {L:List Nat},1<L.length→∃M j k,L=M++[j,k]:=fun{L} h=>by
 refine⟨L.take (L.length-2),L[L.length-2]'(by omega),L[L.length-1]'(by omega),?_⟩
 have e1:L=L.take (L.length-2)++L.drop (L.length-2):=(List.take_append_drop _ _).symm
 have e2:L.drop (L.length-2)=[L[L.length-2]'(by omega),L[L.length-1]'(by omega)]:=by
  rw[List.drop_eq_getElem_cons (by omega),List.drop_eq_getElem_cons (by omega),List.drop_eq_nil_of_le (by omega)]
  congr 2
  congr 1
  omega
 rw[←e2];exact e1
theorem oN:∀ds st K,fy ds st K→ds.length=3∧pH {nx:=fun _ st'=>K .aA st',rt:=K} (bx gN ds) st:=by
 rintro ds st K ⟨n0,b,xb,xu,xc,N,w,top,p,e,u,A0,A,U,C,ld,rfl,B,O,S,hN,hw,hp,hz,kf,kt⟩
 refine⟨rfl,?_⟩
 have hle:=S.le
 obtain⟨f,h0⟩:=O.tb
 refine ia B.eb rfl ?_
 refine⟨b,xb,xu,xc,N,w,top,p,A,U,C,f,rfl,B,S.tn.isA,hle,hN,hp,hw,h0,fun L hL=>?_⟩
 have B1:=B.tab h0 (fC true)
 have O1:=O.B_
 try dsimp only[ao]
 refine gI (fun σ st'=>∃(L:List Nat) (v4 v5:Option D) (c:Mx.B3) (gr:Nat),σ=[some (.ref b),some (.int top),some (.int p),some (.lst (L.map fun(k:Nat)=> .int (k:Int))),v4,v5]∧L.length≤1∧Bn st' b xb xu xc c.A c.U c.C∧Bo n0 st st' b xb xu xc∧Mx.e7 N top p ⟨A,U,C⟩ c∧Mx.nL A0 N w top p (2^e) ⟨A,U,C⟩ c gr∧Mx.fX c.A N top p L) (fun nx hnx=>?_) ?_
 · refine⟨fun m σ st'=>∃(L:List Nat) (v4 v5:Option D) (c:Mx.B3) (gr:Nat),σ=[some (.ref b),some (.int top),some (.int p),some (.lst (L.map fun(k:Nat)=> .int (k:Int))),v4,v5]∧Bn st' b xb xu xc c.A c.U c.C∧Bo n0 st st' b xb xu xc∧Mx.e7 N top p ⟨A,U,C⟩ c∧Mx.nL A0 N w top p (2^e) ⟨A,U,C⟩ c gr∧Mx.fX c.A N top p L∧m=Mx.mu c.A N p,⟨_,L,none,none,⟨A,U,C⟩,1,rfl,B1,O1,.refl _,S.Hm,hL,rfl⟩,?_⟩
   rintro m σ st1 ⟨L,v4,v5,c,gr,rfl,B,O,hR,hG,hL,rfl⟩
   refine du rfl ?_
   rw[List.length_map]
   refine Hj (fun h=>fJ ?_) fun h=>pk (hnx _ _ ⟨L,v4,v5,c,gr,rfl,by omega,B,O,hR,hG,hL⟩)
   obtain⟨M,j,k,rfl⟩:=zl (L:=L) (by omega)
   refine jo (aJ rfl E6 (jo (aJ rfl E_ ?_)))
   obtain⟨G2,hlt,hoth,k1,k2,j1,j2,hjk,hj0⟩:=hG.step hp hL
   have T:=hG.tn
   have lA:=T.isA.len
   have hlow:=G2.low S.lo.1
   refine ia B.eb rfl (bY B.eb rfl (aJ (aE B.e1) (cV (by omega)) (aJ rfl (j8 (by rw[Mx.bW T.isA k2];exact hp)) (bY B.eb rfl (aJ (aE B.e1) (cV (by omega)) (aJ rfl (j8 (by rw[Mx.bW T.isA j2];exact hp)) ?_))))))
   refine⟨_,_,rfl,hj0,?_⟩
   have hq:(Mx.qn (Mx.g c.A k p) (Mx.g c.A j p)).natAbs≤2^((N-top+1)*(e+1)):=by
    refine Nat.le_trans ?_ hlow
    have a1:=hG.pos
    have a2:1≤2^e:=Nat.one_le_two_pow
    have a3:1*(Mx.qn (Mx.g c.A k p) (Mx.g c.A j p)).natAbs≤gr*(1+(Mx.qn (Mx.g c.A k p) (Mx.g c.A j p)).natAbs):=Nat.mul_le_mul a1 (by omega)
    have a4:=Nat.mul_le_mul a2 a3
    omega
   have hx:2^e*gr≤2^((N-top+1)*(e+1)):=hG.low S.lo.1
   have hm:∀ {x:Int},x.natAbs≤2^e*gr→IntMulOk (Mx.qn (Mx.g c.A k p) (Mx.g c.A j p)) x∧IntMulOk (-(Mx.qn (Mx.g c.A k p) (Mx.g c.A j p))) x:=fun{x} h=>
    ⟨ij hq (Nat.le_trans h hx) (by omega),ij (by rw[Int.natAbs_neg];exact hq) (Nat.le_trans h hx) (by omega)⟩
   refine⟨b,xb,xu,xc,N,w,k,j,c.A,c.U,c.C,_,rfl,B,T.isA,T.eF,T.e9,k2,j2,hN,hw,fun x hx=>(hm (pG T.isA hG.lA j1 j2 x hx)).2,fun x hx=>(hm (pG T.eF hG.lU j1 j2 x hx)).2,fun x hx=>(hm (pG T.e9 hG.lC k1 k2 x hx)).1,fun st2 B2 l2 f2=>?_⟩
   have O2:=O.low f2
   obtain⟨f',h0'⟩:=O2.tb
   refine ia B2.eb rfl ?_
   refine⟨b,xb,xu,xc,N,w,top,p,_,_,_,f',rfl,B2,G2.tn.isA,hle,hN,hp,hw,h0',fun L2 hL2=>?_⟩
   refine⟨_,?_,L2,_,_,Mx.ix c p k j,_,rfl,B2.tab h0' (fC true),O2.B_,hR.tail ⟨M,k,j,hL,rfl⟩,G2,hL2,rfl⟩
   unfold Mx.mu
   refine Mx.Ab (k:=k) hlt k2 fun i hi=>?_
   by_cases h:i=k
   · rw[h];exact Nat.le_of_lt hlt
   · rw[hoth i h];exact Nat.le_refl _
 · rintro σ st1 ⟨L,v4,v5,c,gr,rfl,hl,B,O,hR,hG,hL⟩
   refine du rfl ?_
   rw[List.length_map]
   match L,hl,hL with
   | [],_,hL=>
     refine eq2 (fun h=>fJ ?_) fun h=>absurd rfl h
     have e0:c=⟨A,U,C⟩:=by
      rcases hG.FG with z|⟨j,h1,h2,h3⟩
      · exact z
      · exact absurd ((hL.mem j).mpr ⟨h1,h2,h3⟩) (by simp)
     subst e0
     exact kf st1 B O hL
   | [r],_,hL=>
     refine eq2 (fun h=>absurd h (by simp)) fun h=>pk ?_
     obtain⟨s1,hr1,hr2⟩:=hG.set hL
     have ht:top<N:=by omega
     have T:=hG.tn
     have s2:Mx.pS A0 N w top p (2^((N-top+1)*(e+1))) ⟨A,U,C⟩ (Mx.setB c p top r):=by
      have hlow:=hG.low S.lo.1
      exact⟨s1.tn,s1.up,⟨fun i q h1 h2=>Nat.le_trans (s1.lo.1 i q h1 h2) hlow,fun i q h1 h2=>Nat.le_trans (s1.lo.2.1 i q h1 h2) hlow,fun i q h1 h2=>Nat.le_trans (s1.lo.2.2 i q h1 h2) hlow⟩,s1.zs,s1.tp,s1.z1⟩
     refine ia B.eb rfl (aJ rfl (show eP ([r].map fun(k:Nat)=>D.int (k:Int)) 0=some (.int (r:Int))from rfl) ?_)
     refine⟨b,xb,xu,xc,N,w,top,r,c.A,c.U,c.C,rfl,B,T.isA,T.eF,T.e9,ht,hr2,fun st2 B2 l2 f2=>?_⟩
     obtain⟨l1,l2',l3,l4,l5⟩:=O.lo
     have hst:n0≤st1.length:=by
      have:=(List.getElem?_eq_some_iff.mp B.eb).1
      omega
     have O2:Bo n0 st st2 b st1.length (st1.length+1) (st1.length+2):=by
      refine⟨⟨l1,l2',by omega,by omega,by omega⟩,fun m hm h0=>?_,?_⟩
      · rw[f2 m (by omega) (by omega)];exact O.fr m hm h0
      · obtain⟨z,e⟩:=O.tb
        exact⟨z,by rw[f2 0 (by omega) (by omega)];exact e⟩
     have T1:=T.zU ht hr2
     refine bY B2.eb rfl (aJ (aE B2.e1) (cV (by have:=T1.isA.len;omega)) (aJ rfl (j8 (by rw[Mx.bW T1.isA ht];exact hp)) ?_))
     refine Hy (fun h=>fJ ?_) fun h=>pk ?_
     · have es:Mx.setB c p top r=⟨Mx.ft (Mx.bp c.A top r) top,Mx.ft (Mx.bp c.U top r) top,Mx.ft (Mx.bp c.C top r) top⟩:=if_pos h
       refine ia B2.eb rfl ?_
       refine⟨b,_,_,_,N,w,top,_,_,_,rfl,B2,T1.isA,T1.eF,T1.e9,ht,hN,hw,fun st3 B3 l3 f3=>?_⟩
       exact kt st3 _ _ _ c r (by rw[es];exact B3) (O2.low f3) hR hL ht s2
     · have es:Mx.setB c p top r=⟨Mx.bp c.A top r,Mx.bp c.U top r,Mx.bp c.C top r⟩:=if_neg (fun z=>by unfold Mx.g at z;omega)
       exact kt st2 _ _ _ c r (by rw[es];exact B2) O2 hR hL ht s2
def dB:cM:=fun ds st K=>∃(b xb xu xc N w top p e u:Nat) (A0 A U C:List (List Int)),ds=[.ref b,.int top,.int p]∧Bn st b xb xu xc A U C∧Mx.Tn A0 A U C N w∧N≤8∧w≤9∧p<w∧top<N∧0<Mx.g A top p∧(∀q,q<p→Mx.g A top q=0)∧
 (∀q,(Mx.g A top q).natAbs≤2^e∧(Mx.g U top q).natAbs≤2^e∧(Mx.g C top q).natAbs≤2^e)∧(∀i q,i<top→(Mx.g A i q).natAbs≤2^u∧(Mx.g U i q).natAbs≤2^u∧(Mx.g C i q).natAbs≤2^u)∧e≤60000000∧u≤60000000∧
 ∀st',Bn st' b xb xu xc (Mx.jt p top top ⟨A,U,C⟩).A (Mx.jt p top top ⟨A,U,C⟩).U (Mx.jt p top top ⟨A,U,C⟩).C→(∀m,m≠xb→m≠xu→m≠xc→st'[m]?=st[m]?)→Mx.kY A0 N w top p e u ⟨A,U,C⟩ top (Mx.jt p top top ⟨A,U,C⟩)→K .aA st'
def eV:List Str:=["self","top","place","k"]
def lS:DS:=(jr (dJ (af (aa 1) ao)) (bD 3) (iZ (gX ai "take" eQ (aa 0) (af (aa 3) (af (aq kM (aq bw (aq bw (dg ai "body" (aa 0)) (aa 3)) (aa 2)) (aq bw (aq bw (dg ai "body" (aa 0)) (aa 1)) (aa 2))) (af (aa 1) ao))))))
theorem q_{X:List (List Int)}{i:Nat}{x:Int}(hx:x∈X.getD i []):∃q,x=Mx.g X i q:=by
 obtain⟨c,hc,rfl⟩:=List.mem_iff_getElem.mp hx
 exact⟨c,by unfold Mx.g;rw[Mx.aV hc]⟩
theorem k_:∀ds st K,dB ds st K→ds.length=3∧lS {nx:=fun _ st'=>K .aA st',rt:=K} (bx eV ds) st:=by
 rintro ds st K ⟨b,xb,xu,xc,N,w,top,p,e,u,A0,A,U,C,rfl,B,T,hN,hw,hp,ht,htp,hz,hlo,hhi,he,hu,kk⟩
 refine⟨rfl,?_⟩
 refine eW ⟨by omega,by omega⟩ ?_
 rw[Int.toNat_natCast]
 refine h9 top (fun k σ st'=>∃v3:Option D,σ=[some (.ref b),some (.int top),some (.int p),v3]∧Bn st' b xb xu xc (Mx.jt p top k ⟨A,U,C⟩).A (Mx.jt p top k ⟨A,U,C⟩).U (Mx.jt p top k ⟨A,U,C⟩).C∧(∀m,m≠xb→m≠xu→m≠xc→st'[m]?=st[m]?)∧Mx.kY A0 N w top p e u ⟨A,U,C⟩ k (Mx.jt p top k ⟨A,U,C⟩)) ?_ ?_ ⟨none,rfl,B,fun _ _ _ _=>rfl,Mx.kY.start T fun q=>(hlo q).2.2⟩
 · rintro σ st' ⟨v3,rfl,B',f,I⟩
   exact kk st' B' f I
 · rintro k σ st' rest hk ⟨v3,rfl,B',f,I⟩ next
   refine⟨_,rfl,?_⟩
   have hs:=I.step hk ht hp htp hz (fun q=>⟨(hlo q).1,(hlo q).2.1⟩) hhi
   generalize hc:Mx.jt p top k ⟨A,U,C⟩=c at*
   have lA:=I.tn.isA.len
   have kN:k<N:=by omega
   have gA:∀i q,k≤i→Mx.g c.A i q=Mx.g A i q:=fun i q hi=>by unfold Mx.g;rw[(I.rA i hi).1]
   have gU:∀i q,k≤i→Mx.g c.U i q=Mx.g U i q:=fun i q hi=>by unfold Mx.g;rw[(I.rA i hi).2]
   have gC:∀i q,i≠top→Mx.g c.C i q=Mx.g C i q:=fun i q hi=>by unfold Mx.g;rw[I.rC i hi]
   have hq:((Mx.g c.A k p).fdiv (Mx.g c.A top p)).natAbs≤2^u:=by
    rw[gA k p (Nat.le_refl _),gA top p (by omega)]
    exact Nat.le_trans (Mx.t8 _ htp) (hhi k p hk).1
   have htp':Mx.g c.A top p≠0:=by rw[gA top p (by omega)];omega
   refine ia B'.eb rfl (bY B'.eb rfl (aJ (aE B'.e1) (cV (by omega)) (aJ rfl (j8 (by rw[Mx.bW I.tn.isA kN];exact hp)) (bY B'.eb rfl (aJ (aE B'.e1) (cV (by omega)) (aJ rfl (j8 (by rw[Mx.bW I.tn.isA ht];exact hp)) (sy htp' ?_)))))))
   refine⟨b,xb,xu,xc,N,w,k,top,c.A,c.U,c.C,_,rfl,B',I.tn.isA,I.tn.eF,I.tn.e9,kN,ht,hN,hw,fun x hx=>?_,fun x hx=>?_,fun x hx=>?_,fun st2 B2 l2 f2=>?_⟩
   · obtain⟨q,rfl⟩:=q_ hx
     rw[gA top q (by omega)]
     exact ij (by rw[Int.natAbs_neg];exact hq) (hlo q).1 (by omega)
   · obtain⟨q,rfl⟩:=q_ hx
     rw[gU top q (by omega)]
     exact ij (by rw[Int.natAbs_neg];exact hq) (hlo q).2.1 (by omega)
   · obtain⟨q,rfl⟩:=q_ hx
     rw[gC k q (by omega)]
     exact ij hq (hhi k q hk).2.2 (by omega)
   · have el:Mx.jt p top (k+1) ⟨A,U,C⟩=⟨Mx.bt c.A k ((Mx.g c.A k p).fdiv (Mx.g c.A top p)) top,Mx.bt c.U k ((Mx.g c.A k p).fdiv (Mx.g c.A top p)) top,Mx.bt c.C top (-((Mx.g c.A k p).fdiv (Mx.g c.A top p))) k⟩:=by rw[←hc];rfl
     refine next _ _ ⟨_,rfl,?_,fun m h1 h2 h3=>(f2 m h1 h2 h3).trans (f m h1 h2 h3),?_⟩
     · rw[el];exact B2
     · rw[el];exact hs
structure Bk(st st':ae):Prop where
 le:st.length≤st'.length
 fr:∀m,m<st.length→m≠0→st'[m]?=st[m]?
 tb:∃f,st'[0]?=some (fC f)
def fO:cM:=fun ds st K=>∃(d:D) (N w e0:Nat) (A:List (List Int)) (f:Bool),ds=[d]∧fN st d A∧Mx.cm N w A∧1≤N∧N≤8∧w≤9∧Mx.gS A N 0 (2^e0)∧(∀t,t≤N→Mx.Ez N e0 t≤50000000∧Mx.Vz N e0 t≤60000000)∧st[0]?=some (fC f)∧
 ∀st' (top:Nat) (c:Mx.B3) (ld:Nat→Nat),Mx.j4 A N w top c→Mx.jw A N w c top w ld (Mx.Ez N e0 top) (Mx.Vz N e0 top)→Bk st st'→K (.tup [cH (c.A.take top),cH c.U,cH (Mx.gT c.C N)]) st'
def jG:List Str:=["rows","bench","top","place","back"]
def wu:DS:=(aQ (cf 1 (wC ai eR (af (aa 0) ao)))
 (aQ (cf 2 (dC (.int 0)))
 (aQ (jr (dJ (af (bV eg (af (aq bw (aa 0) (dC (.int 0))) ao)) ao)) (bD 3) (dE (aY (gX ai "gather" fy (aa 1) (af (aa 2) (af (aa 3) ao)))) (aQ (iZ (gX ai "lower_above" dB (aa 1) (af (aa 2) (af (aa 3) ao))))
 (vE 2 (sA (fun i j=>i+j)) (dC (.int 1)))) cT))
 (aQ (cf 4 (a_ fR (af (dg ai "back_columns" (aa 1)) (af (bV eg (af (aa 0) ao)) ao))))
 (bT (ow (af (a_ h7 (af (oJ (dg ai "body" (aa 1)) m7 (rl (aa 2))) ao)) (af (a_ h7 (af (dg ai "turn" (aa 1)) ao)) (af (aa 4) ao)))))))))
theorem qg{st st':ae}{f:Bool}(h0:st[0]?=some (fC f))(fr:∀m,m<st.length→m≠0→st'[m]?=st[m]?){d:D}{xs:List D}(h:items? st d=some xs):items? st' d=some xs:=by
 cases d with
 |ref n=>
  have e:=xp h
  have n0:n≠0:=mT e h0
  rw[aE ((fr n (List.getElem?_eq_some_iff.mp e).1 n0).trans e)]
 |_=>exact h
theorem qC{st st':ae}{f:Bool}(h0:st[0]?=some (fC f))(fr:∀m,m<st.length→m≠0→st'[m]?=st[m]?):∀ {ds:List D} {A:List (List Int)},bN st ds A→bN st' ds A
 | [],[],_=>trivial
 |_::_,_::_,h=>⟨qg h0 fr h.1,qC h0 fr h.2⟩
theorem oF{st st':ae}{f:Bool}(h0:st[0]?=some (fC f))(fr:∀m,m<st.length→m≠0→st'[m]?=st[m]?){d:D}{A:List (List Int)}(h:fN st d A):fN st' d A:=by
 obtain⟨ds,h1,h2⟩:=h.ex
 exact⟨ds,qg h0 fr h1,qC h0 fr h2⟩
theorem B5{xs:List D}{j:Nat}:L3.cutD xs none (some (j:Int))=xs.take j:=by
 unfold L3.cutD
 rw[HT.A8,HT.zF,List.drop_zero,Nat.sub_zero]
 by_cases h:j≤xs.length
 · rw[Nat.min_eq_left h]
 · rw[Nat.min_eq_right (by omega),List.take_length,List.take_of_length_le (by omega)]
theorem uE:∀ds st K,fO ds st K→ds.length=1∧wu {nx:=fun _ st'=>K .aA st',rt:=K} (bx jG ds) st:=by
 rintro ds st K ⟨d,N,w,e0,A,f,rfl,hd,hA,hN1,hN,hw,hlo,hsz,h0,kk⟩
 refine⟨rfl,?_⟩
 have lA:=hA.len
 have h0l:0<st.length:=(List.getElem?_eq_some_iff.mp h0).1
 have hd1:fN (st++[Cell.ins ai []]) d A:=oF h0 (fun m hm _=>List.getElem?_append_left hm) hd
 refine⟨st.length,N,d,A,rfl,by simp,hd1,lA,hN,fun st1 B1 l1 f1=>⟨rfl,?_⟩⟩
 have hl1:(st++[Cell.ins ai []]).length=st.length+1:=by simp
 have fr1:∀m,m<st.length→st1[m]?=st[m]?:=fun m hm=>by rw[f1 m (by omega) (by omega),List.getElem?_append_left hm]
 have O1:Bo st.length st st1 st.length (st.length+1) (st.length+1+1) (st.length+1+2):=⟨⟨h0l,by omega,by omega,by omega,by omega⟩,fun m hm _=>fr1 m hm,f,(fr1 0 h0l).trans h0⟩
 rw[hl1]at B1
 have hdk:∀ {st':ae},(∀m,m<st.length→m≠0→st'[m]?=st[m]?)→fN st' d A:=fun h=>oF h0 h hd
 obtain⟨da,hda,hra⟩:=(hdk O1.fr).ex
 have hdl:=hra.len
 have hrow0:∃d0,da[0]?=some d0∧items? st1 d0=some (aC (A.getD 0 [])):=by
  have hi:0<da.length:=by omega
  obtain⟨r,e1,e2⟩:=bN.get hra (List.getElem?_eq_getElem hi)
  refine⟨da[0],List.getElem?_eq_getElem hi,?_⟩
  have:A.getD 0 []=r:=by rw[List.getD_eq_getElem?_getD,e1];rfl
  rw[this];exact e2
 obtain⟨d0,hd0,hi0⟩:=hrow0
 have er:(aC (A.getD 0 [])).length=w:=by unfold aC;rw[List.length_map];exact Mx.bW hA (by omega)
 try dsimp only[ao]
 refine gI (A:=cf 2 _) (fun σ st'=>σ=[some d,some (.ref st.length),some (.int 0),none,none]∧st'=st1) (fun nx h=>h _ _ ⟨rfl,rfl⟩) ?_
 rintro _ _ ⟨rfl,rfl⟩
 refine gI (A:=jr _ _ _) (fun σ st'=>∃(top xb xu xc:Nat) (v3:Option D) (c:Mx.B3) (ld:Nat→Nat),σ=[some d,some (.ref st.length),some (.int top),v3,none]∧Bn st' st.length xb xu xc c.A c.U c.C∧Bo st.length st st' st.length xb xu xc∧Mx.j4 A N w top c∧Mx.jw A N w c top w ld (Mx.Ez N e0 top) (Mx.Vz N e0 top)) (fun nx hnx=>?_) ?_
 · refine aJ hda (show eP da 0=some d0 from h8 (j:=0) hd0) (du hi0 ?_)
   rw[er]
   refine eW ⟨by omega,by omega⟩ ?_
   rw[Int.toNat_natCast]
   refine h9 w (fun p σ st'=>∃(top xb xu xc:Nat) (v3:Option D) (c:Mx.B3) (ld:Nat→Nat),σ=[some d,some (.ref st.length),some (.int top),v3,none]∧Bn st' st.length xb xu xc c.A c.U c.C∧Bo st.length st st' st.length xb xu xc∧Mx.j4 A N p top c∧Mx.jw A N w c top p ld (Mx.Ez N e0 top) (Mx.Vz N e0 top)) ?_ ?_ ⟨0,_,_,_,none,⟨A,Mx.units N,Mx.units N⟩,fun _=>0,rfl,B1,O1,.start,Mx.jw.start hA hlo⟩
   · rintro σ st' ⟨top,xb,xu,xc,v3,c,ld,rfl,B,O,hC,S⟩
     exact hnx _ _ ⟨top,xb,xu,xc,v3,c,ld,rfl,B,O,hC,S⟩
   · rintro p σ st' rest hp ⟨top,xb,xu,xc,v3,c,ld,rfl,B,O,hC,S⟩ next
     refine⟨_,rfl,?_⟩
     have hle:=S.le
     have hz1:(N-top+1)*(Mx.Ez N e0 top+1)≤60000000:=by
      by_cases ht:top<N
      · exact Nat.le_trans (hsz (top+1) ht).1 (by decide)
      · have e:N-top=0:=by omega
        rw[e]
        have:=(hsz top hle).1
        omega
     refine ia B.eb rfl ?_
     refine⟨st.length,st.length,xb,xu,xc,N,w,top,p,_,_,A,c.A,c.U,c.C,ld,rfl,B,⟨O.lo,fun _ _ _=>rfl,O.tb⟩,S,hN,hw,hp,hz1,fun st2 B2 O2 hL=>?_,fun st2 xb2 xu2 xc2 c2 r B2 O2 hR hL ht s1=>?_⟩
     · exact pk (next _ _ ⟨top,xb,xu,xc,_,c,ld,rfl,B2,⟨O2.lo,fun m h1 h2=>(O2.fr m h1 h2).trans (O.fr m h1 h2),O2.tb⟩,.next hC (.none hL),S.skip hL⟩)
     · refine fJ ?_
       have O2':Bo st.length st st2 st.length xb2 xu2 xc2:=⟨O2.lo,fun m h1 h2=>(O2.fr m h1 h2).trans (O.fr m h1 h2),O2.tb⟩
       have hup:∀i q,i<top→Mx.g (Mx.setB c2 p top r).A i q=Mx.g c.A i q∧Mx.g (Mx.setB c2 p top r).U i q=Mx.g c.U i q∧Mx.g (Mx.setB c2 p top r).C i q=Mx.g c.C i q:=fun i q hi=>by
        obtain⟨a1,a2,a3⟩:=s1.up i hi
        unfold Mx.g
        rw[a1,a2,a3]
        exact⟨rfl,rfl,rfl⟩
       refine ia B2.eb rfl ?_
       refine⟨st.length,xb2,xu2,xc2,N,w,top,p,Mx.Ez N e0 (top+1),Mx.Vz N e0 top,A,_,_,_,rfl,B2,s1.tn,hN,hw,hp,ht,s1.tp,fun q hq=>s1.zs top q (Nat.le_refl _) ht hq,fun q=>⟨s1.lo.1 top q (Nat.le_refl _) ht,s1.lo.2.1 top q (Nat.le_refl _) ht,s1.lo.2.2 top q (Nat.le_refl _) ht⟩,fun i q hi=>?_,Nat.le_trans (hsz (top+1) ht).1 (by decide),Nat.le_trans (hsz top hle).2 (by decide),fun st3 B3 f3 I=>?_⟩
       · obtain⟨a1,a2,a3⟩:=hup i q hi
         rw[a1,a2,a3]
         exact S.hi i q hi
       · have hS:=Mx.pS.next (e':=Mx.Ez N e0 (top+1)) (u':=Mx.Vz N e0 (top+1)) S s1 ht I hN (by show _≤Mx.Vz N e0 top+Mx.Vz N e0 top+Mx.Ez N e0 (top+1)+5;omega) (by show _≤Mx.Vz N e0 top+Mx.Vz N e0 top+Mx.Ez N e0 (top+1)+5;omega)
         exact next _ _ ⟨top+1,xb2,xu2,xc2,_,_,_,rfl,B3,O2'.low f3,.next hC (.one hR hL),hS⟩
 · rintro σ st2 ⟨top,xb,xu,xc,v3,c,ld,rfl,B,O,hC,S⟩
   have T:=S.tn
   have lN:=T.isA.len
   refine bY B.eb rfl ?_
   obtain⟨da2,hda2,hra2⟩:=(hdk O.fr).ex
   refine du hda2 ?_
   rw[hra2.len,lA]
   refine⟨_,c.C,N,rfl,⟨_,aE B.e3,bN.lst⟩,T.e9.jy,by rw[T.e9.len];omega,by omega,?_⟩
   refine bY B.eb rfl (yd B.e1 ?_)
   rw[B5,←List.map_take]
   refine⟨_,c.A.take top,rfl,⟨_,rfl,bN.lst⟩,by rw[List.length_take];omega,?_⟩
   refine bY B.eb rfl ?_
   refine⟨_,c.U,rfl,⟨_,aE B.e2,bN.lst⟩,by rw[T.eF.len];omega,?_⟩
   refine⟨by show 3≤sizeLine;decide,?_⟩
   refine kk st2 top c ld hC S ⟨?_,O.fr,O.tb⟩
   have:=(List.getElem?_eq_some_iff.mp B.eb).1
   omega
structure Hd(st:ae)(n:Nat)(b:Int):Prop where
 ex:∃(cs:List Int) (p q c:Int),st[n]?=some (.lst [.lst (aC cs),.int p,.int q,.int c])∧(∀x∈cs,0≤x)∧cs.length≤63∧0≤p∧0≤q∧0≤c∧c≤b
structure Upd(st:ae)(n:Nat)(st':ae):Prop where
 len:st'.length=st.length
 same:∀m,m≠n→st'[m]?=st[m]?
theorem Upd.refl{st:ae}{n:Nat}:Upd st n st:=⟨rfl,fun _ _=>rfl⟩
theorem Upd.trans{st st1 st2:ae}{n:Nat}(a:Upd st n st1)(b:Upd st1 n st2):Upd st n st2:=⟨b.len.trans a.len,fun m h=>(b.same m h).trans (a.same m h)⟩
theorem Upd.set{st:ae}{n:Nat}{c:Cell}:Upd st n (st.set n c):=⟨List.length_set,fun m h=>List.getElem?_set_ne (Ne.symm h)⟩
theorem Hd.mono{st:ae}{n:Nat}{b b':Int}(h:Hd st n b)(l:b≤b'):Hd st n b':=let⟨cs,p,q,c,e,h1,h2,h3,h4,h5,h6⟩:=h.ex;⟨cs,p,q,c,e,h1,h2,h3,h4,h5,by omega⟩
theorem mV{st:ae}{n:Nat}{xs ys:List D}{i:Int}{j:Nat}{d:D}{K:ae→Prop}(h:st[n]?=some (.lst xs))(e:jx xs.length i=some j)(ey:xs.set j d=ys)(k:∀st',st'[n]?=some (.lst ys)→Upd st n st'→K st'):t9 (.ref n) (.int i) d st K:=iB h e (by
 rw[ey]
 exact k _ (List.getElem?_set_self (List.getElem?_eq_some_iff.mp h).1) Upd.set)
theorem A4{k:Nat}{te:DE}{B:DS}{E:jC}{σ:bH}{st:ae}(h:te σ st fun d st1=>B E (σ.set k (some d)) st1):aQ (cf k te) B E σ st:=h
def iF:cM:=fun ds st K=>∃ns:List Int,ds=[.lst (ns.map .int)]∧ns.length≤63∧∀st',Hd st' st.length 0→Ext st st'→K (.ref st.length) st'
def jz:List Str:=["_law_script"]
def vO:DS:=(bT (wD (af (dc (eE (oJ (aa 0) m7 (rl (dC (.int 63))))) [none] (bD 0) ck (bV p_ (af (aa 0) ao))) (af (dC (.int 0)) (af (dC (.int 0)) (af (dC (.int 0)) ao))))))
theorem yE(r:List Int):(aC r).map (fun d=>match d with| .int x=> .int ((x.natAbs:Nat):Int)|_=> .aA)=aC (r.map fun x=>((x.natAbs:Nat):Int)):=by unfold aC;rw[List.map_map,List.map_map];rfl
theorem uG:∀ds st K,iF ds st K→ds.length=1∧vO {nx:=fun _ st'=>K .aA st',rt:=K} (bx jz ds) st:=by
 rintro ds st K ⟨ns,rfl,hl,k⟩
 refine⟨rfl,?_⟩
 refine xF (qf ⟨?_,?_⟩)
 · refine cj ?_
   unfold L3.cutD
   simp only[List.length_take,List.length_drop,List.length_map]
   omega
 refine comp_map (g:=fun d=>match d with| .int x=> .int ((x.natAbs:Nat):Int)|_=> .aA) trivial _ (fun d hd K' q=>?_) ?_
 · have:d∈ns.map D.int:=List.mem_of_mem_drop (List.mem_of_mem_take hd)
   obtain⟨i,_,rfl⟩:=List.mem_map.mp this
   exact⟨_,rfl,x5 q⟩
 · have ec:∀lo hi,L3.cutD (ns.map D.int) lo hi=aC ((ns.drop (HT.bz (ns.map D.int).length 0 lo)).take (HT.bz (ns.map D.int).length (ns.map D.int).length hi-HT.bz (ns.map D.int).length 0 lo)):=fun lo hi=>by
    unfold L3.cutD aC
    rw[List.map_take,List.map_drop]
   rw[ec,yE]
   refine⟨Nat.le_of_ble_eq_true rfl,?_⟩
   refine k _ ⟨_,0,0,0,by rw[List.getElem?_append_right (Nat.le_refl _),Nat.sub_self];rfl,fun x hx=>?_,?_,Int.le_refl _,Int.le_refl _,Int.le_refl _,Int.le_refl _⟩ Ext.push
   · obtain⟨y,_,rfl⟩:=List.mem_map.mp hx
     omega
   · simp only[List.length_map,List.length_take,List.length_drop]
     omega
def bL:cM:=fun ds st K=>∃(n:Nat) (m b:Int),ds=[.ref n,.int m]∧Hd st n b∧b≤1000000000∧0<m∧m<2^62∧∀r st',0≤r→r<m→Hd st' n (b+1)→Upd st n st'→K (.int r) st'
def jB:List Str:=["_law_hand_here","_law_many","_law_cell","_law_once","_law_twice","_law_found"]
def vF:DS:=(aQ (eL (aa 0) (dC (.int 3)) (aq dw (aq bw (aa 0) (dC (.int 3))) (dC (.int 1))))
 (aQ (dE (aY (aq gF (aq bw (aa 0) (dC (.int 2))) (dC (.int 0)))) (aQ (cf 2 (dC (.int 0)))
 (aQ (dE (aY (aq kJ (bV eg (af (aq bw (aa 0) (dC (.int 0))) ao)) (dC (.int 0)))) (cf 2 (aq bw (aq bw (aa 0) (dC (.int 0))) (aq gq (aq bw (aa 0) (dC (.int 1))) (bV eg (af (aq bw (aa 0) (dC (.int 0))) ao))))) cT)
 (aQ (eL (aa 0) (dC (.int 1)) (aq dw (aq bw (aa 0) (dC (.int 1))) (dC (.int 1))))
 (aQ (dE (hJ (aY (aq lO (aa 2) (aq mf (dC (.int 10)) (dC (.int 18))))) (aY (aq kJ (aq bw (aa 0) (dC (.int 1))) (bV eg (af (aq bw (aa 0) (dC (.int 0))) ao))))) (aQ (cf 3 (aq dw (aq dw (aq gq (aa 2) (dC (.int 2147483629))) (aq dy (dC (.int 7919)) (aq bw (aa 0) (dC (.int 3))))) (dC (.int 11))))
 (aQ (cf 3 (aq gq (aq dy (aa 3) (aq dw (dC (.int 48271)) (aq dy (dC (.int 2)) (aq bw (aa 0) (dC (.int 3)))))) (dC (.int 2147483647))))
 (aQ (cf 4 (aq gq (aq dw (aq dy (aa 3) (aq dw (aq gq (aa 3) (dC (.int 39373))) (aq bw (aa 0) (dC (.int 3))))) (aq dy (dC (.int 31)) (aq bw (aa 0) (dC (.int 3))))) (dC (.int 1999999973))))
 (bT (aq gq (aq lK (aa 4) (dC (.int 7))) (aa 1)))))) cT)
 (eL (aa 0) (dC (.int 2)) (aa 2)))))) cT)
 (aQ (cf 5 (aq gq (aq bw (aa 0) (dC (.int 2))) (aa 1)))
 (aQ (eL (aa 0) (dC (.int 2)) (aq lK (aq bw (aa 0) (dC (.int 2))) (aa 1)))
 (bT (aa 5))))))
theorem wO{m:Int}(h0:0<m)(h:m<2^62):m.natAbs.log2<9000:=by
 have:m.natAbs.log2<62:=(Nat.log2_lt (by omega)).mpr (by omega)
 omega
theorem uD:∀ds st K,bL ds st K→ds.length=2∧vF {nx:=fun _ st'=>K .aA st',rt:=K} (bx jB ds) st:=by
 rintro ds st K ⟨n,m,b,rfl,⟨cs,p,q,c,e,hcs,hcl,hp,hq,hc,hb⟩,hb2,hm0,hm1,k⟩
 refine⟨rfl,?_⟩
 refine aJ (aE e) (by rfl) (d8 (mV (ys:=[.lst (aC cs),.int p,.int q,.int (c+1)]) e (by rfl) (by rfl) fun st1 e1 U1=>?_))
 have c1: -(2^64)<c+1:=by omega
 have c2:c+1<2^64:=by omega
 dsimp only
 refine gI (fun σ' st'=>∃(v2 v3 v4:Option D) (p q:Int),σ'=[some (.ref n),some (.int m),v2,v3,v4,none]∧st'[n]?=some (.lst [.lst (aC cs),.int p,.int q,.int (c+1)])∧0≤p∧0≤q∧Upd st n st') (fun nx hnx=>?_) ?_
 · refine aJ (aE e1) (by rfl) (eq2 (fun h=>fJ ?_) fun h=>hnx _ _ ⟨_,_,_,p,q,rfl,e1,hp,hq,U1⟩)
   refine A4 ?_
   dsimp only[dC]
   refine gI (fun σ' st'=>∃x:Int,0≤x∧σ'=[some (.ref n),some (.int m),some (.int x),none,none,none]∧st'=st1) (fun nx2 hnx2=>?_) ?_
   · refine aJ (aE e1) (by rfl) (du rfl (m6 ?_))
     rw[List.length_map]
     by_cases hl:(0:Int)<(cs.length:Int)
     · rw[decide_eq_true hl]
       refine fJ (aJ (aE e1) (by rfl) (aJ (aE e1) (by rfl) (aJ (aE e1) (by rfl) (du rfl (jc (by rw[List.length_map];omega) ?_)))))
       rw[List.length_map]
       have m1:=Int.fmod_nonneg_of_pos p hl
       have m2:=Int.fmod_lt_of_pos p hl
       obtain⟨j,ej⟩:=Int.eq_ofNat_of_zero_le m1
       rw[ej]at m2⊢
       have hj:j<cs.length:=by omega
       exact aJ rfl (iS hj) (hnx2 _ _ ⟨_,hcs _ (getD_mem hj),rfl,rfl⟩)
     · rw[decide_eq_false hl]
       exact hnx2 _ _ ⟨0,Int.le_refl _,rfl,rfl⟩
   · rintro σ' st' ⟨x,hx,rfl,rfl⟩
     refine aJ (aE e1) (by rfl) (d8 (mV (ys:=[.lst (aC cs),.int (p+1),.int q,.int (c+1)]) e1 (by rfl) (by rfl) fun st2 e2 U2=>?_))
     have mixed:(aQ (cf 3 (aq dw (aq dw (aq gq (aa 2) (dC (.int 2147483629))) (aq dy (dC (.int 7919)) (aq bw (aa 0) (dC (.int 3))))) (dC (.int 11))))
      (aQ (cf 3 (aq gq (aq dy (aa 3) (aq dw (dC (.int 48271)) (aq dy (dC (.int 2)) (aq bw (aa 0) (dC (.int 3)))))) (dC (.int 2147483647))))
      (aQ (cf 4 (aq gq (aq dw (aq dy (aa 3) (aq dw (aq gq (aa 3) (dC (.int 39373))) (aq bw (aa 0) (dC (.int 3))))) (aq dy (dC (.int 31)) (aq bw (aa 0) (dC (.int 3))))) (dC (.int 1999999973))))
      (bT (aq gq (aq lK (aa 4) (dC (.int 7))) (aa 1)))))) {nx:=nx,rt:=K} [some (.ref n),some (.int m),some (.int x),none,none,none] st2:=by
      refine jc (by decide) (aJ (aE e2) (by rfl) (fE (iK (by decide) (by decide)) (d8 (d8 ?_))))
      have m1:=Int.fmod_nonneg_of_pos x (show(0:Int)<2147483629 by decide)
      have m2:=Int.fmod_lt_of_pos x (show(0:Int)<2147483629 by decide)
      refine aJ (aE e2) (by rfl) (fE (iK (by decide) (by decide)) (d8 (fE (iK (by omega) (by omega)) (jc (by decide) ?_))))
      have u1:=Int.fmod_nonneg_of_pos ((x.fmod 2147483629+7919*(c+1)+11)*(48271+2*(c+1))) (show(0:Int)<2147483647 by decide)
      have u2:=Int.fmod_lt_of_pos ((x.fmod 2147483629+7919*(c+1)+11)*(48271+2*(c+1))) (show(0:Int)<2147483647 by decide)
      generalize((x.fmod 2147483629+7919*(c+1)+11)*(48271+2*(c+1))).fmod 2147483647=u at u1 u2⊢
      refine jc (by decide) (aJ (aE e2) (by rfl) (d8 (fE (iK (by omega) (by omega)) (aJ (aE e2) (by rfl) (fE (iK (by decide) (by decide)) (d8 (jc (by decide) ?_)))))))
      refine u4 (by decide) (by decide+kernel) (jc (by omega) ?_)
      exact k _ _ (Int.fmod_nonneg_of_pos _ hm0) (Int.fmod_lt_of_pos _ hm0) ⟨cs,_,_,_,e2,hcs,hcl,by omega,hq,by omega,by omega⟩ (U1.trans U2)
     refine o8 ⟨by decide,by decide,by decide⟩ (mP ?_)
     by_cases hs:x<10^(18:Int).toNat
     · rw[decide_eq_true hs]
       exact mixed
     · rw[decide_eq_false hs]
       refine aJ (aE e2) (by rfl) (aJ (aE e2) (by rfl) (du rfl (m6 ?_)))
       rw[List.length_map]
       by_cases ho:(cs.length:Int)<p+1
       · rw[decide_eq_true ho]
         exact mixed
       · rw[decide_eq_false ho]
         refine mV (ys:=[.lst (aC cs),.int (p+1),.int x,.int (c+1)]) e2 (by rfl) (by rfl) fun st3 e3 U3=>?_
         exact hnx _ _ ⟨_,_,_,p+1,x,rfl,e3,by omega,hx,(U1.trans U2).trans U3⟩
 · rintro σ' st' ⟨v2,v3,v4,p,q,rfl,e3,hp,hq,U3⟩
   refine aJ (aE e3) (by rfl) (jc (by omega) (aJ (aE e3) (by rfl) (u4 (by omega) (wO hm0 hm1) (mV (ys:=[.lst (aC cs),.int p,.int (q.fdiv m),.int (c+1)]) e3 (by rfl) (by rfl) fun st4 e4 U4=>?_))))
   refine k _ _ (Int.fmod_nonneg_of_pos _ hm0) (Int.fmod_lt_of_pos _ hm0) ⟨cs,_,_,_,e4,hcs,hcl,hp,?_,by omega,by omega⟩ (U3.trans U4)
   rw[Int.fdiv_eq_ediv_of_nonneg _ (by omega)];exact Int.ediv_nonneg hq (by omega)
def fu:cM:=fun ds st K=>∃(n:Nat) (b kd:Int),ds=[.ref n,.int kd]∧Hd st n b∧b≤900000000∧∀r st',r.natAbs≤1000000000000→Hd st' n (b+3)→Upd st n st'→K (.int r) st'
def iE:List Str:=["_law_hand_here","_law_kind","_law_far"]
def tL:DS:=(aQ (dE (aY (aq gF (aa 1) (dC (.int 7)))) (aQ (cf 2 (aq dw (aq dy (a_ bL (af (aa 0) (af (aq mf (dC (.int 10)) (dC (.int 6))) ao))) (aq mf (dC (.int 10)) (dC (.int 6)))) (a_ bL (af (aa 0) (af (aq mf (dC (.int 10)) (dC (.int 6))) ao)))))
 (bT (aq dy (aa 2) (aq bw (nZ (af (dC (.int 1)) (af (mv iP (dC (.int 1))) (af (dC (.int 0)) ao)))) (a_ bL (af (aa 0) (af (dC (.int 3)) ao))))))) cT)
 (bT (aq bw (nZ (af (dC (.int 0)) (af (dC (.int 1)) (af (mv iP (dC (.int 1))) (af (aq lg (a_ bL (af (aa 0) (af (dC (.int 19)) ao))) (dC (.int 9))) ao))))) (a_ bL (af (aa 0) (af (dC (.int 4)) ao))))))
theorem y9:(10:Int)^(6:Int).toNat=1000000:=by decide
theorem qP:∀ds st K,fu ds st K→ds.length=2∧tL {nx:=fun _ st'=>K .aA st',rt:=K} (bx iE ds) st:=by
 rintro ds st K ⟨n,b,kd,rfl,B,hb,k⟩
 refine⟨rfl,?_⟩
 refine eq2 (fun h=>fJ ?_) fun h=>?_
 · refine o8 ⟨by decide,by decide,by decide⟩ ?_
   rw[y9]
   refine⟨n,1000000,b,rfl,B,by omega,by decide,by decide,fun r1 st1 a1 a2 B1 U1=>?_⟩
   refine o8 ⟨by decide,by decide,by decide⟩ ?_
   rw[y9]
   refine fE (mX (by decide) (by decide)) (o8 ⟨by decide,by decide,by decide⟩ ?_)
   rw[y9]
   refine⟨n,1000000,b+1,rfl,B1,by omega,by decide,by decide,fun r2 st2 c1 c2 B2 U2=>d8 ?_⟩
   refine jo ⟨Nat.le_of_ble_eq_true rfl,?_⟩
   refine⟨n,3,b+1+1,rfl,B2,by omega,by decide,by decide,fun r3 st3 d1 d2 B3 U3=>?_⟩
   have U:=(U1.trans U2).trans U3
   have B4:=B3.mono (b':=b+3) (by omega)
   have:r3=0∨r3=1∨r3=2:=by omega
   rcases this with rfl|rfl|rfl
   · exact aJ rfl rfl (fE (mX (by decide) (by decide)) (k _ _ (by omega) B4 U))
   · exact aJ rfl rfl (fE (mX (by decide) (by decide)) (k _ _ (by omega) B4 U))
   · exact aJ rfl rfl (fE (mX (by decide) (by decide)) (k _ _ (by omega) B4 U))
 · refine jo ⟨n,19,b,rfl,B,by omega,by decide,by decide,fun r1 st1 a1 a2 B1 U1=>ma ⟨Nat.le_of_ble_eq_true rfl,?_⟩⟩
   refine⟨n,4,b+1,rfl,B1,by omega,by decide,by decide,fun r2 st2 c1 c2 B2 U2=>?_⟩
   have U:=U1.trans U2
   have B4:=B2.mono (b':=b+3) (by omega)
   have:r2=0∨r2=1∨r2=2∨r2=3:=by omega
   rcases this with rfl|rfl|rfl|rfl
   · exact aJ rfl rfl (k _ _ (by decide) B4 U)
   · exact aJ rfl rfl (k _ _ (by decide) B4 U)
   · exact aJ rfl rfl (k _ _ (by decide) B4 U)
   · exact aJ rfl rfl (k _ _ (by omega) B4 U)
structure XU(st:ae)(n:Nat)(st':ae):Prop where
 len:st.length≤st'.length
 same:∀m,m<st.length→m≠n→st'[m]?=st[m]?
theorem XU.trans{st st1 st2:ae}{n:Nat}(a:XU st n st1)(b:XU st1 n st2):XU st n st2:=⟨Nat.le_trans a.len b.len,fun m h g=>(b.same m (Nat.lt_of_lt_of_le h a.len) g).trans (a.same m h g)⟩
theorem XU.upd{st st1:ae}{n:Nat}(a:Upd st n st1):XU st n st1:=⟨by rw[a.len];exact Nat.le_refl _,fun m _ g=>a.same m g⟩
theorem XU.ext{st st1:ae}{n:Nat}(a:Ext st st1):XU st n st1:=⟨a.len,fun m h _=>a.same m h⟩
theorem XU.set{st st1:ae}{n k:Nat}{c:Cell}(a:XU st n st1)(h:st.length≤k):XU st n (st1.set k c):=⟨by rw[List.length_set];exact a.len,fun m hm g=>by rw[List.getElem?_set_ne (by omega)];exact a.same m hm g⟩
theorem Hd.lt{st:ae}{n:Nat}{b:Int}(B:Hd st n b):n<st.length:=by
 obtain⟨_,_,_,_,e,_⟩:=B.ex
 exact(List.getElem?_eq_some_iff.mp e).1
theorem Hd.cell{st st':ae}{n:Nat}{b:Int}(B:Hd st n b)(e:st'[n]?=st[n]?):Hd st' n b:=by
 obtain⟨cs,p,q,c,e1,r⟩:=B.ex
 exact⟨cs,p,q,c,e.trans e1,r⟩
def il:cM:=fun ds st K=>∃(n:Nat) (b:Int) (many wide:Nat) (kd:Int),ds=[.ref n,.int many,.int wide,.int kd]∧Hd st n b∧b≤600000000∧many≤8∧wide≤8∧∀A st',Mx.cm many wide A→(∀r∈A,∀x∈r,x.natAbs≤1000000000000*256)→Hd st' n (b+300)→XU st n st'→K (cH A) st'
def jK:List Str:=["_law_hand_here","_law_many","_law_wide","_law_kind","_law_rows_here","_law_k","_law_row","_law_way"]
def v8:DS:=(aQ (cf 4 (wD ao))
 (aQ (jr (dJ (af (aa 1) ao)) (bD 5) (aQ (cf 6 (dc (dJ (af (aa 2) ao)) [none,some 0,some 3] (bD 0) ck (a_ fu (af (aa 1) (af (aa 2) ao)))))
 (aQ (cf 7 (a_ bL (af (aa 0) (af (dC (.int 8)) ao))))
 (aQ (dE (aY (aq gF (aa 7) (dC (.int 0)))) (cf 6 (aq dy (nZ (af (dC (.int 0)) ao)) (aa 2))) cT)
 (aQ (dE (ly (aY (aq gF (aa 7) (dC (.int 1)))) (aY (aq kJ (aa 5) (dC (.int 0))))) (cf 6 (bV jD (af (aq bw (aa 4) (aq lg (aa 5) (dC (.int 1)))) ao))) cT)
 (aQ (dE (ly (aY (aq gF (aa 7) (dC (.int 2)))) (aY (aq kJ (aa 5) (dC (.int 1))))) (cf 6 (dc (p8 (af (aq bw (aa 4) (aq lg (aa 5) (dC (.int 1)))) (af (aq bw (aa 4) (aq lg (aa 5) (dC (.int 2)))) ao))) [none,none] (i5 0 1) ck (aq dw (aa 0) (aa 1)))) cT)
 (aQ (dE (ly (aY (aq gF (aa 3) (dC (.int 7)))) (aY (aq lO (aa 7) (dC (.int 3))))) (cf 6 (dc (eE (aa 6)) [none] (bD 0) ck (aq gq (aa 0) (dC (.int 1000))))) cT)
 (iZ (kQ (aa 4) (bV d7 (af (aa 6) ao)))))))))))
 (bT (bV d7 (af (aa 4) ao)))))
theorem tE{n w:Nat}{b kd:Int}{st:ae}{K:List D→ae→Prop}(B:Hd st n b)(hb:b≤700000000)(hw:w≤8)
 (k:∀r st',r.length=w→(∀x∈r,x.natAbs≤1000000000000)→Hd st' n (b+24)→Upd st n st'→K (aC r) st'):
 cU (bD 0) ck (a_ fu (af (aa 1) (af (aa 2) ao))) (fun _=>True) [none,some (.ref n),some (.int kd)] (cX 0 w) [] st K:=by
 refine gD (fun rest acc st'=>∃r:List Int,acc=aC r∧r.length+rest.length=w∧(∀x∈r,x.natAbs≤1000000000000)∧Hd st' n (b+3*r.length)∧Upd st n st') ?_ ?_ _ _ _ ⟨[],rfl,by rw[eA];simp,by simp,B.mono (by simp),Upd.refl⟩
 · rintro acc st' ⟨r,rfl,hl,hr,B',U⟩
   have hl:r.length=w:=by simpa using hl
   exact⟨trivial,k r st' hl hr (B'.mono (by omega)) U⟩
 · rintro x rest acc st' ⟨r,rfl,hl,hr,B',U⟩ next
   have hl2:r.length<w:=by simp at hl;omega
   refine⟨trivial,_,rfl,?_⟩
   refine⟨n,_,kd,rfl,B',by omega,fun y st2 a1 B2 U2=>?_⟩
   show cU _ _ _ _ _ _ _ _ _
   rw[ints_app]
   refine next _ _ ⟨r++[y],rfl,by simp at hl⊢;omega,fun z hz=>?_,B2.mono (by simp;omega),U.trans U2⟩
   rcases List.mem_append.mp hz with h|h
   · exact hr z h
   · have:z=y:=by simpa using h
     subst this;exact a1
theorem nY{A:List (List Int)}{k:Nat}(h:k<A.length):eP (A.map cS) (k:Int)=some (cS (A.getD k [])):=by
 refine h8 ?_
 rw[List.getElem?_map,List.getElem?_eq_getElem h,Mx.aV h];rfl
theorem sq:∀(r s:List Int),(gu (aC r) (aC s)).map (fun d=>match d with| .tup [.int a,.int b]=> .int (a+b)|_=> .aA)=aC (List.zipWith (· + ·) r s)
 | [],_=>rfl
 |_::_,[]=>rfl
 |a::r,b::s=>by
  have:=sq r s
  unfold gu at this⊢
  simp only[aC,List.map_cons,List.zip_cons_cons,List.zipWith_cons_cons]at this⊢
  rw[this]
theorem yB(r:List Int):(aC r).map (fun d=>match d with| .int x=> .int (x.fmod 1000)|_=> .aA)=aC (r.map fun x=>x.fmod 1000):=by unfold aC;rw[List.map_map,List.map_map];rfl
theorem El{M:Nat}{r s:List Int}(hr:∀x∈r,x.natAbs≤M)(hs:∀x∈s,x.natAbs≤M):∀x∈List.zipWith (· + ·) r s,x.natAbs≤2*M:=fun x hx=>by
 obtain⟨k,hk,e⟩:=List.mem_iff_getElem.mp hx
 rw[List.getElem_zipWith]at e
 have h1:=hr _ (List.getElem_mem (by simp at hk;omega:k<r.length))
 have h2:=hs _ (List.getElem_mem (by simp at hk;omega:k<s.length))
 omega
theorem uo:∀ds st K,il ds st K→ds.length=4∧v8 {nx:=fun _ st'=>K .aA st',rt:=K} (bx jK ds) st:=by
 rintro ds st K ⟨n,b,many,wide,kd,rfl,B,hb,hm,hw,k⟩
 refine⟨rfl,?_⟩
 have hn:=B.lt
 refine⟨Nat.le_of_ble_eq_true rfl,?_⟩
 refine eW ⟨by omega,by omega⟩ ?_
 rw[Int.toNat_natCast]
 refine h9 many (fun j σ st'=>∃(A:List (List Int)) (v5 v6 v7:Option D),σ=[some (.ref n),some (.int many),some (.int wide),some (.int kd),some (.ref st.length),v5,v6,v7]∧st'[st.length]?=some (.lst (A.map cS))∧A.length=j∧(∀r∈A,r.length=wide)∧(∀r∈A,∀x∈r,x.natAbs≤1000000000000*2^j)∧Hd st' n (b+25*j)∧XU st n st') ?_ ?_ ⟨[],none,none,none,rfl,by simp,rfl,by simp,by simp,(B.cell (List.getElem?_append_left hn)).mono (by simp),XU.ext Ext.push⟩
 · rintro σ st' ⟨A,v5,v6,v7,rfl,e,hl,hA,hb2,B2,X⟩
   refine d5 (aE e) (k A st' ⟨hl,hA⟩ (fun r hr x hx=>?_) (B2.mono (by omega)) X)
   have p:2^many≤2^8:=Nat.pow_le_pow_right (by decide) hm
   have:=hb2 r hr x hx
   exact Nat.le_trans this (Nat.mul_le_mul_left _ p)
 · rintro j σ st' rest hj ⟨A,v5,v6,v7,rfl,e,hl,hA,hb2,B2,X⟩ next
   refine⟨_,rfl,?_⟩
   refine eW ⟨by omega,by omega⟩ ⟨cj (by rw[eA];omega),?_⟩
   rw[Int.toNat_natCast]
   refine tE (n:=n) (kd:=kd) B2 (by omega) hw fun r0 st1 hr0 hr1 B3 U3=>?_
   refine⟨n,8,_,rfl,B3,by omega,by decide,by decide,fun way st2 w0 w1 B4 U4=>?_⟩
   have hlen:=(List.getElem?_eq_some_iff.mp e).1
   have e2:st2[st.length]?=some (.lst (A.map cS)):=(U4.same _ (by omega)).trans ((U3.same _ (by omega)).trans e)
   have X2:XU st n st2:=X.trans ((XU.upd U3).trans (XU.upd U4))
   have p1:1000000000000≤1000000000000*2^(j+1):=Nat.le_mul_of_pos_right _ (Nat.pow_pos (by decide))
   have p2:1000000000000*2^j*2=1000000000000*2^(j+1):=by rw[Nat.pow_succ,Nat.mul_assoc]
   let J:bH→ae→Prop:=fun σ' st'=>st'=st2∧∃r:List Int,σ'=[some (.ref n),some (.int many),some (.int wide),some (.int kd),some (.ref st.length),some (.int (j:Int)),some (aX r),some (.int way)]∧r.length=wide∧∀x∈r,x.natAbs≤1000000000000*2^(j+1)
   have J0:J [some (.ref n),some (.int many),some (.int wide),some (.int kd),some (.ref st.length),some (.int (j:Int)),some (aX r0),some (.int way)] st2:=⟨rfl,r0,rfl,hr0,fun x hx=>Nat.le_trans (hr1 x hx) p1⟩
   dsimp only
   refine gI J (fun nx hnx=>?_) ?_
   · refine eq2 (fun h=>fJ ?_) fun h=>hnx _ _ J0
     refine Ai (Nat.le_of_ble_eq_true rfl) (vj ⟨by omega,by omega,cj (by simp;omega)⟩ ?_)
     rw[Int.toNat_natCast,nP]
     exact hnx _ _ ⟨rfl,_,rfl,by simp,fun x hx=>by rw[(List.mem_replicate.mp hx).2];exact Nat.zero_le _⟩
   rintro σ' st3 ⟨rfl,r,rfl,hr,hrb⟩
   refine gI J (fun nx hnx=>?_) ?_
   · refine eq2 (fun h=>fJ (m6 ?_)) fun h=>hnx _ _ ⟨rfl,r,rfl,hr,hrb⟩
     by_cases h0:(0:Int)<(j:Int)
     · rw[decide_eq_true h0]
       have ej:(j:Int)-1=((j-1:Nat):Int):=by omega
       refine fJ (ma ?_)
       rw[ej]
       refine aJ (aE e2) (nY (by omega)) (kH rfl ?_)
       have hmem:A.getD (j-1) []∈A:=by rw[Mx.aV (by omega)];exact List.getElem_mem _
       exact hnx _ _ ⟨rfl,_,rfl,hA _ hmem,fun x hx=>Nat.le_trans (hb2 _ hmem x hx) (by omega)⟩
     · rw[decide_eq_false h0]
       exact hnx _ _ ⟨rfl,r,rfl,hr,hrb⟩
   clear hr hrb
   rintro σ' st3 ⟨rfl,r,rfl,hr,hrb⟩
   refine gI J (fun nx hnx=>?_) ?_
   · refine eq2 (fun h=>fJ (m6 ?_)) fun h=>hnx _ _ ⟨rfl,r,rfl,hr,hrb⟩
     by_cases h0:(1:Int)<(j:Int)
     · rw[decide_eq_true h0]
       have ej:(j:Int)-1=((j-1:Nat):Int):=by omega
       have ej2:(j:Int)-2=((j-2:Nat):Int):=by omega
       refine fJ (ma ?_)
       rw[ej]
       refine aJ (aE e2) (nY (by omega)) (ma ?_)
       rw[ej2]
       refine aJ (aE e2) (nY (by omega)) ?_
       have hm1:A.getD (j-1) []∈A:=by rw[Mx.aV (by omega)];exact List.getElem_mem _
       have hm2:A.getD (j-2) []∈A:=by rw[Mx.aV (by omega)];exact List.getElem_mem _
       have l1:=hA _ hm1
       have l2:=hA _ hm2
       refine ox rfl rfl fun ok aH=>⟨cj (by rw[lp,List.length_map,List.length_map];omega),?_⟩
       refine comp_map (g:=fun d=>match d with| .tup [.int a,.int b]=> .int (a+b)|_=> .aA) (aH _ rfl rfl) _ (fun d hd K' q=>?_) ?_
       · obtain⟨a,c,_,_,rfl⟩:=ou hd
         exact⟨_,rfl,d8 q⟩
       rw[sq]
       refine hnx _ _ ⟨rfl,_,rfl,by rw[List.length_zipWith];omega,fun x hx=>?_⟩
       have:=El (hb2 _ hm1) (hb2 _ hm2) x hx
       omega
     · rw[decide_eq_false h0]
       exact hnx _ _ ⟨rfl,r,rfl,hr,hrb⟩
   clear hr hrb
   rintro σ' st3 ⟨rfl,r,rfl,hr,hrb⟩
   refine gI J (fun nx hnx=>?_) ?_
   · refine eq2 (fun h=>fJ (mP ?_)) fun h=>hnx _ _ ⟨rfl,r,rfl,hr,hrb⟩
     by_cases h0:way<3
     · rw[decide_eq_true h0]
       refine fJ (qf ⟨cj (by rw[List.length_map];omega),?_⟩)
       refine comp_map (g:=fun d=>match d with| .int x=> .int (x.fmod 1000)|_=> .aA) trivial _ (fun d hd K' q=>?_) ?_
       · obtain⟨x,_,rfl⟩:=List.mem_map.mp hd
         exact⟨_,rfl,jc (by decide) q⟩
       rw[yB]
       refine hnx _ _ ⟨rfl,_,rfl,by rw[List.length_map];exact hr,fun x hx=>?_⟩
       obtain⟨y,_,rfl⟩:=List.mem_map.mp hx
       have a1:=Int.fmod_nonneg_of_pos y (show(0:Int)<1000 by decide)
       have a2:=Int.fmod_lt_of_pos y (show(0:Int)<1000 by decide)
       omega
     · rw[decide_eq_false h0]
       exact hnx _ _ ⟨rfl,r,rfl,hr,hrb⟩
   clear hr hrb
   rintro σ' st3 ⟨rfl,r,rfl,hr,hrb⟩
   refine BS (by rfl) e2 (d5 rfl (Bf e2 (by rw[sizeLine_eq,List.length_map];omega) ?_))
   have hl2:=(List.getElem?_eq_some_iff.mp e2).1
   refine next _ _ ⟨A++[r],_,_,_,rfl,by rw[List.getElem?_set_self hl2,zE],by simp[hl],fun q hq=>?_,fun q hq x hx=>?_,(B4.cell (List.getElem?_set_ne (by omega))).mono (by omega),X2.set (Nat.le_refl _)⟩
   · rcases List.mem_append.mp hq with h|h
     · exact hA q h
     · have:q=r:=by simpa using h
       subst this;exact hr
   · rcases List.mem_append.mp hq with h|h
     · exact Nat.le_trans (hb2 q h x hx) (by omega)
     · have:q=r:=by simpa using h
       subst this;exact hrb x hx
def g4:cM:=fun ds st K=>∃(n:Nat) (b:Int),ds=[.ref n]∧Hd st n b∧b≤900000000∧∀(x y:Nat) st',1≤x→x≤8→1≤y→y≤8→Hd st' n (b+3)→Upd st n st'→K (.tup [.int x,.int y]) st'
def i6:List Str:=["_law_hand_here"]
def uB:DS:=(aQ (dE (aY (aq gF (a_ bL (af (aa 0) (af (dC (.int 8)) ao))) (dC (.int 0)))) (bT (ow (af (aq dw (dC (.int 5)) (a_ bL (af (aa 0) (af (dC (.int 4)) ao)))) (af (aq dw (dC (.int 5)) (a_ bL (af (aa 0) (af (dC (.int 4)) ao)))) ao)))) cT)
 (bT (ow (af (aq dw (dC (.int 1)) (a_ bL (af (aa 0) (af (dC (.int 4)) ao)))) (af (aq dw (dC (.int 1)) (a_ bL (af (aa 0) (af (dC (.int 4)) ao)))) ao)))))
theorem sr:∀ds st K,g4 ds st K→ds.length=1∧uB {nx:=fun _ st'=>K .aA st',rt:=K} (bx i6 ds) st:=by
 rintro ds st K ⟨n,b,rfl,B,hb,k⟩
 refine⟨rfl,?_⟩
 have fin:∀(x y:Int) st',1≤x→x≤8→1≤y→y≤8→Hd st' n (b+3)→Upd st n st'→K (.tup [.int x,.int y]) st':=fun x y st' h1 h2 h3 h4 H U=>by
  obtain⟨x,rfl⟩:=Int.eq_ofNat_of_zero_le (show 0≤x by omega)
  obtain⟨y,rfl⟩:=Int.eq_ofNat_of_zero_le (show 0≤y by omega)
  exact k x y st' (by omega) (by omega) (by omega) (by omega) H U
 refine⟨n,8,b,rfl,B,by omega,by decide,by decide,fun r0 st0 z1 z2 B0 U0=>?_⟩
 refine eq2 (fun h=>fJ ?_) fun h=>?_
 · refine⟨n,4,b+1,rfl,B0,by omega,by decide,by decide,fun r1 st1 a1 a2 B1 U1=>d8 ?_⟩
   refine⟨n,4,b+1+1,rfl,B1,by omega,by decide,by decide,fun r2 st2 c1 c2 B2 U2=>d8 ⟨Nat.le_of_ble_eq_true rfl,?_⟩⟩
   exact fin _ _ _ (by omega) (by omega) (by omega) (by omega) (B2.mono (by omega)) ((U0.trans U1).trans U2)
 · refine⟨n,4,b+1,rfl,B0,by omega,by decide,by decide,fun r1 st1 a1 a2 B1 U1=>d8 ?_⟩
   refine⟨n,4,b+1+1,rfl,B1,by omega,by decide,by decide,fun r2 st2 c1 c2 B2 U2=>d8 ⟨Nat.le_of_ble_eq_true rfl,?_⟩⟩
   exact fin _ _ _ (by omega) (by omega) (by omega) (by omega) (B2.mono (by omega)) ((U0.trans U1).trans U2)
def ff:cM:=fun ds st K=>∃(n:Nat) (b kinds:Int),ds=[.ref n,.int kinds]∧Hd st n b∧b≤500000000∧0<kinds∧kinds<2^62∧∀(m w:Nat) A st',1≤m→m≤8→1≤w→w≤8→Mx.cm m w A→(∀r∈A,∀x∈r,x.natAbs≤1000000000000*256)→Hd st' n (b+310)→XU st n st'→K (cH A) st'
def gb:List Str:=["_law_hand_here","_law_kinds","_law_many","_law_wide"]
def o7:DS:=(aQ (wz (i5 2 3) (a_ g4 (af (aa 0) ao)))
 (bT (a_ il (af (aa 0) (af (aa 2) (af (aa 3) (af (a_ bL (af (aa 0) (af (aa 1) ao))) ao)))))))
theorem nS:∀ds st K,ff ds st K→ds.length=2∧o7 {nx:=fun _ st'=>K .aA st',rt:=K} (bx gb ds) st:=by
 rintro ds st K ⟨n,b,kinds,rfl,B,hb,k0,k1,k⟩
 refine⟨rfl,?_⟩
 refine⟨n,b,rfl,B,by omega,fun m w st1 m1 m8 w1 w8 B1 U1=>?_⟩
 refine⟨_,rfl,?_⟩
 refine⟨n,kinds,_,rfl,B1,by omega,k0,k1,fun kd st2 a1 a2 B2 U2=>?_⟩
 refine⟨n,_,m,w,kd,rfl,B2,by omega,m8,w8,fun A st3 hA bA B3 X3=>?_⟩
 exact k m w A st3 m1 m8 w1 w8 hA bA (B3.mono (by omega)) ((XU.upd (U1.trans U2)).trans X3)
def kc:cM:=fun ds st K=>∃(x y:D) (n:Nat) (ws:List Int) (A:List (List Int)),ds=[x,y,.int n]∧items? st x=some (aC ws)∧fN st y A∧(∀r∈A,r.length=n)∧n≤1000∧(∀w∈ws,∀r∈A,∀b∈r,IntMulOk w b)∧K (cS (Mx.fg ws A (List.replicate n 0))) st
def kZ:List Str:=["_law_weights","_law_rows_here","_law_wide","_law_row","_law_weight","_law_one"]
def yC:DS:=(aQ (cf 3 (aq dy (nZ (af (dC (.int 0)) ao)) (aa 2)))
 (aQ (jr (p8 (af (aa 0) (af (aa 1) ao))) (i5 4 5) (cf 3 (dc (p8 (af (aa 3) (af (aa 5) ao))) [none,none,some 4] (i5 0 1) ck (aq dw (aa 0) (aq dy (aa 2) (aa 1))))))
 (bT (bV d7 (af (aa 3) ao)))))
theorem xB:∀ds st K,kc ds st K→ds.length=3∧yC {nx:=fun _ st'=>K .aA st',rt:=K} (bx kZ ds) st:=by
 rintro ds st K ⟨x,y,n,ws,A,rfl,hx,⟨dr,hy,hr⟩,hw,hn,hm,k⟩
 refine⟨rfl,?_⟩
 refine Ai (Nat.le_of_ble_eq_true rfl) (vj ⟨by omega,by omega,cj (by simp;omega)⟩ ?_)
 rw[Int.toNat_natCast,nP]
 refine ox hx hy fun ok aH=>?_
 refine kW (fun rest σ st'=>∃(v4 v5:Option D) (ws':List Int) (ds':List D) (A':List (List Int)) (acc:List Int),st=st'∧rest=gu (aC ws') ds'∧bN st ds' A'∧σ=[some x,some y,some (.int n),some (aX acc),v4,v5]∧acc.length=n∧(∀r∈A',r∈A)∧(∀w∈ws',w∈ws)∧Mx.fg ws' A' acc=Mx.fg ws A (List.replicate n 0)) ?_ ?_ _ _ _
  ⟨none,none,ws,dr,A,List.replicate n 0,rfl,rfl,hr,rfl,by simp,fun _ h=>h,fun _ h=>h,rfl⟩
 · rintro σ st1 ⟨v4,v5,ws',ds',A',acc,rfl,he,hr',rfl,hl,_,_,hs⟩
   refine⟨aH _ hx hy,d5 rfl ?_⟩
   have:Mx.fg ws' A' acc=acc:=by
    match ws',ds',A',hr',he with
    | [],_,_,_,_=>unfold Mx.fg;rfl
    |_::_,[],[],_,_=>unfold Mx.fg;rfl
    |_::_,_::_,_::_,_,he=>cases he
   rw[this]at hs
   rw[hs];exact k
 · rintro d rest σ st1 ⟨v4,v5,ws',ds',A',acc,rfl,he,hr',rfl,hl,ha,hw',hs⟩ next
   match ws',ds',A',hr',he with
   |w::ws',e::ds',r::A',hr',he=>
    simp only[aC,List.map_cons,x6,List.cons.injEq]at he
    obtain⟨rfl,rfl⟩:=he
    refine⟨aH _ hx hy,_,rfl,?_⟩
    have hrl:=hw r (ha r List.mem_cons_self)
    have e1:items? st (aX acc)=some (aC acc):=rfl
    refine ox e1 hr'.1 fun ok2 hok2=>⟨cj (by rw[lp];simp;omega),?_⟩
    refine comp_map (g:=fun d=>match d with| .tup [.int a,.int b]=> .int (a+w*b)|_=> .aA) (hok2 st e1 hr'.1) _ (fun d hd K' q=>?_) ?_
    · obtain⟨a,b,_,hb,rfl⟩:=ou hd
      exact⟨_,rfl,fE (hm w (hw' w List.mem_cons_self) r (ha r List.mem_cons_self) b hb) (d8 q)⟩
    have ea:(gu (aC acc) (aC r)).map (fun d=>match d with| .tup [.int a,.int b]=> .int (a+w*b)|_=> .aA)=aC (Mx.fx acc w r):=mB acc r
    rw[ea]
    refine next _ _ ⟨_,_,ws',ds',A',Mx.fx acc w r,rfl,rfl,hr'.2,rfl,by rw[Mx.lr (by omega)];exact hl,fun q hq=>ha q (List.mem_cons_of_mem _ hq),fun q hq=>hw' q (List.mem_cons_of_mem _ hq),?_⟩
    rw[←hs];rfl
   | [],_,_,_,he=>cases he
   |_::_,[],[],_,he=>cases he
def dW:cM:=fun ds st K=>∃(x y:D) (n:Nat) (A B:List (List Int)),ds=[x,y,.int n]∧fN st x A∧fN st y B∧(∀r∈B,r.length=n)∧n≤1000∧A.length≤1000∧(∀w∈A,∀c∈w,∀r∈B,∀b∈r,IntMulOk c b)∧K (cH (Mx.mulM A B n)) st
def g6:List Str:=["_law_one","_law_other","_law_wide"]
def qX:DS:=(bT (bV d7 (af (dc (eE (aa 0)) [none,some 1,some 2] (bD 0) ck (a_ kc (af (aa 0) (af (aa 1) (af (aa 2) ao))))) ao)))
theorem pV:∀ds st K,dW ds st K→ds.length=3∧qX {nx:=fun _ st'=>K .aA st',rt:=K} (bx g6 ds) st:=by
 rintro ds st K ⟨x,y,n,A,B,rfl,⟨da,hx,ra⟩,hy,hw,hn,hl,hm,k⟩
 refine⟨rfl,?_⟩
 refine mx hx fun ok aH=>⟨cj (by rw[ra.len];exact hl),?_⟩
 refine gM (fun r=>cS (Mx.fg r B (List.replicate n 0))) aH ra (fun d r hr he K' q=>⟨_,rfl,d,y,n,r,B,rfl,he,hy,hw,hn,fun c hc=>hm r hr c hc,q⟩) ?_
 have e:A.map (fun r=>cS (Mx.fg r B (List.replicate n 0)))=(Mx.mulM A B n).map cS:=by unfold Mx.mulM;rw[List.map_map];rfl
 rw[e]
 exact d5 rfl k
def g5:cM:=fun ds st K=>∃(n:Nat),ds=[.int n]∧n≤1000∧K (cH (Mx.units n)) st
def iY:List Str:=["_law_n"]
def uk:DS:=(bT (bV d7 (af (dc (dJ (af (aa 0) ao)) [none,some 0] (bD 0) ck (bV d7 (af (dc (dJ (af (aa 1) ao)) [none,some 0] (bD 0) ck (bV sP (af (aq gF (aa 1) (aa 0)) ao))) ao))) ao)))
theorem tZ:∀ds st K,g5 ds st K→ds.length=1∧uk {nx:=fun _ st'=>K .aA st',rt:=K} (bx iY ds) st:=by
 rintro ds st K ⟨n,rfl,hn,k⟩
 refine⟨rfl,?_⟩
 refine eW ⟨by omega,by omega⟩ ⟨cj (by rw[eA];omega),?_⟩
 rw[Int.toNat_natCast]
 refine iD (fun i=>cS (Mx.eX n i)) n (fun i hi K' q=>⟨_,rfl,?_⟩) ?_
 · refine eW ⟨by omega,by omega⟩ ⟨cj (by rw[eA];omega),?_⟩
   rw[Int.toNat_natCast]
   refine iD (fun j=> .int (Mx.dl j i)) n (fun j hj K' q=>⟨_,rfl,?_⟩) ?_
   · refine eq2 (fun h=>uR ?_) fun h=>uR ?_
     · have:i=j:=by omega
       subst this
       rw[Mx.dU]at q;exact q
     · rw[Mx.eB (by omega)]at q;exact q
   · have:(List.range n).map (fun j=>D.int (Mx.dl j i))=aC (Mx.eX n i):=by unfold Mx.eX aC;rw[List.map_map];rfl
     rw[this]
     exact d5 rfl q
 have:(List.range n).map (fun i=>cS (Mx.eX n i))=(Mx.units n).map cS:=by unfold Mx.units;rw[List.map_map];rfl
 rw[this]
 exact d5 rfl k
def dF:cM:=fun ds st K=>∃(B:List (List Int)) (m n:Nat) (dm:D),ds=[cH B,dm,.int n]∧(dm= .aA∨dm= .int m)∧Mx.cm m n B∧n≤1000∧K (.bl true) st
def gJ:List Str:=["_law_found","_law_many","_law_wide","_law_row"]
def p6:DS:=(aQ (dE (hJ (gG (aY (bV js (af (aa 0) (af (dC (.ty "tuple")) ao))))) (ly (aY (aq pj (aa 1) (dC .aA))) (aY (aq kK (bV eg (af (aa 0) ao)) (aa 1))))) (bT (dC (.bl false))) cT)
 (aQ (jr (eE (aa 0)) (bD 3) (aQ (dE (hJ (gG (aY (bV js (af (aa 3) (af (dC (.ty "tuple")) ao))))) (aY (aq kK (bV eg (af (aa 3) ao)) (aa 2)))) (bT (dC (.bl false))) cT)
 (dE (gG (aY (bV pZ (af (dc (eE (aa 3)) [none] (bD 0) ck (mL (bV js (af (aa 0) (af (dC (.ty "int")) ao))) (rg (aY (bV js (af (aa 0) (af (dC (.ty "bool")) ao))))))) ao)))) (bT (dC (.bl false))) cT)))
 (bT (dC (.bl true)))))
theorem vd:∀l:List D,jb (l.map fun _=>D.bl true)=some (l.map fun _=>true)
 | []=>rfl
 |_::l=>by simp[jb,vd l]
theorem oz:∀ds st K,dF ds st K→ds.length=3∧p6 {nx:=fun _ st'=>K .aA st',rt:=K} (bx gJ ds) st:=by
 rintro ds st K ⟨B,m,n,dm,rfl,hdm,hB,hn,k⟩
 refine⟨rfl,?_⟩
 have lB:=hB.len
 refine mj rfl (by decide) ?_
 have go:jr (eE (aa 0)) (bD 3) (aQ (dE (hJ (gG (aY (bV js (af (aa 3) (af (dC (.ty "tuple")) ao))))) (aY (aq kK (bV eg (af (aa 3) ao)) (aa 2)))) (bT (dC (.bl false))) cT)
  (dE (gG (aY (bV pZ (af (dc (eE (aa 3)) [none] (bD 0) ck (mL (bV js (af (aa 0) (af (dC (.ty "int")) ao))) (rg (aY (bV js (af (aa 0) (af (dC (.ty "bool")) ao))))))) ao)))) (bT (dC (.bl false))) cT)) {nx:=bT (dC (.bl true)) {nx:=fun _ st'=>K .aA st',rt:=K},rt:=K} [some (cH B),some dm,some (.int (n:Int)),none] st:=by
  refine jQ ?_
  refine kW (fun rest σ st'=>st'=st∧∃(B2:List (List Int)) (v3:Option D),rest=B2.map cS∧(∀r∈B2,r∈B)∧σ=[some (cH B),some dm,some (.int (n:Int)),v3]) ?_ ?_ _ _ _ ⟨rfl,B,none,rfl,fun r h=>h,rfl⟩
  · rintro σ st' ⟨rfl,B2,v3,hr,hm,rfl⟩
    exact⟨trivial,k⟩
  · rintro x rest σ st' ⟨rfl,B2,v3,hr,hm,rfl⟩ next
    match B2,hr,hm with
    |r::B2,hr,hm=>
     rw[List.map_cons,List.cons.injEq]at hr
     obtain⟨rfl,rfl⟩:=hr
     have hw:=hB.jy r (hm r List.mem_cons_self)
     refine⟨trivial,_,rfl,?_⟩
     refine mj rfl (by decide) ?_
     refine du rfl (zV (by rw[List.length_map,hw]) ?_)
     refine jQ ⟨cj (by rw[List.length_map];omega),?_⟩
     refine comp_map (g:=fun _=> .bl true) trivial _ (fun d hd K' q=>?_) ?_
     · obtain⟨i,_,rfl⟩:=List.mem_map.mp hd
       exact⟨_,rfl,mj rfl (by decide) (fJ (mj rfl (by decide) q))⟩
     refine Cq (vd (aC r)) ?_
     have ea:((aC r).map fun _=>true).all id=true:=by simp
     rw[ea]
     exact next _ _ ⟨rfl,B2,_,rfl,fun r h=>hm r (List.mem_cons_of_mem _ h),rfl⟩
 rcases hdm with rfl|rfl
 · exact xS rfl (Gp go)
 · exact xS rfl (fJ (du rfl (zV (by rw[List.length_map,lB]) go)))
def gK:List Int→Nat→Option Nat
 | [],_=>none
 |x::xs,i=>if x=0 then gK xs (i+1)else some i
def jg(r:List Int):Option Nat:=gK r 0
def fH:List (List Int)→Int→List (List Int)→Bool
 |_,_,[]=>true
 |done,ahead,r::rest=>match jg r with
  |none=>false
  |some l=>if(l:Int)≤ahead∨r.getD l 0<0 then false else if(done.all fun a=>decide (0≤a.getD l 0)&&decide (a.getD l 0<r.getD l 0))=true then fH (done++[r]) l rest else false
theorem kL(done:List (List Int))(ahead:Int)(r:List Int)(rest:List (List Int)):fH done ahead (r::rest)=match jg r with
 |none=>false
 |some l=>if(l:Int)≤ahead∨r.getD l 0<0 then false else if(done.all fun a=>decide (0≤a.getD l 0)&&decide (a.getD l 0<r.getD l 0))=true then fH (done++[r]) l rest else false:=rfl
theorem sS:∀ {r:List Int} {i k:Nat},gK r i=some k→i≤k∧k<i+r.length
 | [],_,_,h=>by cases h
 |x::r,i,k,h=>by
  unfold gK at h
  split at h
  · have:=sS h
    simp only[List.length_cons]
    omega
  · cases h
    simp only[List.length_cons]
    omega
theorem xR{r:List Int}{k:Nat}(h:jg r=some k):k<r.length:=by
 have:=sS (show gK r 0=some k from h)
 omega
theorem oY:∀(r:List Int) (i:Nat),gK r (i+1)=(gK r i).map (· +1)
 | [],_=>rfl
 |x::r,i=>by
  unfold gK
  split
  · exact oY r (i+1)
  · rfl
theorem nM:∀r:List Int,((List.range r.length).filter fun j=>decide (r.getD j 0≠0)).head?=jg r
 | []=>rfl
 |x::r=>by
  have ih:=nM r
  rw[List.length_cons,List.range_succ_eq_map,List.filter_cons]
  by_cases h:x=0
  · have h1:decide ((x::r).getD 0 0≠0)=false:=by simpa using h
    rw[h1,if_neg Bool.false_ne_true,List.filter_map,List.head?_map]
    have e:(fun j=>decide ((x::r).getD j 0≠0))∘Nat.succ=fun j=>decide (r.getD j 0≠0):=by
     funext j
     simp
    rw[e,ih]
    unfold jg
    conv=>rhs;unfold gK
    rw[if_pos h,oY]
  · have h1:decide ((x::r).getD 0 0≠0)=true:=by simpa using h
    rw[h1,if_pos rfl,List.head?_cons]
    unfold jg gK
    rw[if_neg h]
theorem uy{n:Nat}{p:Nat→Bool}{c:DT}{te:DE}{σc:bH}{st:ae}{K:List D→ae→Prop}(h:∀i:Nat,i<n→∃σ2,bD 0 (.int (i:Int)) σc=some σ2∧(∀K',K' (p i) st→c σ2 st K')∧∀K',K' (.int (i:Int)) st→te σ2 st K')(k:K (((List.range n).filter p).map fun(j:Nat)=>D.int (j:Int)) st):cU (bD 0) c te (fun _=>True) σc (cX 0 n) [] st K:=by
 refine gD (fun rest acc st'=>st'=st∧∃j:Nat,j≤n∧rest=(List.range (n-j)).map (fun i=>D.int (((j+i:Nat):Int)))∧acc=((List.range j).filter p).map fun(j:Nat)=>D.int (j:Int)) ?_ ?_ _ _ _ ⟨rfl,0,Nat.zero_le _,by unfold cX;simp,rfl⟩
 · rintro acc st' ⟨rfl,j,hj,hr,rfl⟩
   have:n-j=0:=by
    cases q:n-j with
    |zero=>rfl
    |succ m=>rw[q,List.range_succ_eq_map]at hr;cases hr
   have hjn:j=n:=by omega
   subst hjn
   exact⟨trivial,k⟩
 · rintro d rest acc st' ⟨rfl,j,hj,hr,rfl⟩ next
   cases q:n-j with
   |zero=>rw[q]at hr;cases hr
   |succ m=>
    rw[q,List.range_succ_eq_map,List.map_cons,List.map_map]at hr
    simp only[List.cons.injEq]at hr
    obtain⟨rfl,hrest⟩:=hr
    obtain⟨σ2,e2,hc,ht⟩:=h j (by omega)
    have hrest':rest=(List.range (n-(j+1))).map (fun i=>D.int (((j+1+i:Nat):Int))):=by
     have:n-(j+1)=m:=by omega
     rw[this,hrest]
     refine List.map_congr_left fun i _=>?_
     show D.int (((j+(i+1):Nat):Int))=D.int (((j+1+i:Nat):Int))
     congr 2;omega
    refine⟨trivial,σ2,e2,hc _ ?_⟩
    cases ep:p j with
    |false=>
     refine next _ _ ⟨rfl,j+1,by omega,hrest',?_⟩
     rw[List.range_succ,List.filter_append,List.map_append]
     simp[ep]
    |true=>
     refine fJ (ht _ (next _ _ ⟨rfl,j+1,by omega,hrest',?_⟩))
     rw[List.range_succ,List.filter_append,List.map_append]
     simp[ep]
theorem qw{n:Nat}(ps:List Nat):pl (n+1) (.lst (ps.map fun(j:Nat)=>D.int (j:Int)))=true:=by
 unfold pl
 refine List.all_eq_true.mpr fun d hd=>?_
 obtain⟨i,_,rfl⟩:=List.mem_map.mp hd
 cases n<;>rfl
def gm:cM:=fun ds st K=>∃(d:D) (A:List (List Int)) (w:Nat),ds=[d]∧fN st d A∧(∀r∈A,r.length=w)∧A.length≤1000∧w≤1000∧K (.bl (fH [] (-1) A)) st
def iq:List Str:=["_law_rows_here","_law_last","_law_k","_law_places","_law_j"]
def tS:DS:=(aQ (cf 1 (mv iP (dC (.int 1))))
 (aQ (jr (dJ (af (bV eg (af (aa 0) ao)) ao)) (bD 2) (aQ (cf 3 (dc (dJ (af (bV eg (af (aq bw (aa 0) (aa 2)) ao)) ao)) [none,some 0,some 2] (bD 0) (aY (aq kK (aq bw (aq bw (aa 1) (aa 2)) (aa 0)) (dC (.int 0)))) (aa 0)))
 (aQ (dE (hJ (aY (aq gF (aa 3) (nZ ao))) (hJ (aY (aq ym (aq bw (aa 3) (dC (.int 0))) (aa 1))) (aY (aq lO (aq bw (aq bw (aa 0) (aa 2)) (aq bw (aa 3) (dC (.int 0)))) (dC (.int 1)))))) (bT (dC (.bl false))) cT)
 (aQ (cf 1 (aq bw (aa 3) (dC (.int 0))))
 (jr (dJ (af (aa 2) ao)) (bD 4) (dE (hJ (aY (aq lO (aq bw (aq bw (aa 0) (aa 4)) (aa 1)) (dC (.int 0)))) (aY (aq wU (aq bw (aq bw (aa 0) (aa 4)) (aa 1)) (aq bw (aq bw (aa 0) (aa 2)) (aa 1))))) (bT (dC (.bl false))) cT))))))
 (bT (dC (.bl true)))))
theorem qK:∀ds st K,gm ds st K→ds.length=1∧tS {nx:=fun _ st'=>K .aA st',rt:=K} (bx iq ds) st:=by
 rintro ds st K ⟨d,A,w,rfl,⟨da,hd,ra⟩,hw,hl,hw2,k⟩
 refine⟨rfl,?_⟩
 have hla:=ra.len
 refine jo (du hd ?_)
 rw[hla]
 refine eW ⟨by omega,by omega⟩ ?_
 rw[Int.toNat_natCast]
 refine h9 A.length (fun i σ st'=>st'=st∧∃(last:Int) (v2 v3 v4:Option D),σ=[some d,some (.int last),v2,v3,v4]∧fH [] (-1) A=fH (A.take i) last (A.drop i)) ?_ ?_ ⟨rfl,-1,none,none,none,rfl,rfl⟩
 · rintro σ st' ⟨rfl,last,v2,v3,v4,rfl,hs⟩
   rw[List.drop_length]at hs
   rw[hs]at k
   exact k
 · rintro i σ st' rest hi ⟨rfl,last,v2,v3,v4,rfl,hs⟩ next
   refine⟨_,rfl,?_⟩
   obtain⟨e,ee,he⟩:=ra.at (k:=i) hi
   have hmem:A.getD i []∈A:=by rw[Mx.aV hi];exact List.getElem_mem _
   have hrw:=hw _ hmem
   have hdrop:A.drop i=A.getD i []::A.drop (i+1):=by rw[Mx.aV hi];exact(List.drop_eq_getElem_cons hi)
   have htake:A.take (i+1)=A.take i++[A.getD i []]:=by rw[Mx.aV hi];exact(List.take_succ_eq_append_getElem hi)
   rw[hdrop,kL]at hs
   generalize er:A.getD i []=r at hs he hrw hmem htake
   refine aJ hd ee (du he ?_)
   rw[List.length_map]
   refine eW ⟨by omega,by omega⟩ ⟨cj (by rw[eA];omega),?_⟩
   rw[Int.toNat_natCast]
   refine uy (p:=fun j=>decide (r.getD j 0≠0)) (fun j hj=>⟨_,rfl,fun K' q=>?_,fun K' q=>q⟩) ?_
   · refine aJ hd ee (aJ he (iS hj) (ne2 (fun h=>?_) fun h=>?_))
     · rw[decide_eq_true h]at q;exact q
     · rw[decide_eq_false (fun z=>z h)]at q;exact q
   have hf:=nM r
   generalize eps:((List.range r.length).filter fun j=>decide (r.getD j 0≠0))=ps at hf⊢
   refine⟨Nat.le_of_ble_eq_true rfl,mZ (qw ps) (qw []) ?_⟩
   match ps,eps,hf with
   | [],eps,hf=>
     rw[←hf]at hs
     rw[hs]at k
     unfold bZ iu
     exact k
   |l::ps,eps,hf=>
    have hlead:jg r=some l:=hf.symm
    rw[hlead]at hs
    have hlr:=xR hlead
    have hne:r.getD l 0≠0:=by
     have:l∈(List.range r.length).filter fun j=>decide (r.getD j 0≠0):=by rw[eps];exact List.mem_cons_self
     exact of_decide_eq_true (List.mem_filter.mp this).2
    have e0:bZ (.lst ((l::ps).map fun(j:Nat)=>D.int (j:Int))) (.lst [])=false:=by unfold bZ;exact iJ (by simp)
    rw[e0]
    have ep0:items? st' (.lst ((l::ps).map fun(j:Nat)=>D.int (j:Int)))=some (D.int (l:Int)::ps.map fun(j:Nat)=>D.int (j:Int)):=rfl
    refine aJ ep0 ll (En ?_)
    by_cases h1:(l:Int)≤last
    · rw[decide_eq_true h1]
      simp only[if_pos (show(l:Int)≤last∨r.getD l 0<0 from .inl h1)]at hs
      rw[hs]at k
      exact k
    · rw[decide_eq_false h1]
      refine aJ hd ee (aJ ep0 ll (aJ he (iS hlr) (mP ?_)))
      by_cases h2:r.getD l 0<1
      · rw[decide_eq_true h2]
        simp only[if_pos (show(l:Int)≤last∨r.getD l 0<0 from .inr (by omega))]at hs
        rw[hs]at k
        exact k
      · rw[decide_eq_false h2]
        simp only[if_neg (show¬((l:Int)≤last∨r.getD l 0<0)from fun h=>h.elim h1 (by omega))]at hs
        refine aJ ep0 ll (eW ⟨by omega,by omega⟩ ?_)
        rw[Int.toNat_natCast]
        refine h9 i (fun j σ st2=>st2=st'∧∃v4:Option D,σ=[some d,some (.int (l:Int)),some (.int (i:Int)),some (.lst ((l::ps).map fun(j:Nat)=>D.int (j:Int))),v4]∧∀a∈A.take j,0≤a.getD l 0∧a.getD l 0<r.getD l 0) ?_ ?_ ⟨rfl,_,rfl,by simp⟩
        · rintro σ st2 ⟨rfl,v4,rfl,hall⟩
          have e4:((A.take i).all fun a=>decide (0≤a.getD l 0)&&decide (a.getD l 0<r.getD l 0))=true:=List.all_eq_true.mpr fun a ha=>by
           rw[decide_eq_true (hall a ha).1,decide_eq_true (hall a ha).2];rfl
          rw[e4]at hs
          refine next _ _ ⟨rfl,(l:Int),_,_,_,rfl,?_⟩
          rw[htake]
          exact hs
        · rintro j σ st2 rest2 hj ⟨rfl,v4,rfl,hall⟩ next2
          refine⟨_,rfl,?_⟩
          have hjl:j<A.length:=by omega
          obtain⟨f,ef,hf2⟩:=ra.at (k:=j) hjl
          have hm2:A.getD j []∈A:=by rw[Mx.aV hjl];exact List.getElem_mem _
          have hfl:l<(A.getD j []).length:=by rw[hw _ hm2,←hrw];exact hlr
          have hm3:A.getD j []∈A.take i:=by
           rw[Mx.aV hjl]
           exact List.mem_take_iff_getElem.mpr ⟨j,by omega,rfl⟩
          have htk:A.take (j+1)=A.take j++[A.getD j []]:=by rw[Mx.aV hjl];exact(List.take_succ_eq_append_getElem hjl)
          have bad:¬(0≤(A.getD j []).getD l 0∧(A.getD j []).getD l 0<r.getD l 0)→K (.bl false) st2:=fun hb=>by
           have e4:((A.take i).all fun a=>decide (0≤a.getD l 0)&&decide (a.getD l 0<r.getD l 0))=false:=by
            cases e5:((A.take i).all fun a=>decide (0≤a.getD l 0)&&decide (a.getD l 0<r.getD l 0))with
            |false=>rfl
            |true=>
             have:=List.all_eq_true.mp e5 _ hm3
             simp only[Bool.and_eq_true,decide_eq_true_eq]at this
             exact absurd this hb
           rw[e4]at hs
           rw[hs]at k
           exact k
          refine aJ hd ef (aJ hf2 (iS hfl) (mP ?_))
          by_cases g1:(A.getD j []).getD l 0<0
          · rw[decide_eq_true g1]
            exact bad (by omega)
          · rw[decide_eq_false g1]
            refine aJ hd ef (aJ hf2 (iS hfl) (aJ hd ee (aJ he (iS hlr) (Es ?_))))
            by_cases g2:r.getD l 0≤(A.getD j []).getD l 0
            · rw[decide_eq_true g2]
              exact bad (by omega)
            · rw[decide_eq_false g2]
              refine next2 _ _ ⟨rfl,_,rfl,fun a ha=>?_⟩
              rw[htk]at ha
              rcases List.mem_append.mp ha with h|h
              · exact hall a h
              · have:a=A.getD j []:=by simpa using h
                subst this
                exact⟨by omega,by omega⟩
structure Told(A:List (List Int))(N w:Nat)(top:Nat)(c:Mx.B3):Prop where
 tn:Mx.Tn A c.A c.U c.C N w
 le:top≤N
 zs:∀i q,top≤i→i<N→q<w→Mx.g c.A i q=0
 st:fH [] (-1) (c.A.take top)=true
 sU:∀i q,i<N→(Mx.g c.U i q).natAbs≤2^60000000
 sC:∀i q,i<N→(Mx.g c.C i q).natAbs≤2^60000000
abbrev jI(N top:Nat)(c:Mx.B3):D:= .tup [cH (c.A.take top),cH c.U,cH (Mx.gT c.C N)]
def g0:cM:=fun ds st K=>∃(d:D) (A:List (List Int)) (N w top:Nat) (c:Mx.B3),ds=[d,jI N top c]∧fN st d A∧Mx.cm N w A∧1≤N∧N≤8∧w≤9∧Mx.gS A N 0 (2^48)∧Told A N w top c∧K (.bl true) st
def i7:List Str:=["_law_rows_here","_law_found","_law_many","_law_wide","_law_form","_law_turn","_law_back","_law_units_here"]
def uz:DS:=(aQ (zc 2 3 (af (bV eg (af (aa 0) ao)) (af (bV eg (af (aq bw (aa 0) (dC (.int 0))) ao)) ao)))
 (aQ (dE (hJ (gG (aY (bV js (af (aa 1) (af (dC (.ty "tuple")) ao))))) (hJ (aY (aq kK (bV eg (af (aa 1) ao)) (dC (.int 3)))) (gG (aY (a_ dF (af (aq bw (aa 1) (dC (.int 0))) (af (dC .aA) (af (aa 3) ao)))))))) (bT (dC (.bl false))) cT)
 (aQ (wz (mN 4 5 6) (aa 1))
 (aQ (dE (hJ (gG (aY (a_ gm (af (aa 4) ao)))) (aY (aq kJ (bV eg (af (aa 4) ao)) (aa 2)))) (bT (dC (.bl false))) cT)
 (aQ (dE (hJ (gG (aY (a_ dF (af (aa 5) (af (aa 2) (af (aa 2) ao)))))) (gG (aY (a_ dF (af (aa 6) (af (aa 2) (af (aa 2) ao))))))) (bT (dC (.bl false))) cT)
 (aQ (dE (aY (aq og (a_ dW (af (aa 5) (af (aa 0) (af (aa 3) ao)))) (aq dw (aa 4) (aq dy (ow (af (aq dy (ow (af (dC (.int 0)) ao)) (aa 3)) ao)) (aq lg (aa 2) (bV eg (af (aa 4) ao))))))) (bT (dC (.bl false))) cT)
 (aQ (cf 7 (a_ g5 (af (aa 2) ao)))
 (bT (mL (aq gF (a_ dW (af (aa 5) (af (aa 6) (af (aa 2) ao)))) (aa 7)) (aq gF (a_ dW (af (aa 6) (af (aa 5) (af (aa 2) ao)))) (aa 7)))))))))))
theorem AH{A:List (List Int)}{N w top:Nat}(hA:Mx.cm N w A)(h:top≤N):Mx.cm top w (A.take top):=
 ⟨by rw[List.length_take,hA.len];omega,fun r hr=>hA.jy r (List.mem_of_mem_take hr)⟩
theorem gf{A:List (List Int)}{n:Nat}:pl (n+2) (cH A)=true:=by
 unfold pl
 rw[List.all_eq_true]
 intro x hx
 obtain⟨r,_,rfl⟩:=List.mem_map.mp hx
 unfold pl
 rw[List.all_eq_true]
 intro y hy
 unfold aC at hy
 obtain⟨a,_,rfl⟩:=List.mem_map.mp hy
 unfold pl;rfl
theorem iR{N top:Nat}{c:Mx.B3}:pl 40 (jI N top c)=true:=by
 unfold pl
 simp only[List.all_cons,List.all_nil,gf,Bool.and_true]
theorem xq{X:List (List Int)}{N w:Nat}(hX:Mx.cm N w X){r:List Int}(hr:r∈X){x:Int}(hx:x∈r):∃i q,i<N∧x=Mx.g X i q:=by
 obtain⟨i,hi,rfl⟩:=List.mem_iff_getElem.mp hr
 refine⟨i,?_⟩
 obtain⟨q,e⟩:=q_ (X:=X) (i:=i) (x:=x) (by rw[Mx.aV hi];exact hx)
 exact⟨q,by rw[←hX.len];exact hi,e⟩
theorem AL{w m:Nat}:(List.replicate m [D.tup (List.replicate w [D.int 0]).flatten]).flatten=(List.replicate m (List.replicate w (0:Int))).map cS:=by
 rw[nP]
 induction m with
 |zero=>rfl
 |succ m ih=>rw[List.replicate_succ,List.replicate_succ,List.flatten_cons,List.map_cons,ih];rfl
theorem Fh{w n q:Nat}:(List.replicate n (0:Int)).getD q 0=0:=by
 rw[List.getD_eq_getElem?_getD,List.getElem?_replicate]
 split<;>rfl
theorem vp{X:List (List Int)}{N w top:Nat}(hX:Mx.cm N w X)(ht:top≤N)(hz:∀i q,top≤i→i<N→q<w→Mx.g X i q=0):X=X.take top++List.replicate (N-top) (List.replicate w 0):=by
 have h2:Mx.cm N w (X.take top++List.replicate (N-top) (List.replicate w 0)):=by
  refine⟨by rw[List.length_append,List.length_take,List.length_replicate,hX.len];omega,fun r hr=>?_⟩
  rcases List.mem_append.mp hr with h|h
  · exact hX.jy r (List.mem_of_mem_take h)
  · rw[(List.mem_replicate.mp h).2,List.length_replicate]
 refine hX.ext h2 fun i q hi hq=>?_
 have lt:(X.take top).length=top:=by rw[List.length_take,hX.len];omega
 by_cases h:i<top
 · unfold Mx.g
   have e:X.getD i []=(X.take top++List.replicate (N-top) (List.replicate w 0)).getD i []:=by
    rw[List.getD_eq_getElem?_getD (l:=X),List.getD_eq_getElem?_getD (l:=X.take top++_),List.getElem?_append_left (by omega),List.getElem?_take_of_lt h]
   rw[e]
 · rw[hz i q (by omega) hi hq]
   unfold Mx.g
   rw[List.getD_eq_getElem?_getD (l:=X.take top++_),List.getElem?_append_right (by omega),List.getElem?_replicate,if_pos (by omega)]
   exact(Fh (w:=w)).symm
theorem r8:∀ds st K,g0 ds st K→ds.length=2∧uz {nx:=fun _ st'=>K .aA st',rt:=K} (bx i7 ds) st:=by
 rintro ds st K ⟨d,A,N,w,top,c,rfl,hd,hA,hN1,hN,hw,hlo,T,k⟩
 refine⟨rfl,?_⟩
 obtain⟨da,hda,ra⟩:=hd.ex
 have hdl:=ra.len
 have lA:=hA.len
 have tA:=T.tn.isA
 have tU:=T.tn.eF
 have tC:=T.tn.e9
 have tB:=Mx.Dq tC
 have hle:=T.le
 refine du hda ?_
 rw[hdl,lA]
 obtain⟨d0,e0,i0⟩:=ra.at (k:=0) (by omega)
 refine aJ hda e0 (du i0 ?_)
 have ew:(aC (A.getD 0 [])).length=w:=by unfold aC;rw[List.length_map];exact Mx.bW hA (by omega)
 rw[ew]
 have et:items? st (jI N top c)=some [cH (c.A.take top),cH c.U,cH (Mx.gT c.C N)]:=rfl
 refine mj rfl (by decide) ?_
 refine du et (zV rfl ?_)
 refine aJ et ll ?_
 have tF:=AH tA hle
 refine⟨c.A.take top,top,w,.aA,rfl,.inl rfl,tF,by omega,?_⟩
 refine⟨_,rfl,?_⟩
 refine⟨_,c.A.take top,w,rfl,gH,tF.jy,by rw[tF.len];omega,by omega,?_⟩
 rw[T.st]
 refine du rfl ?_
 rw[List.length_map,tF.len]
 refine FO (by omega) ?_
 refine⟨c.U,N,N,.int N,rfl,.inr rfl,tU,by omega,?_⟩
 refine⟨Mx.gT c.C N,N,N,.int N,rfl,.inr rfl,tB,by omega,?_⟩
 have oU:∀r∈c.U,∀x∈r,x.natAbs≤2^60000000:=fun r hr x hx=>by
  obtain⟨i,q,hi,rfl⟩:=xq tU hr hx
  exact T.sU i q hi
 have oA:∀r∈A,∀x∈r,x.natAbs≤2^48:=fun r hr x hx=>by
  obtain⟨i,q,hi,rfl⟩:=xq hA hr hx
  exact hlo i q (Nat.zero_le _) hi
 have oB:∀r∈Mx.gT c.C N,∀x∈r,x.natAbs≤2^60000000:=fun r hr x hx=>by
  obtain⟨i,hi,rfl⟩:=List.mem_iff_getElem.mp hr
  obtain⟨q,hq,rfl⟩:=List.mem_iff_getElem.mp hx
  have li:i<N:=by rw[←tB.len];exact hi
  have lq:q<N:=by rw[←Mx.bW tB li,Mx.aV hi];exact hq
  have e:((Mx.gT c.C N)[i])[q]=Mx.g (Mx.gT c.C N) i q:=by unfold Mx.g;rw[Mx.aV hi,Mx.aV hq]
  rw[e,Mx.r9 tC lq li]
  exact T.sC q i lq
 refine⟨_,d,w,c.U,A,rfl,gH,hd,hA.jy,by omega,by rw[tU.len];omega,fun r hr x hx r2 hr2 y hy=>ij (oU r hr x hx) (oA r2 hr2 y hy) (by decide),?_⟩
 have eUA:Mx.mulM c.U A w=c.A:=(Mx.pF tU hA).ext tA fun i j hi hj=>by rw[Mx.qd tU hA hi,T.tn.ua i j hi hj]
 have eUB:Mx.mulM c.U (Mx.gT c.C N) N=Mx.units N:=(Mx.pF tU tB).ext (Mx.j5 N) fun i j hi hj=>by
  rw[Mx.qd tU tB hi,Mx.gw hi hj,←T.tn.ub i j hi hj]
  exact Mx.cA fun k hk=>by rw[Mx.r9 tC hj hk]
 have eBU:Mx.mulM (Mx.gT c.C N) c.U N=Mx.units N:=(Mx.pF tB tU).ext (Mx.j5 N) fun i j hi hj=>by
  rw[Mx.qd tB tU hi,Mx.gw hi hj,←T.tn.bu i j hi hj]
  exact Mx.cA fun k hk=>by rw[Mx.r9 tC hk hi]
 rw[eUA]
 refine Ai (Nat.le_of_ble_eq_true rfl) (vn ⟨by omega,by omega,cj (by simp;omega)⟩ ?_)
 rw[Int.toNat_natCast]
 refine Ai (Nat.le_of_ble_eq_true rfl) (du rfl (ma ?_))
 rw[List.length_map,tF.len]
 have es:((N:Int)-(top:Int))=((N-top:Nat):Int):=by omega
 rw[es]
 refine vn ⟨by omega,by omega,cj (by rw[Int.toNat_natCast];simp;omega)⟩ ?_
 rw[Int.toNat_natCast,AL]
 refine A7 (cj (by rw[List.length_map,List.length_map,tF.len,List.length_replicate];omega)) ?_
 have ef:(c.A.take top).map cS++(List.replicate (N-top) (List.replicate w (0:Int))).map cS=c.A.map cS:=by
  rw[←List.map_append,←vp tA hle T.zs]
 rw[ef]
 refine su gf ?_
 refine⟨N,rfl,by omega,?_⟩
 refine⟨_,_,N,c.U,Mx.gT c.C N,rfl,gH,gH,tB.jy,by omega,by rw[tU.len];omega,fun r hr x hx r2 hr2 y hy=>ij (oU r hr x hx) (oB r2 hr2 y hy) (by decide),?_⟩
 rw[eUB]
 refine mZ gf gf ?_
 rw[gB 40 _ gf]
 refine⟨_,_,N,Mx.gT c.C N,c.U,rfl,gH,gH,tU.jy,by omega,by rw[tB.len];omega,fun r hr x hx r2 hr2 y hy=>ij (oB r hr x hx) (oU r2 hr2 y hy) (by decide),?_⟩
 rw[eBU]
 refine mZ gf gf ?_
 rw[gB 40 _ gf]
 exact k
abbrev wc:cM:=xw Cs
def rf:List Str:=["_law_script","_law_hand_here","_law_rows_here","_law_found","_law_handed","_law_again","_law_row"]
def Ff:DS:=(aQ (cf 1 (a_ iF (af (aa 0) ao)))
 (aQ (cf 2 (a_ ff (af (aa 1) (af (dC (.int 8)) ao))))
 (aQ (cf 3 (a_ fO (af (aa 2) ao)))
 (aQ (dE (gG (aY (a_ g0 (af (aa 2) (af (aa 3) ao))))) (bT (dC (.bl false))) cT)
 (aQ (cf 4 (dc (eE (aa 2)) [none] (bD 0) ck (bV j0 (af (aa 0) ao))))
 (aQ (cf 5 (a_ fO (af (aa 4) ao)))
 (aQ (dE (hJ (aY (aq sQ (aa 4) (dc (eE (aa 2)) [none] (bD 0) ck (bV jD (af (aa 0) ao))))) (aY (aq og (aa 5) (aa 3)))) (bT (dC (.bl false))) cT)
 (aQ (jr (eE (aa 4)) (bD 6) (iZ (kU (aa 6))))
 (bT (mL (aq gF (aa 5) (aa 3)) (aq gF (a_ fO (af (aa 2) ao)) (aa 3))))))))))))
theorem rV:∀(r:List Int) (i l:Nat),(∀c,c<l→r.getD c 0=0)→r.getD l 0≠0→gK r i=some (i+l)
 | [],_,_,_,h=>(h rfl).elim
 |x::r,i,0,_,h=>by
  unfold gK
  rw[if_neg (show¬x=0 from h)];rfl
 |x::r,i,l+1,hz,h=>by
  unfold gK
  rw[if_pos (show x=0 from hz 0 (Nat.zero_lt_succ _)),rV r (i+1) l (fun c hc=>hz (c+1) (Nat.succ_lt_succ hc)) h,Nat.add_right_comm]
  rfl
theorem tI{A0:List (List Int)}{N w top e u:Nat}{c:Mx.B3}{ld:Nat→Nat}(S:Mx.jw A0 N w c top w ld e u):∀(m k:Nat) (a:Int),k+m=top→(k<top→a<(ld k:Int))→fH (c.A.take k) a ((c.A.take top).drop k)=true
 |0,k,a,hk,_=>by
  rw[List.drop_eq_nil_of_le (by rw[List.length_take];omega)]
  rfl
 |m+1,k,a,hk,ha=>by
  have hkt:k<top:=by omega
  have hA:=S.tn.isA
  have hl:=hA.len
  have hle:=S.le
  have hk2:k<c.A.length:=by omega
  obtain⟨_,h2,h3⟩:=S.lead k hkt
  have e1:(c.A.take top).drop k=c.A.getD k []::(c.A.take top).drop (k+1):=by
   rw[Mx.aV hk2,List.drop_eq_getElem_cons (by rw[List.length_take];omega),List.getElem_take]
  have e2:c.A.take (k+1)=c.A.take k++[c.A.getD k []]:=by rw[Mx.aV hk2];exact List.take_succ_eq_append_getElem hk2
  have e3:jg (c.A.getD k [])=some (ld k):=by
   have:=rV (c.A.getD k []) 0 (ld k) h3 (Int.ne_of_gt h2)
   rw[Nat.zero_add]at this
   exact this
  have h4:¬((ld k:Int)≤a∨(c.A.getD k []).getD (ld k) 0<0):=fun h=>h.elim (fun h=>Int.not_le.mpr (ha hkt) h) fun h=>Int.lt_irrefl _ (Int.lt_trans h2 h)
  have h5:((c.A.take k).all fun a=>decide (0≤a.getD (ld k) 0)&&decide (a.getD (ld k) 0<(c.A.getD k []).getD (ld k) 0))=true:=List.all_eq_true.mpr fun r hr=>by
   obtain⟨i,hi,rfl⟩:=List.mem_iff_getElem.mp hr
   rw[List.length_take]at hi
   have r1:=S.red i k (by omega) hkt
   unfold Mx.g at r1
   rw[Mx.aV (show i<c.A.length by omega)]at r1
   rw[List.getElem_take,decide_eq_true r1.1,decide_eq_true r1.2];rfl
  rw[e1,kL,e3]
  simp only[if_neg h4,if_pos h5]
  rw[←e2]
  exact tI S m (k+1) _ (by omega) fun h=>Int.ofNat_lt.mpr (S.mono k (k+1) (Nat.lt_succ_self _) h)
theorem AS{A:List (List Int)}{N w top:Nat}{c:Mx.B3}{ld:Nat→Nat}(hN:N<9)(S:Mx.jw A N w c top w ld (Mx.Ez N 48 top) (Mx.Vz N 48 top)):Told A N w top c:=by
 have hz:=Mx.DR N hN top (Nat.lt_succ_of_le S.le)
 have hE:2^Mx.Ez N 48 top≤2^60000000:=Nat.pow_le_pow_right (by decide) (Nat.le_trans hz.1 (by decide))
 have hV:2^Mx.Vz N 48 top≤2^60000000:=Nat.pow_le_pow_right (by decide) hz.2
 refine⟨S.tn,S.le,S.zs,tI S top 0 (-1) (Nat.zero_add _) (fun _=>by omega),fun i q hi=>?_,fun i q hi=>?_⟩
 · by_cases h:i<top
   · exact Nat.le_trans (S.hi i q h).2.1 hV
   · exact Nat.le_trans (S.lo.2.1 i q (Nat.le_of_not_lt h) hi) hE
 · by_cases h:i<top
   · exact Nat.le_trans (S.hi i q h).2.2 hV
   · exact Nat.le_trans (S.lo.2.2 i q (Nat.le_of_not_lt h) hi) hE
theorem pW{st st':ae}:∀ {ns:List Nat} {rs:List (List D)},eJ st ns rs→(∀n∈ns,st'[n]?=st[n]?)→eJ st' ns rs
 | [],[],_,_=>trivial
 |n::_,_::_,h,g=>⟨(g n List.mem_cons_self).trans h.1,pW h.2 fun m hm=>g m (List.mem_cons_of_mem _ hm)⟩
theorem vc{st:ae}{n:Nat}{r:List D}(e:st[n]?=some (.lst r)):∀ {ns:List Nat} {rs:List (List D)},eJ st ns rs→eJ st (ns++[n]) (rs++[r])
 | [],[],_=>⟨e,trivial⟩
 |_::_,_::_,h=>⟨h.1,vc e h.2⟩
theorem uP{st:ae}:∀ {ns:List Nat} {A:List (List Int)},eJ st ns (A.map aC)→bN st (ns.map .ref) A
 | [],[],_=>trivial
 |_::_,_::_,h=>⟨aE h.1,uP h.2⟩
theorem sL{st:ae}:∀ {ns:List Nat} {rs:List (List D)},eJ st ns rs→∀n∈ns,∃xs,st[n]?=some (.lst xs)
 | [],_,_,_,hn=>by cases hn
 |_::_,r::_,h,n,hn=>by
  cases hn with
  |head=>exact⟨r,h.1⟩
  |tail _ hn=>exact sL h.2 n hn
theorem y6{A:List (List Int)}{σc:bH}{st:ae}{K:List D→ae→Prop}(hσ:∀d,∃v:bH,bD 0 d σc=some (some d::v))(k:∀ns st',eJ st' ns (A.map aC)→(∀n∈ns,st.length≤n)→Ext st st'→K (ns.map .ref) st'):
 cU (bD 0) ck (bV j0 (af (aa 0) ao)) (fun _=>True) σc (A.map cS) [] st K:=by
 refine gD (fun rest acc st'=>∃(ns:List Nat) (A1 A2:List (List Int)),A1++A2=A∧rest=A2.map cS∧acc=ns.map .ref∧eJ st' ns (A1.map aC)∧(∀n∈ns,st.length≤n∧n<st'.length)∧Ext st st') ?_ ?_ _ _ _ ⟨[],[],A,rfl,rfl,rfl,trivial,(fun _ h=>by cases h),Ext.refl⟩
 · rintro acc st' ⟨ns,A1,A2,he,hr,rfl,h,hn,X⟩
   match A2,hr with
   | [],_=>
     rw[List.append_nil]at he
     subst he
     exact⟨trivial,k ns st' h (fun n hm=>(hn n hm).1) X⟩
 · rintro d rest acc st' ⟨ns,A1,A2,he,hr,rfl,h,hn,X⟩ next
   match A2,hr with
   |r::A2,hr=>
    rw[List.map_cons,List.cons.injEq]at hr
    obtain⟨rfl,rfl⟩:=hr
    obtain⟨v,hv⟩:=hσ (cS r)
    refine⟨trivial,_,hv,?_⟩
    refine tK rfl ?_
    have hs:∀m,m<st'.length→(st'++[Cell.lst (aC r)])[m]?=st'[m]?:=fun m hm=>List.getElem?_append_left hm
    have X2:Ext st (st'++[Cell.lst (aC r)]):=⟨by rw[List.length_append];exact Nat.le_trans X.len (Nat.le_add_right _ _),fun m hm=>(hs m (Nat.lt_of_lt_of_le hm X.len)).trans (X.same m hm)⟩
    refine next _ _ ⟨ns++[st'.length],A1++[r],A2,by rw[List.append_assoc];exact he,rfl,by rw[List.map_append];rfl,?_,fun n hm=>?_,X2⟩
    · rw[List.map_append]
      exact vc List.getElem?_concat_length (pW h fun n hm=>hs n (hn n hm).2)
    · rw[List.length_append]
      rcases List.mem_append.mp hm with hm|hm
      · exact⟨(hn n hm).1,Nat.lt_succ_of_lt (hn n hm).2⟩
      · rw[List.mem_singleton.mp hm]
        exact⟨X.len,Nat.lt_succ_self _⟩
theorem Cm:∀ds st K,wc ds st K→ds.length=1∧Ff {nx:=fun _ st'=>K .aA st',rt:=K} (bx rf ds) st:=by
 rintro ds st K ⟨ns,rfl,hl,hst,k⟩
 refine⟨rfl,?_⟩
 have l0:st.length=1:=by rw[hst];rfl
 have t0:st[0]?=some (fC false):=by rw[hst];rfl
 clear hst
 refine⟨ns,rfl,hl,fun st1 B1 X1=>?_⟩
 refine⟨_,_,8,rfl,B1,by decide,by decide,by decide,fun N w A st2 N1 N8 w1 w8 hA hb B2 X2=>?_⟩
 have t1:st1[0]?=some (fC false):=by rw[X1.same 0 (by omega)];exact t0
 have l1:=X1.len
 have l2:=X2.len
 have t2:st2[0]?=some (fC false):=by rw[X2.same 0 (by omega) (by omega)];exact t1
 clear B1 X1 B2 X2 t0 t1
 have hlo:Mx.gS A N 0 (2^48):=fun i q _ hi=>by
  by_cases hq:q<w
  · have li:i<A.length:=by rw[hA.len];exact hi
    have lq:q<(A[i]).length:=by rw[hA.jy _ (List.getElem_mem li)];exact hq
    unfold Mx.g
    rw[Mx.aV li,Mx.aV lq]
    exact Nat.le_trans (hb _ (List.getElem_mem li) _ (List.getElem_mem lq)) (by decide)
  · have:Mx.g A i q=0:=by
     unfold Mx.g
     rw[Mx.jN (by rw[Mx.bW hA hi];exact Nat.le_of_not_lt hq)]
    rw[this];exact Nat.zero_le _
 have hN9:N<9:=Nat.lt_succ_of_le N8
 have hw9:w≤9:=Nat.le_succ_of_le w8
 have hsz:∀t,t≤N→Mx.Ez N 48 t≤50000000∧Mx.Vz N 48 t≤60000000:=fun t ht=>Mx.DR N hN9 t (Nat.lt_succ_of_le ht)
 have hAl:A.length≤1000:=by rw[hA.len];omega
 refine⟨_,N,w,48,A,_,rfl,gH,hA,N1,N8,hw9,hlo,hsz,t2,fun st3 top c ld hC S K3=>?_⟩
 have T:=AS hN9 S
 obtain⟨f3,t3⟩:=K3.tb
 have l3:=K3.le
 refine⟨_,A,N,w,top,c,rfl,gH,hA,N1,N8,hw9,hlo,T,?_⟩
 refine jQ ⟨cj (by rw[List.length_map];exact hAl),?_⟩
 refine y6 (fun d=>⟨_,rfl⟩) fun rs st4 h4 n4 X4=>?_
 have t4:st4[0]?=some (fC f3):=by rw[X4.same 0 (by omega)];exact t3
 have same:∀ {top2:Nat} {c2:Mx.B3},Mx.j4 A N w top2 c2→jI N top2 c2=jI N top c:=fun h=>by
  obtain⟨rfl,rfl⟩:=hC.unique h
  rfl
 refine⟨_,N,w,48,A,_,rfl,⟨_,rfl,uP h4⟩,hA,N1,N8,hw9,hlo,hsz,t4,fun st5 top2 c2 _ hC2 _ K5=>?_⟩
 rw[show(D.tup [cH (c2.A.take top2),cH c2.U,cH (Mx.gT c2.C N)])=jI N top c from same hC2]
 obtain⟨f5,t5⟩:=K5.tb
 have h5:eJ st5 rs (A.map aC):=pW h4 fun n hn=>by
  obtain⟨xs,ex⟩:=sL h4 n hn
  have:=n4 n hn
  exact K5.fr n (List.getElem?_eq_some_iff.mp ex).1 (by omega)
 have nz:∀n∈rs,n≠0:=fun n hn=>by have:=n4 n hn;omega
 refine jQ ⟨cj (by rw[List.length_map];exact hAl),?_⟩
 refine gM (fun r=>aX r) trivial bN.tup (fun d r _ he K' q=>⟨_,rfl,kH he q⟩) ?_
 have el:(A.map aC).map D.lst=A.map aX:=by rw[List.map_map];rfl
 have pL:pl 40 (.lst (A.map aX))=true:=by
  unfold pl
  rw[List.all_eq_true]
  intro x hx
  obtain⟨r,_,rfl⟩:=List.mem_map.mp hx
  unfold pl
  rw[List.all_eq_true]
  intro y hy
  unfold aC at hy
  obtain⟨a,_,rfl⟩:=List.mem_map.mp hy
  unfold pl;rfl
 have pL2:((A.map aC).map D.lst).all (pl 39)=true:=by
  rw[el]
  unfold pl at pL
  exact pL
 refine Cp h5 pL2 pL ?_
 rw[el,gB 40 _ pL]
 refine su iR ?_
 refine qf ?_
 refine kW (fun rest σ st'=>∃(v6:Option D) (r2:List Nat) (f:Bool),σ=[some (.lst (ns.map .int)),some (.ref st.length),some (cH A),some (jI N top c),some (.lst (rs.map .ref)),some (jI N top c),v6]∧rest=r2.map .ref∧(∀n∈r2,n≠0∧∃xs,st'[n]?=some (.lst xs))∧st'[0]?=some (fC f)) ?_ ?_ _ _ _ ⟨none,rs,f5,rfl,rfl,fun n hn=>⟨nz n hn,sL h5 n hn⟩,t5⟩
 · rintro σ st' ⟨v6,r2,f,rfl,_,_,t6⟩
   refine⟨trivial,?_⟩
   refine mZ iR iR ?_
   rw[gB 40 _ iR]
   refine⟨_,N,w,48,A,_,rfl,gH,hA,N1,N8,hw9,hlo,hsz,t6,fun st7 top3 c3 _ hC3 _ _=>?_⟩
   rw[show(D.tup [cH (c3.A.take top3),cH c3.U,cH (Mx.gT c3.C N)])=jI N top c from same hC3]
   refine mZ iR iR ?_
   rw[gB 40 _ iR]
   exact k _
 · rintro d rest σ st' ⟨v6,r2,f,rfl,hr,hn,t6⟩ next
   match r2,hr with
   |n::r2,hr=>
    rw[List.map_cons,List.cons.injEq]at hr
    obtain⟨rfl,rfl⟩:=hr
    obtain⟨n0,xs,en⟩:=hn n List.mem_cons_self
    refine⟨trivial,_,rfl,?_⟩
    refine yu (fun K' q=>q) en ?_
    refine next _ _ ⟨_,r2,f,rfl,rfl,fun m hm=>⟨(hn m (List.mem_cons_of_mem _ hm)).1,?_⟩,?_⟩
    · by_cases e:n=m
      · subst e
        exact⟨[],by rw[List.getElem?_set_self (List.getElem?_eq_some_iff.mp en).1]⟩
      · rw[List.getElem?_set_ne e]
        exact(hn m (List.mem_cons_of_mem _ hm)).2
    · rw[List.getElem?_set_ne n0]
      exact t6
end Prog
namespace Row
open PySem L2 L3 Prog
open PySem.Spec hiding items?
open PyProof.Rows hiding St
def top(i:Nat):Stmt:=PySem.Challenge.pw_latticeworks_k12_forms_made.main.body.getD i (.Pass ⟨0,0,0,0⟩)
theorem df:(("tuple":Str))≠"__name__":=by decide+kernel
theorem iL:(("list":Str))≠"__name__":=by decide+kernel
theorem dk:(("len":Str))≠"__name__":=by decide+kernel
theorem w_:(("abs":Str))≠"__name__":=by decide+kernel
theorem xH:(("int":Str))≠"__name__":=by decide+kernel
theorem fQ:(("isinstance":Str))≠"__name__":=by decide+kernel
theorem A9:(("bool":Str))≠"__name__":=by decide+kernel
theorem CJ:(("all":Str))≠"__name__":=by decide+kernel
structure Bl(mg:Str→Option Value):Prop where
 dD:mg "tuple"=none
 rm:mg "zip"=none
 eK:mg "range"=none
 kh:mg "list"=none
 eC:mg "len"=none
 Aq:mg "abs"=none
 yH:mg "sorted"=none
 zG:mg "int"=none
 gg:mg "isinstance"=none
 Ea:mg "bool"=none
 FA:mg "all"=none
structure ClsAt(K:PySem.W.Frag)(mg:Str→Option Value)(x:Str)(C:Addr):Prop where
 cl:jY K C
 mg:mg x=some (.ref C)
 G_:PySem.W.makesIn K C=true
 kp:PySem.W.keepIn K (.ref C)=true
structure MethAt(K:PySem.W.Frag)(C:Addr)(m qual:Str)(st:Stmt)(ps:List Str)(f:Addr)(fd:FuncData):Prop where
 fn:kR K m qual st f fd
 me:Meth K C m f
 bd:Binds K fd ps []
structure Kl(K:PySem.W.Frag)(mg:Str→Option Value):Prop where
 aP:ClsAt K mg "Bench" ai
 bh:fF K ai "body"
 cw:fF K ai "turn"
 bc:fF K ai "back_columns"
section
variable {P:Program}{w:World}{K:PySem.W.Frag}{mg:Str→Option Value}{base:Heap}
abbrev eG:Stmt:=top 1
theorem md:VS (ag eG) kn ["tuple"]:=⟨by decide+kernel⟩
theorem vJ:bf kn ["rows"] (ag eG):=⟨rfl,rfl,rfl,by decide+kernel,rfl,by decide+kernel,by decide+kernel⟩
theorem vt{f:Addr}{fd:FuncData}(B:Bl mg)(Q:Kl K mg)(F:aG K mg "as_rows" "as_rows" eG ["rows"] f fd):
 ax P w K mg base aO 1 f fd ["rows"] (aR h7):=
 cD (N:=kn) F.fn vJ (fun cdv A outer s H E hr=>(aF (bo (fv eY (ab (fA (Nc:=["row"]) (bj.look (ag eG) ["rows"] (by decide+kernel)) (gc (md.nm 0)) (fun _ _ _ _=>(dH (show(["row"]:List Str).Nodup by decide+kernel) (by first|exact Or.inl rfl|exact Or.inr rfl) (by first|exact .inl rfl|exact .inr rfl))) (fun _ _ _ _=>cz) (fun _ _ _ _=>(fv eY (ab cN ak) B.dD rfl df (by decide+kernel) rfl)) cp) ak) B.dD rfl df (md.d 0) (md.g 0))))) vx
abbrev fU:Stmt:=top 2
theorem pJ:VS (ag fU) m_ ["zip"]:=⟨by decide+kernel⟩
theorem yM:bf m_ ["row","times","other"] (ag fU):=⟨rfl,rfl,rfl,by decide+kernel,rfl,by decide+kernel,by decide+kernel⟩
theorem yK{f:Addr}{fd:FuncData}(B:Bl mg)(Q:Kl K mg)(F:aG K mg "added" "added" fU ["row","times","other"] f fd):
 ax P w K mg base aO 1 f fd ["row","times","other"] (aR iO):=
 cD (N:=m_) F.fn yM (fun cdv A outer s H E hr=>(aF (bo (fA (Nc:=["one","two","times"]) (bj.look (ag fU) ["row","times","other"] (by decide+kernel)) (rL (pJ.g 0) B.rm (ab (pJ.nm 0) (ab (pJ.nm 2) ak))) (fun _ _ _ _=>(o4 rfl (show(["one","two","times"]:List Str).Nodup by decide+kernel) (by first|exact Or.inl rfl|exact Or.inr rfl) (by first|exact .inl rfl|exact .inr rfl) (by first|exact Or.inl rfl|exact Or.inr rfl) (by first|exact .inl rfl|exact .inr rfl))) (fun _ _ _ _=>cz) (fun _ _ _ _=>(bI fe cN (bI fK cN cN))) qb)))) zp
abbrev fj:Stmt:=top 3
theorem nX:VS (ag fj) lj ["tuple"]:=⟨by decide+kernel⟩
theorem xy:bf lj ["rows","place"] (ag fj):=⟨rfl,rfl,rfl,by decide+kernel,rfl,by decide+kernel,by decide+kernel⟩
theorem wJ{f:Addr}{fd:FuncData}(B:Bl mg)(Q:Kl K mg)(F:aG K mg "column" "column" fj ["rows","place"] f fd):
 ax P w K mg base aO 1 f fd ["rows","place"] (aR kg):=
 cD (N:=lj) F.fn xy (fun cdv A outer s H E hr=>(aF (bo (fv eY (ab (fA (Nc:=["row","place"]) (bj.look (ag fj) ["rows","place"] (by decide+kernel)) (gc (nX.nm 0)) (fun _ _ _ _=>(dH (show(["row","place"]:List Str).Nodup by decide+kernel) (by first|exact Or.inl rfl|exact Or.inr rfl) (by first|exact .inl rfl|exact .inr rfl))) (fun _ _ _ _=>cz) (fun _ _ _ _=>(aZ cN cN)) cp) ak) B.dD rfl df (nX.d 0) (nX.g 0))))) wY
abbrev cL:Stmt:=top 4
theorem g8:VS (ag cL) g_ ["range","tuple"]:=⟨by decide+kernel⟩
theorem pX:bf g_ ["rows","wide"] (ag cL):=⟨rfl,rfl,rfl,by decide+kernel,rfl,by decide+kernel,by decide+kernel⟩
theorem qc{f:Addr}{fd:FuncData}(B:Bl mg)(Q:Kl K mg)(F:aG K mg "turned_over" "turned_over" cL ["rows","wide"] f fd){a_column:Addr}{d_column:FuncData}(D_column:aG K mg "column" "column" fj ["rows","place"] a_column d_column)(G_column:ax P w K mg base aO 1 a_column d_column ["rows","place"] (aR kg)):
 ax P w K mg base aO 2 f fd ["rows","wide"] (aR fR):=
 cD (N:=g_) F.fn pX (fun cdv A outer s H E hr=>(aF (bo (fv eY (ab (fA (Nc:=["place","rows"]) (bj.look (ag cL) ["rows","wide"] (by decide+kernel)) (dX (g8.g 0) B.eK (ab (g8.nm 1) ak)) (fun _ _ _ _=>(dH (show(["place","rows"]:List Str).Nodup by decide+kernel) (by first|exact Or.inl rfl|exact Or.inr rfl) (by first|exact .inl rfl|exact .inr rfl))) (fun _ _ _ _=>cz) (fun _ _ _ _=>(bQ D_column G_column (hr.mono (by decide)) (ab cN (ab cN ak)) (by decide+kernel) rfl)) cp) ak) B.dD rfl df (g8.d 1) (g8.g 1))))) pR
abbrev dQ:Stmt:=top 5
theorem jJ:VS (ag dQ) jE ["range","tuple"]:=⟨by decide+kernel⟩
theorem uw:bf jE ["n","place"] (ag dQ):=⟨rfl,rfl,rfl,by decide+kernel,rfl,by decide+kernel,by decide+kernel⟩
theorem uA{f:Addr}{fd:FuncData}(B:Bl mg)(Q:Kl K mg)(F:aG K mg "unit_row" "unit_row" dQ ["n","place"] f fd):
 ax P w K mg base aO 1 f fd ["n","place"] (aR iz):=
 cD (N:=jE) F.fn uw (fun cdv A outer s H E hr=>(aF (bo (fv eY (ab (fA (Nc:=["k","place"]) (bj.look (ag dQ) ["n","place"] (by decide+kernel)) (dX (jJ.g 0) B.eK (ab (jJ.nm 0) ak)) (fun _ _ _ _=>(dH (show(["k","place"]:List Str).Nodup by decide+kernel) (by first|exact Or.inl rfl|exact Or.inr rfl) (by first|exact .inl rfl|exact .inr rfl))) (fun _ _ _ _=>cz) (fun _ _ _ _=>(FI (bM (hZ hr) (br _) cN cN) au au)) cp) ak) B.dD rfl df (jJ.d 1) (jJ.g 1))))) uj
abbrev di:Stmt:=top 6
theorem ja:VS (ag di) i4 ["range","tuple"]:=⟨by decide+kernel⟩
theorem sF:bf i4 ["n"] (ag di):=⟨rfl,rfl,rfl,by decide+kernel,rfl,by decide+kernel,by decide+kernel⟩
theorem sE{f:Addr}{fd:FuncData}(B:Bl mg)(Q:Kl K mg)(F:aG K mg "unit_rows" "unit_rows" di ["n"] f fd){a_unit_row:Addr}{d_unit_row:FuncData}(D_unit_row:aG K mg "unit_row" "unit_row" dQ ["n","place"] a_unit_row d_unit_row)(G_unit_row:ax P w K mg base aO 1 a_unit_row d_unit_row ["n","place"] (aR iz)):
 ax P w K mg base aO 2 f fd ["n"] (aR fW):=
 cD (N:=i4) F.fn sF (fun cdv A outer s H E hr=>(aF (bo (fv eY (ab (fA (Nc:=["place","n"]) (bj.look (ag di) ["n"] (by decide+kernel)) (dX (ja.g 0) B.eK (ab (ja.nm 0) ak)) (fun _ _ _ _=>(dH (show(["place","n"]:List Str).Nodup by decide+kernel) (by first|exact Or.inl rfl|exact Or.inr rfl) (by first|exact .inl rfl|exact .inr rfl))) (fun _ _ _ _=>cz) (fun _ _ _ _=>(bQ D_unit_row G_unit_row (hr.mono (by decide)) (ab cN (ab cN ak)) (by decide+kernel) rfl)) cp) ak) B.dD rfl df (ja.d 1) (ja.g 1))))) tf
abbrev bX:Stmt:=top 8
theorem gy:VS (ag bX) e8 []:=⟨by decide+kernel⟩
theorem fY:bf e8 ["top","bottom"] (ag bX):=⟨rfl,rfl,rfl,by decide+kernel,rfl,by decide+kernel,by decide+kernel⟩
theorem lQ{f:Addr}{fd:FuncData}(B:Bl mg)(Q:Kl K mg)(F:aG K mg "nearest_quotient" "nearest_quotient" bX ["top","bottom"] f fd):
 ax P w K mg base aO 1 f fd ["top","bottom"] (aR dS):=
 cD (N:=e8) F.fn fY (fun cdv A outer s H E hr=>(aF (bo (bI (uX hr rfl fY.gen fY.co) (bI fe (bI fK au (gy.nm 0)) (gy.nm 1)) (bI fK au (gy.nm 1)))))) lR
abbrev dO:Stmt:=top 9
theorem cy:VS (ag dO) i8 ["list"]:=⟨by decide+kernel⟩
theorem mq:bf i8 ["rows","k","other"] (ag dO):=⟨rfl,rfl,rfl,by decide+kernel,rfl,by decide+kernel,by decide+kernel⟩
theorem sv{f:Addr}{fd:FuncData}(B:Bl mg)(Q:Kl K mg)(F:aG K mg "exchanged" "exchanged" dO ["rows","k","other"] f fd):
 ax P w K mg base aO 1 f fd ["rows","k","other"] (aR fm):=
 cD (N:=i8) F.fn mq (fun cdv A outer s H E hr=>(aw (cn mq.nd (cy.l 3) (fv uU (ab (cy.nm 0) ak) B.kh rfl iL (cy.d 0) (cy.g 0)))
  (aw (dZ (aZ (cy.nm 0) (cy.nm 2)) (cy.nm 3) (cy.nm 1))
  (aw (dZ (aZ (cy.nm 0) (cy.nm 1)) (cy.nm 3) (cy.nm 2))
  (aF (bo (cy.nm 3))))))) tH
abbrev eH:Stmt:=top 10
theorem wH:VS (ag eH) kj []:=⟨by decide+kernel⟩
theorem vL:bf kj ["row"] (ag eH):=⟨rfl,rfl,rfl,by decide+kernel,rfl,by decide+kernel,by decide+kernel⟩
theorem v9{f:Addr}{fd:FuncData}(B:Bl mg)(Q:Kl K mg)(F:aG K mg "negated" "negated" eH ["row"] f fd):
 ax P w K mg base aO 1 f fd ["row"] (aR gv):=
 cD (N:=kj) F.fn vL (fun cdv A outer s H E hr=>(aF (bo (fA (Nc:=["number"]) (bj.look (ag eH) ["row"] (by decide+kernel)) (gc (wH.nm 0)) (fun _ _ _ _=>(dH (show(["number"]:List Str).Nodup by decide+kernel) (by first|exact Or.inl rfl|exact Or.inr rfl) (by first|exact .inl rfl|exact .inr rfl))) (fun _ _ _ _=>cz) (fun _ _ _ _=>(kq cN)) cp)))) vD
abbrev bK:Stmt:=inClass (top 11) 0
theorem bq:VS (ag bK) fP ["len","unit_rows"]:=⟨by decide+kernel⟩
theorem nt:bf fP ["self","rows"] (ag bK):=⟨rfl,rfl,rfl,by decide+kernel,rfl,by decide+kernel,by decide+kernel⟩
theorem nu{f:Addr}{fd:FuncData}(B:Bl mg)(Q:Kl K mg)(F:MethAt K ai "__init__" "Bench.__init__" bK ["self","rows"] f fd){a_unit_rows:Addr}{d_unit_rows:FuncData}(D_unit_rows:aG K mg "unit_rows" "unit_rows" di ["n"] a_unit_rows d_unit_rows)(G_unit_rows:ax P w K mg base aO 2 a_unit_rows d_unit_rows ["n"] (aR fW)):
 ax P w K mg base aO 3 f fd ["self","rows"] (aR eR):=
 cD (N:=fP) F.fn nt (fun cdv A outer s H E hr=>(aw (jL Q.aP.cl Q.bh (bq.nm 0) (p7 (Nc:=["row"]) (bj.look (ag bK) ["self","rows"] (by decide+kernel)) (gc (bq.nm 1)) (fun _ _ _ _=>(dH (show(["row"]:List Str).Nodup by decide+kernel) (by first|exact Or.inl rfl|exact Or.inr rfl) (by first|exact .inl rfl|exact .inr rfl))) (fun _ _ _ _=>cz) (fun _ _ _ _=>(fv mh (ab cN ak) B.kh rfl iL (by decide+kernel) rfl)) cp))
  (aw (jL Q.aP.cl Q.cw (bq.nm 0) (p7 (Nc:=["row"]) (bj.look (ag bK) ["self","rows"] (by decide+kernel)) (gc (bQ D_unit_rows G_unit_rows (hr.mono (by decide)) (ab (dG d_ (ab (bq.nm 1) ak) B.eC rfl dk (bq.d 0) (bq.g 0)) ak) (bq.d 1) (bq.g 1))) (fun _ _ _ _=>(dH (show(["row"]:List Str).Nodup by decide+kernel) (by first|exact Or.inl rfl|exact Or.inr rfl) (by first|exact .inl rfl|exact .inr rfl))) (fun _ _ _ _=>cz) (fun _ _ _ _=>(fv mh (ab cN ak) B.kh rfl iL (by decide+kernel) rfl)) cp))
  (aF (jL Q.aP.cl Q.bc (bq.nm 0) (p7 (Nc:=["row"]) (bj.look (ag bK) ["self","rows"] (by decide+kernel)) (gc (bQ D_unit_rows G_unit_rows (hr.mono (by decide)) (ab (dG d_ (ab (bq.nm 1) ak) B.eC rfl dk (bq.d 0) (bq.g 0)) ak) (bq.d 1) (bq.g 1))) (fun _ _ _ _=>(dH (show(["row"]:List Str).Nodup by decide+kernel) (by first|exact Or.inl rfl|exact Or.inr rfl) (by first|exact .inl rfl|exact .inr rfl))) (fun _ _ _ _=>cz) (fun _ _ _ _=>(fv mh (ab cN ak) B.kh rfl iL (by decide+kernel) rfl)) cp)))))) nq
abbrev cW:Stmt:=inClass (top 11) 1
theorem aN:VS (ag cW) ir ["added"]:=⟨by decide+kernel⟩
theorem qJ:bf ir ["self","k","times","other"] (ag cW):=⟨rfl,rfl,rfl,by decide+kernel,rfl,by decide+kernel,by decide+kernel⟩
theorem qO{f:Addr}{fd:FuncData}(B:Bl mg)(Q:Kl K mg)(F:MethAt K ai "take" "Bench.take" cW ["self","k","times","other"] f fd){a_added:Addr}{d_added:FuncData}(D_added:aG K mg "added" "added" fU ["row","times","other"] a_added d_added)(G_added:ax P w K mg base aO 1 a_added d_added ["row","times","other"] (aR iO)):
 ax P w K mg base aO 2 f fd ["self","k","times","other"] (aR eQ):=
 cD (N:=ir) F.fn qJ (fun cdv A outer s H E hr=>(aw (dZ (bQ D_added G_added (hr.mono (by decide)) (ab (aZ (cF Q.aP.cl Q.bh (aN.nm 0)) (aN.nm 1)) (ab (kq (aN.nm 2)) (ab (aZ (cF Q.aP.cl Q.bh (aN.nm 0)) (aN.nm 3)) ak))) (aN.d 0) (aN.g 0)) (cF Q.aP.cl Q.bh (aN.nm 0)) (aN.nm 1))
  (aw (dZ (bQ D_added G_added (hr.mono (by decide)) (ab (aZ (cF Q.aP.cl Q.cw (aN.nm 0)) (aN.nm 1)) (ab (kq (aN.nm 2)) (ab (aZ (cF Q.aP.cl Q.cw (aN.nm 0)) (aN.nm 3)) ak))) (aN.d 0) (aN.g 0)) (cF Q.aP.cl Q.cw (aN.nm 0)) (aN.nm 1))
  (aF (dZ (bQ D_added G_added (hr.mono (by decide)) (ab (aZ (cF Q.aP.cl Q.bc (aN.nm 0)) (aN.nm 3)) (ab (aN.nm 2) (ab (aZ (cF Q.aP.cl Q.bc (aN.nm 0)) (aN.nm 1)) ak))) (aN.d 0) (aN.g 0)) (cF Q.aP.cl Q.bc (aN.nm 0)) (aN.nm 3)))))) qY
abbrev cu:Stmt:=inClass (top 11) 2
theorem aU:VS (ag cu) fM ["exchanged"]:=⟨by decide+kernel⟩
theorem nr:bf fM ["self","k","other"] (ag cu):=⟨rfl,rfl,rfl,by decide+kernel,rfl,by decide+kernel,by decide+kernel⟩
theorem nj{f:Addr}{fd:FuncData}(B:Bl mg)(Q:Kl K mg)(F:MethAt K ai "exchange" "Bench.exchange" cu ["self","k","other"] f fd){a_exchanged:Addr}{d_exchanged:FuncData}(D_exchanged:aG K mg "exchanged" "exchanged" dO ["rows","k","other"] a_exchanged d_exchanged)(G_exchanged:ax P w K mg base aO 1 a_exchanged d_exchanged ["rows","k","other"] (aR fm)):
 ax P w K mg base aO 2 f fd ["self","k","other"] (aR eO):=
 cD (N:=fM) F.fn nr (fun cdv A outer s H E hr=>(aw (jL Q.aP.cl Q.bh (aU.nm 0) (bQ D_exchanged G_exchanged (hr.mono (by decide)) (ab (cF Q.aP.cl Q.bh (aU.nm 0)) (ab (aU.nm 1) (ab (aU.nm 2) ak))) (aU.d 0) (aU.g 0)))
  (aw (jL Q.aP.cl Q.cw (aU.nm 0) (bQ D_exchanged G_exchanged (hr.mono (by decide)) (ab (cF Q.aP.cl Q.cw (aU.nm 0)) (ab (aU.nm 1) (ab (aU.nm 2) ak))) (aU.d 0) (aU.g 0)))
  (aF (jL Q.aP.cl Q.bc (aU.nm 0) (bQ D_exchanged G_exchanged (hr.mono (by decide)) (ab (cF Q.aP.cl Q.bc (aU.nm 0)) (ab (aU.nm 1) (ab (aU.nm 2) ak))) (aU.d 0) (aU.g 0))))))) nh
abbrev bR:Stmt:=inClass (top 11) 3
theorem aK:VS (ag bR) eU ["negated"]:=⟨by decide+kernel⟩
theorem lH:bf eU ["self","k"] (ag bR):=⟨rfl,rfl,rfl,by decide+kernel,rfl,by decide+kernel,by decide+kernel⟩
theorem lz{f:Addr}{fd:FuncData}(B:Bl mg)(Q:Kl K mg)(F:MethAt K ai "change_sign" "Bench.change_sign" bR ["self","k"] f fd){a_negated:Addr}{d_negated:FuncData}(D_negated:aG K mg "negated" "negated" eH ["row"] a_negated d_negated)(G_negated:ax P w K mg base aO 1 a_negated d_negated ["row"] (aR gv)):
 ax P w K mg base aO 2 f fd ["self","k"] (aR dz):=
 cD (N:=eU) F.fn lH (fun cdv A outer s H E hr=>(aw (dZ (bQ D_negated G_negated (hr.mono (by decide)) (ab (aZ (cF Q.aP.cl Q.bh (aK.nm 0)) (aK.nm 1)) ak) (aK.d 0) (aK.g 0)) (cF Q.aP.cl Q.bh (aK.nm 0)) (aK.nm 1))
  (aw (dZ (bQ D_negated G_negated (hr.mono (by decide)) (ab (aZ (cF Q.aP.cl Q.cw (aK.nm 0)) (aK.nm 1)) ak) (aK.d 0) (aK.g 0)) (cF Q.aP.cl Q.cw (aK.nm 0)) (aK.nm 1))
  (aF (dZ (bQ D_negated G_negated (hr.mono (by decide)) (ab (aZ (cF Q.aP.cl Q.bc (aK.nm 0)) (aK.nm 1)) ak) (aK.d 0) (aK.g 0)) (cF Q.aP.cl Q.bc (aK.nm 0)) (aK.nm 1)))))) lu
abbrev bE:Stmt:=inClass (top 11) 4
theorem cB:VS (ag bE) fq ["len","range","sorted"]:=⟨by decide+kernel⟩
theorem jd:bf fq ["self","top","place"] (ag bE):=⟨rfl,rfl,rfl,by decide+kernel,rfl,by decide+kernel,by decide+kernel⟩
theorem mD{f:Addr}{fd:FuncData}(B:Bl mg)(Q:Kl K mg)(F:MethAt K ai "live_rows" "Bench.live_rows" bE ["self","top","place"] f fd)(FC:Dc K "live_rows" "Bench.live_rows" bE f fd 100)(hC:PySem.W.codeHdIn K 100 98=true):
 ax P w K mg base aO 3 f fd ["self","top","place"] (aR dv):=
 B7 (N:=fq) FC jd (fun A outer s H E hr=>(aw (iW jd.nd (cB.l 3) (Nc:=["k","self","place"]) (bj.look (ag bE) ["self","top","place","live"] (by decide+kernel)) (zr (cB.g 1) B.eK (ab (cB.nm 1) (ab (dG d_ (ab (cF Q.aP.cl Q.bh (cB.nm 0)) ak) B.eC rfl dk (cB.d 0) (cB.g 0)) ak))) (fun _ _ _ _=>(dH (show(["k","self","place"]:List Str).Nodup by decide+kernel) (by first|exact Or.inl rfl|exact Or.inr rfl) (by first|exact .inl rfl|exact .inr rfl))) (fun _ _ _ _=>(xU (bM sO (br _) (aZ (aZ (cF Q.aP.cl Q.bh cN) cN) cN) au))) (fun _ _ _ _=>cN) cp)
  (aF (bo (Au (c0:=100) (jF.look (Nc:=["k","self","place"]) (fr:=[none,some 0,some 2]) (p:="k") (bj.look (ag bE) ["self","top","place","live"] (by decide+kernel))) rfl hr rfl hC (fun _ _ _ _=>(dG zZ (ab (aZ (aZ (cF Q.aP.cl Q.bh cN) cN) cN) ak) B.Aq rfl w_ (by decide+kernel) rfl)) (cB.nm 3) (cB.g 2) B.yH))))) l_
abbrev cP:Stmt:=inClass (top 11) 5
theorem av:VS (ag cP) gN ["len","nearest_quotient"]:=⟨by decide+kernel⟩
theorem fc:bf gN ["self","top","place"] (ag cP):=⟨rfl,rfl,rfl,by decide+kernel,rfl,by decide+kernel,by decide+kernel⟩
theorem o6{f:Addr}{fd:FuncData}(B:Bl mg)(Q:Kl K mg)(F:MethAt K ai "gather" "Bench.gather" cP ["self","top","place"] f fd){a_Bench_live_rows:Addr}{d_Bench_live_rows:FuncData}(D_Bench_live_rows:MethAt K ai "live_rows" "Bench.live_rows" bE ["self","top","place"] a_Bench_live_rows d_Bench_live_rows)(G_Bench_live_rows:ax P w K mg base aO 3 a_Bench_live_rows d_Bench_live_rows ["self","top","place"] (aR dv)){a_nearest_quotient:Addr}{d_nearest_quotient:FuncData}(D_nearest_quotient:aG K mg "nearest_quotient" "nearest_quotient" bX ["top","bottom"] a_nearest_quotient d_nearest_quotient)(G_nearest_quotient:ax P w K mg base aO 1 a_nearest_quotient d_nearest_quotient ["top","bottom"] (aR dS)){a_Bench_take:Addr}{d_Bench_take:FuncData}(D_Bench_take:MethAt K ai "take" "Bench.take" cW ["self","k","times","other"] a_Bench_take d_Bench_take)(G_Bench_take:ax P w K mg base aO 2 a_Bench_take d_Bench_take ["self","k","times","other"] (aR eQ)){a_Bench_exchange:Addr}{d_Bench_exchange:FuncData}(D_Bench_exchange:MethAt K ai "exchange" "Bench.exchange" cu ["self","k","other"] a_Bench_exchange d_Bench_exchange)(G_Bench_exchange:ax P w K mg base aO 2 a_Bench_exchange d_Bench_exchange ["self","k","other"] (aR eO)){a_Bench_change_sign:Addr}{d_Bench_change_sign:FuncData}(D_Bench_change_sign:MethAt K ai "change_sign" "Bench.change_sign" bR ["self","k"] a_Bench_change_sign d_Bench_change_sign)(G_Bench_change_sign:ax P w K mg base aO 2 a_Bench_change_sign d_Bench_change_sign ["self","k"] (aR dz)):
 ax P w K mg base aO 4 f fd ["self","top","place"] (aR fy):=
 cD (N:=gN) F.fn fc (fun cdv A outer s H E hr=>(aw (cn fc.nd (av.l 3) (je (av.nm 0) Q.aP.cl D_Bench_live_rows.me G_Bench_live_rows (hr.mono (by decide)) D_Bench_live_rows.bd (ab (av.nm 1) (ab (av.nm 2) ak))))
  (aw (yT (bM pY (br _) (dG d_ (ab (av.nm 3) ak) B.eC rfl dk (av.d 0) (av.g 0)) au) (aw (cn fc.nd (av.l 4) (aZ (av.nm 3) (kq au)))
  (aw (cn fc.nd (av.l 5) (aZ (av.nm 3) (kq au)))
  (aw (iV (je (av.nm 0) Q.aP.cl D_Bench_take.me G_Bench_take (hr.mono (by decide)) D_Bench_take.bd (ab (av.nm 4) (ab (bQ D_nearest_quotient G_nearest_quotient (hr.mono (by decide)) (ab (aZ (aZ (cF Q.aP.cl Q.bh (av.nm 0)) (av.nm 4)) (av.nm 2)) (ab (aZ (aZ (cF Q.aP.cl Q.bh (av.nm 0)) (av.nm 5)) (av.nm 2)) ak)) (av.d 1) (av.g 1)) (ab (av.nm 5) ak)))))
  (aF (cn fc.nd (av.l 3) (je (av.nm 0) Q.aP.cl D_Bench_live_rows.me G_Bench_live_rows (hr.mono (by decide)) D_Bench_live_rows.bd (ab (av.nm 1) (ab (av.nm 2) ak)))))))))
  (aw (dt (bM (hZ hr) (br _) (dG d_ (ab (av.nm 3) ak) B.eC rfl dk (av.d 0) (av.g 0)) au) (aF (bo hW)) cJ)
  (aw (iV (je (av.nm 0) Q.aP.cl D_Bench_exchange.me G_Bench_exchange (hr.mono (by decide)) D_Bench_exchange.bd (ab (av.nm 1) (ab (aZ (av.nm 3) au) ak))))
  (aw (dt (bM tP (br _) (aZ (aZ (cF Q.aP.cl Q.bh (av.nm 0)) (av.nm 1)) (av.nm 2)) au) (aF (iV (je (av.nm 0) Q.aP.cl D_Bench_change_sign.me G_Bench_change_sign (hr.mono (by decide)) D_Bench_change_sign.bd (ab (av.nm 1) ak)))) cJ)
  (aF (bo hW)))))))) oN
abbrev bS:Stmt:=inClass (top 11) 6
theorem bB:VS (ag bS) eV ["range"]:=⟨by decide+kernel⟩
theorem eh:bf eV ["self","top","place"] (ag bS):=⟨rfl,rfl,rfl,by decide+kernel,rfl,by decide+kernel,by decide+kernel⟩
theorem lb{f:Addr}{fd:FuncData}(B:Bl mg)(Q:Kl K mg)(F:MethAt K ai "lower_above" "Bench.lower_above" bS ["self","top","place"] f fd){a_Bench_take:Addr}{d_Bench_take:FuncData}(D_Bench_take:MethAt K ai "take" "Bench.take" cW ["self","k","times","other"] a_Bench_take d_Bench_take)(G_Bench_take:ax P w K mg base aO 2 a_Bench_take d_Bench_take ["self","k","times","other"] (aR eQ)):
 ax P w K mg base aO 3 f fd ["self","top","place"] (aR dB):=
 cD (N:=eV) F.fn eh (fun cdv A outer s H E hr=>(aF (jn (dX (bB.g 0) B.eK (ab (bB.nm 1) ak)) (dH eh.nd (by first|exact Or.inl rfl|exact Or.inr rfl) (by first|exact .inl rfl|exact .inr rfl)) (aF (iV (je (bB.nm 0) Q.aP.cl D_Bench_take.me G_Bench_take (hr.mono (by decide)) D_Bench_take.bd (ab (bB.nm 3) (ab (bI (uX hr rfl eh.gen eh.co) (aZ (aZ (cF Q.aP.cl Q.bh (bB.nm 0)) (bB.nm 3)) (bB.nm 2)) (aZ (aZ (cF Q.aP.cl Q.bh (bB.nm 0)) (bB.nm 1)) (bB.nm 2))) (ab (bB.nm 1) ak))))))))) k_
abbrev eD:Stmt:=top 12
theorem aS:VS (ag eD) jG ["Bench","len","range","turned_over","as_rows"]:=⟨by decide+kernel⟩
theorem fV:bf jG ["rows"] (ag eD):=⟨rfl,rfl,rfl,by decide+kernel,rfl,by decide+kernel,by decide+kernel⟩
theorem um{f:Addr}{fd:FuncData}(B:Bl mg)(Q:Kl K mg)(F:aG K mg "standing" "standing" eD ["rows"] f fd){a_Bench___init__:Addr}{d_Bench___init__:FuncData}(D_Bench___init__:MethAt K ai "__init__" "Bench.__init__" bK ["self","rows"] a_Bench___init__ d_Bench___init__)(G_Bench___init__:ax P w K mg base aO 3 a_Bench___init__ d_Bench___init__ ["self","rows"] (aR eR)){a_Bench_gather:Addr}{d_Bench_gather:FuncData}(D_Bench_gather:MethAt K ai "gather" "Bench.gather" cP ["self","top","place"] a_Bench_gather d_Bench_gather)(G_Bench_gather:ax P w K mg base aO 4 a_Bench_gather d_Bench_gather ["self","top","place"] (aR fy)){a_Bench_lower_above:Addr}{d_Bench_lower_above:FuncData}(D_Bench_lower_above:MethAt K ai "lower_above" "Bench.lower_above" bS ["self","top","place"] a_Bench_lower_above d_Bench_lower_above)(G_Bench_lower_above:ax P w K mg base aO 3 a_Bench_lower_above d_Bench_lower_above ["self","top","place"] (aR dB)){a_turned_over:Addr}{d_turned_over:FuncData}(D_turned_over:aG K mg "turned_over" "turned_over" cL ["rows","wide"] a_turned_over d_turned_over)(G_turned_over:ax P w K mg base aO 2 a_turned_over d_turned_over ["rows","wide"] (aR fR)){a_as_rows:Addr}{d_as_rows:FuncData}(D_as_rows:aG K mg "as_rows" "as_rows" eG ["rows"] a_as_rows d_as_rows)(G_as_rows:ax P w K mg base aO 1 a_as_rows d_as_rows ["rows"] (aR h7)):
 ax P w K mg base aO 5 f fd ["rows"] (aR fO):=
 cD (N:=jG) F.fn fV (fun cdv A outer s H E hr=>(aw (cn fV.nd (aS.l 1) (Dr ⟨Q.aP.G_,D_Bench___init__.me.at_,D_Bench___init__.me.fn,Q.aP.kp⟩ G_Bench___init__ (hr.mono (by decide)) (aS.g 0) Q.aP.mg D_Bench___init__.bd (ab (aS.nm 0) ak) (aS.d 0)))
  (aw (cn fV.nd (aS.l 2) au)
  (aw (jn (dX (aS.g 2) B.eK (ab (dG d_ (ab (aZ (aS.nm 0) au) ak) B.eC rfl dk (aS.d 1) (aS.g 1)) ak)) (dH fV.nd (by first|exact Or.inl rfl|exact Or.inr rfl) (by first|exact .inl rfl|exact .inr rfl)) (aF (dt (gY (je (aS.nm 1) Q.aP.cl D_Bench_gather.me G_Bench_gather (hr.mono (by decide)) D_Bench_gather.bd (ab (aS.nm 2) (ab (aS.nm 3) ak)))) (aw (iV (je (aS.nm 1) Q.aP.cl D_Bench_lower_above.me G_Bench_lower_above (hr.mono (by decide)) D_Bench_lower_above.bd (ab (aS.nm 2) (ab (aS.nm 3) ak))))
  (aF (Dm fV.nd (aS.l 2) au Ec))) cJ)))
  (aw (cn fV.nd (aS.l 4) (bQ D_turned_over G_turned_over (hr.mono (by decide)) (ab (cF Q.aP.cl Q.bc (aS.nm 1)) (ab (dG d_ (ab (aS.nm 0) ak) B.eC rfl dk (aS.d 1) (aS.g 1)) ak)) (aS.d 3) (aS.g 3)))
  (aF (bo (oP (ab (bQ D_as_rows G_as_rows (hr.mono (by decide)) (ab (u_ (cF Q.aP.cl Q.bh (aS.nm 1)) uK (uJ (aS.nm 2))) ak) (aS.d 4) (aS.g 4)) (ab (bQ D_as_rows G_as_rows (hr.mono (by decide)) (ab (cF Q.aP.cl Q.cw (aS.nm 1)) ak) (aS.d 4) (aS.g 4)) (ab (aS.nm 4) ak))))))))))) uE
abbrev dN:Stmt:=top 14
theorem vU:VS (ag dN) jz []:=⟨by decide+kernel⟩
theorem ux:bf jz ["_law_script"] (ag dN):=⟨rfl,rfl,rfl,by decide+kernel,rfl,by decide+kernel,by decide+kernel⟩
theorem ui{f:Addr}{fd:FuncData}(B:Bl mg)(Q:Kl K mg)(F:aG K mg "_law_hand" "_law_hand" dN ["_law_script"] f fd):
 ax P w K mg base aO 1 f fd ["_law_script"] (aR iF):=
 cD (N:=jz) F.fn ux (fun cdv A outer s H E hr=>(aF (bo (zP (ab (fA (Nc:=["_law_cell"]) (bj.look (ag dN) ["_law_script"] (by decide+kernel)) (gc (u_ (vU.nm 0) uK (uJ au))) (fun _ _ _ _=>(dH (show(["_law_cell"]:List Str).Nodup by decide+kernel) (by first|exact Or.inl rfl|exact Or.inr rfl) (by first|exact .inl rfl|exact .inr rfl))) (fun _ _ _ _=>cz) (fun _ _ _ _=>(dG zZ (ab cN ak) B.Aq rfl w_ (by decide+kernel) rfl)) cp) (ab au (ab au (ab au ak)))))))) uG
abbrev c_:Stmt:=top 15
theorem az:VS (ag c_) jB ["len"]:=⟨by decide+kernel⟩
theorem fh:bf jB ["_law_hand_here","_law_many"] (ag c_):=⟨rfl,rfl,rfl,by decide+kernel,rfl,by decide+kernel,by decide+kernel⟩
theorem uv{f:Addr}{fd:FuncData}(B:Bl mg)(Q:Kl K mg)(F:aG K mg "_law_draw" "_law_draw" c_ ["_law_hand_here","_law_many"] f fd):
 ax P w K mg base aO 1 f fd ["_law_hand_here","_law_many"] (aR bL):=
 cD (N:=jB) F.fn fh (fun cdv A outer s H E hr=>(aw (dZ (bI fe (aZ (az.nm 0) au) au) (az.nm 0) au)
  (aw (dt (bM (hZ hr) (br _) (aZ (az.nm 0) au) au) (aw (cn fh.nd (az.l 2) au)
  (aw (dt (bM pY (br _) (dG d_ (ab (aZ (az.nm 0) au) ak) B.eC rfl dk (az.d 0) (az.g 0)) au) (aF (cn fh.nd (az.l 2) (aZ (aZ (az.nm 0) au) (bI kv (aZ (az.nm 0) au) (dG d_ (ab (aZ (az.nm 0) au) ak) B.eC rfl dk (az.d 0) (az.g 0)))))) cJ)
  (aw (dZ (bI fe (aZ (az.nm 0) au) au) (az.nm 0) au)
  (aw (dt (gR (ip (bM tP (br _) (az.nm 2) (bI rh au au)) (iH (bM pY (br _) (aZ (az.nm 0) au) (dG d_ (ab (aZ (az.nm 0) au) ak) B.eC rfl dk (az.d 0) (az.g 0)))))) (aw (cn fh.nd (az.l 3) (bI fe (bI fe (bI kv (az.nm 2) au) (bI fK au (aZ (az.nm 0) au))) au))
  (aw (cn fh.nd (az.l 3) (bI kv (bI fK (az.nm 3) (bI fe au (bI fK au (aZ (az.nm 0) au)))) au))
  (aw (cn fh.nd (az.l 4) (bI kv (bI fe (bI fK (az.nm 3) (bI fe (bI kv (az.nm 3) au) (aZ (az.nm 0) au))) (bI fK au (aZ (az.nm 0) au))) au))
  (aF (bo (bI kv (bI x_ (az.nm 4) au) (az.nm 1))))))) cJ)
  (aF (dZ (az.nm 2) (az.nm 0) au)))))) cJ)
  (aw (cn fh.nd (az.l 5) (bI kv (aZ (az.nm 0) au) (az.nm 1)))
  (aw (dZ (bI x_ (aZ (az.nm 0) au) (az.nm 1)) (az.nm 0) au)
  (aF (bo (az.nm 5)))))))) uD
abbrev dq:Stmt:=top 16
theorem bC:VS (ag dq) iE ["_law_draw"]:=⟨by decide+kernel⟩
theorem lP:bf iE ["_law_hand_here","_law_kind"] (ag dq):=⟨rfl,rfl,rfl,by decide+kernel,rfl,by decide+kernel,by decide+kernel⟩
theorem qM{f:Addr}{fd:FuncData}(B:Bl mg)(Q:Kl K mg)(F:aG K mg "_law_number" "_law_number" dq ["_law_hand_here","_law_kind"] f fd){a_law_draw:Addr}{d_law_draw:FuncData}(D_law_draw:aG K mg "_law_draw" "_law_draw" c_ ["_law_hand_here","_law_many"] a_law_draw d_law_draw)(G_law_draw:ax P w K mg base aO 1 a_law_draw d_law_draw ["_law_hand_here","_law_many"] (aR bL)):
 ax P w K mg base aO 2 f fd ["_law_hand_here","_law_kind"] (aR fu):=
 cD (N:=iE) F.fn lP (fun cdv A outer s H E hr=>(aw (dt (bM (hZ hr) (br _) (bC.nm 1) au) (aw (cn lP.nd (bC.l 2) (bI fe (bI fK (bQ D_law_draw G_law_draw (hr.mono (by decide)) (ab (bC.nm 0) (ab (bI rh au au) ak)) (bC.d 0) (bC.g 0)) (bI rh au au)) (bQ D_law_draw G_law_draw (hr.mono (by decide)) (ab (bC.nm 0) (ab (bI rh au au) ak)) (bC.d 0) (bC.g 0))))
  (aF (bo (bI fK (bC.nm 2) (aZ (pv (ab au (ab (kq au) (ab au ak)))) (bQ D_law_draw G_law_draw (hr.mono (by decide)) (ab (bC.nm 0) (ab au ak)) (bC.d 0) (bC.g 0))))))) cJ)
  (aF (bo (aZ (pv (ab au (ab au (ab (kq au) (ab (bI pw (bQ D_law_draw G_law_draw (hr.mono (by decide)) (ab (bC.nm 0) (ab au ak)) (bC.d 0) (bC.g 0)) au) ak))))) (bQ D_law_draw G_law_draw (hr.mono (by decide)) (ab (bC.nm 0) (ab au ak)) (bC.d 0) (bC.g 0))))))) qP
abbrev de:Stmt:=top 17
theorem aD:VS (ag de) jK ["range","_law_draw","list","zip","tuple"]:=⟨by decide+kernel⟩
theorem dP:bf jK ["_law_hand_here","_law_many","_law_wide","_law_kind"] (ag de):=⟨rfl,rfl,rfl,by decide+kernel,rfl,by decide+kernel,by decide+kernel⟩
theorem uC{f:Addr}{fd:FuncData}(B:Bl mg)(Q:Kl K mg)(F:aG K mg "_law_rows" "_law_rows" de ["_law_hand_here","_law_many","_law_wide","_law_kind"] f fd){a_law_number:Addr}{d_law_number:FuncData}(D_law_number:aG K mg "_law_number" "_law_number" dq ["_law_hand_here","_law_kind"] a_law_number d_law_number)(G_law_number:ax P w K mg base aO 2 a_law_number d_law_number ["_law_hand_here","_law_kind"] (aR fu)){a_law_draw:Addr}{d_law_draw:FuncData}(D_law_draw:aG K mg "_law_draw" "_law_draw" c_ ["_law_hand_here","_law_many"] a_law_draw d_law_draw)(G_law_draw:ax P w K mg base aO 1 a_law_draw d_law_draw ["_law_hand_here","_law_many"] (aR bL)):
 ax P w K mg base aO 3 f fd ["_law_hand_here","_law_many","_law_wide","_law_kind"] (aR il):=
 cD (N:=jK) F.fn dP (fun cdv A outer s H E hr=>(aw (cn dP.nd (aD.l 4) (zP ak))
  (aw (jn (dX (aD.g 0) B.eK (ab (aD.nm 1) ak)) (dH dP.nd (by first|exact Or.inl rfl|exact Or.inr rfl) (by first|exact .inl rfl|exact .inr rfl)) (aw (iW dP.nd (aD.l 6) (Nc:=["_law_j","_law_hand_here","_law_kind"]) (bj.look (ag de) ["_law_hand_here","_law_many","_law_wide","_law_kind","_law_rows_here","_law_k","_law_row","_law_way"] (by decide+kernel)) (dX (aD.g 0) B.eK (ab (aD.nm 2) ak)) (fun _ _ _ _=>(dH (show(["_law_j","_law_hand_here","_law_kind"]:List Str).Nodup by decide+kernel) (by first|exact Or.inl rfl|exact Or.inr rfl) (by first|exact .inl rfl|exact .inr rfl))) (fun _ _ _ _=>cz) (fun _ _ _ _=>(bQ D_law_number G_law_number (hr.mono (by decide)) (ab cN (ab cN ak)) (by decide+kernel) rfl)) cp)
  (aw (cn dP.nd (aD.l 7) (bQ D_law_draw G_law_draw (hr.mono (by decide)) (ab (aD.nm 0) (ab au ak)) (aD.d 1) (aD.g 1)))
  (aw (dt (bM (hZ hr) (br _) (aD.nm 7) au) (aF (cn dP.nd (aD.l 6) (bI fK (pv (ab au ak)) (aD.nm 2)))) cJ)
  (aw (dt (gR (pB (bM (hZ hr) (br _) (aD.nm 7) au) (m4 (bM pY (br _) (aD.nm 5) au)))) (aF (cn dP.nd (aD.l 6) (fv mh (ab (aZ (aD.nm 4) (bI pw (aD.nm 5) au)) ak) B.kh rfl iL (aD.d 2) (aD.g 2)))) cJ)
  (aw (dt (gR (pB (bM (hZ hr) (br _) (aD.nm 7) au) (m4 (bM pY (br _) (aD.nm 5) au)))) (aF (iW dP.nd (aD.l 6) (Nc:=["_law_one","_law_other"]) (bj.look (ag de) ["_law_hand_here","_law_many","_law_wide","_law_kind","_law_rows_here","_law_k","_law_row","_law_way"] (by decide+kernel)) (rL (aD.g 3) B.rm (ab (aZ (aD.nm 4) (bI pw (aD.nm 5) au)) (ab (aZ (aD.nm 4) (bI pw (aD.nm 5) au)) ak))) (fun _ _ _ _=>(o4 rfl (show(["_law_one","_law_other"]:List Str).Nodup by decide+kernel) (by first|exact Or.inl rfl|exact Or.inr rfl) (by first|exact .inl rfl|exact .inr rfl) (by first|exact Or.inl rfl|exact Or.inr rfl) (by first|exact .inl rfl|exact .inr rfl))) (fun _ _ _ _=>cz) (fun _ _ _ _=>(bI fe cN cN)) qb)) cJ)
  (aw (dt (gR (pB (bM (hZ hr) (br _) (aD.nm 3) au) (m4 (bM tP (br _) (aD.nm 7) au)))) (aF (iW dP.nd (aD.l 6) (Nc:=["_law_number_here"]) (bj.look (ag de) ["_law_hand_here","_law_many","_law_wide","_law_kind","_law_rows_here","_law_k","_law_row","_law_way"] (by decide+kernel)) (gc (aD.nm 6)) (fun _ _ _ _=>(dH (show(["_law_number_here"]:List Str).Nodup by decide+kernel) (by first|exact Or.inl rfl|exact Or.inr rfl) (by first|exact .inl rfl|exact .inr rfl))) (fun _ _ _ _=>cz) (fun _ _ _ _=>(bI kv cN au)) cp)) cJ)
  (aF (iV (x3 (aD.nm 4) (fv eY (ab (aD.nm 6) ak) B.dD rfl df (aD.d 4) (aD.g 4))))))))))))
  (aF (bo (fv eY (ab (aD.nm 4) ak) B.dD rfl df (aD.d 4) (aD.g 4))))))) uo
abbrev dM:Stmt:=top 18
theorem b_:VS (ag dM) i6 ["_law_draw"]:=⟨by decide+kernel⟩
theorem r_:bf i6 ["_law_hand_here"] (ag dM):=⟨rfl,rfl,rfl,by decide+kernel,rfl,by decide+kernel,by decide+kernel⟩
theorem rN{f:Addr}{fd:FuncData}(B:Bl mg)(Q:Kl K mg)(F:aG K mg "_law_sizes" "_law_sizes" dM ["_law_hand_here"] f fd){a_law_draw:Addr}{d_law_draw:FuncData}(D_law_draw:aG K mg "_law_draw" "_law_draw" c_ ["_law_hand_here","_law_many"] a_law_draw d_law_draw)(G_law_draw:ax P w K mg base aO 1 a_law_draw d_law_draw ["_law_hand_here","_law_many"] (aR bL)):
 ax P w K mg base aO 2 f fd ["_law_hand_here"] (aR g4):=
 cD (N:=i6) F.fn r_ (fun cdv A outer s H E hr=>(aw (dt (bM (hZ hr) (br _) (bQ D_law_draw G_law_draw (hr.mono (by decide)) (ab (b_.nm 0) (ab au ak)) (b_.d 0) (b_.g 0)) au) (aF (bo (oP (ab (bI fe au (bQ D_law_draw G_law_draw (hr.mono (by decide)) (ab (b_.nm 0) (ab au ak)) (b_.d 0) (b_.g 0))) (ab (bI fe au (bQ D_law_draw G_law_draw (hr.mono (by decide)) (ab (b_.nm 0) (ab au ak)) (b_.d 0) (b_.g 0))) ak))))) cJ)
  (aF (bo (oP (ab (bI fe au (bQ D_law_draw G_law_draw (hr.mono (by decide)) (ab (b_.nm 0) (ab au ak)) (b_.d 0) (b_.g 0))) (ab (bI fe au (bQ D_law_draw G_law_draw (hr.mono (by decide)) (ab (b_.nm 0) (ab au ak)) (b_.d 0) (b_.g 0))) ak))))))) sr
abbrev cE:Stmt:=top 19
theorem bP:VS (ag cE) gb ["_law_sizes","_law_draw","_law_rows"]:=⟨by decide+kernel⟩
theorem jS:bf gb ["_law_hand_here","_law_kinds"] (ag cE):=⟨rfl,rfl,rfl,by decide+kernel,rfl,by decide+kernel,by decide+kernel⟩
theorem oj{f:Addr}{fd:FuncData}(B:Bl mg)(Q:Kl K mg)(F:aG K mg "_law_some_rows" "_law_some_rows" cE ["_law_hand_here","_law_kinds"] f fd){a_law_sizes:Addr}{d_law_sizes:FuncData}(D_law_sizes:aG K mg "_law_sizes" "_law_sizes" dM ["_law_hand_here"] a_law_sizes d_law_sizes)(G_law_sizes:ax P w K mg base aO 2 a_law_sizes d_law_sizes ["_law_hand_here"] (aR g4)){a_law_draw:Addr}{d_law_draw:FuncData}(D_law_draw:aG K mg "_law_draw" "_law_draw" c_ ["_law_hand_here","_law_many"] a_law_draw d_law_draw)(G_law_draw:ax P w K mg base aO 1 a_law_draw d_law_draw ["_law_hand_here","_law_many"] (aR bL)){a_law_rows:Addr}{d_law_rows:FuncData}(D_law_rows:aG K mg "_law_rows" "_law_rows" de ["_law_hand_here","_law_many","_law_wide","_law_kind"] a_law_rows d_law_rows)(G_law_rows:ax P w K mg base aO 3 a_law_rows d_law_rows ["_law_hand_here","_law_many","_law_wide","_law_kind"] (aR il)):
 ax P w K mg base aO 4 f fd ["_law_hand_here","_law_kinds"] (aR ff):=
 cD (N:=gb) F.fn jS (fun cdv A outer s H E hr=>(aw (xO (bQ D_law_sizes G_law_sizes (hr.mono (by decide)) (ab (bP.nm 0) ak) (bP.d 0) (bP.g 0)) (o4 rfl jS.nd (by first|exact Or.inl rfl|exact Or.inr rfl) (by first|exact .inl rfl|exact .inr rfl) (by first|exact Or.inl rfl|exact Or.inr rfl) (by first|exact .inl rfl|exact .inr rfl)))
  (aF (bo (bQ D_law_rows G_law_rows (hr.mono (by decide)) (ab (bP.nm 0) (ab (bP.nm 2) (ab (bP.nm 3) (ab (bQ D_law_draw G_law_draw (hr.mono (by decide)) (ab (bP.nm 0) (ab (bP.nm 1) ak)) (bP.d 1) (bP.g 1)) ak)))) (bP.d 2) (bP.g 2)))))) nS
abbrev fi:Stmt:=top 20
theorem dY:VS (ag fi) kZ ["zip","tuple"]:=⟨by decide+kernel⟩
theorem ko:bf kZ ["_law_weights","_law_rows_here","_law_wide"] (ag fi):=⟨rfl,rfl,rfl,by decide+kernel,rfl,by decide+kernel,by decide+kernel⟩
theorem xN{f:Addr}{fd:FuncData}(B:Bl mg)(Q:Kl K mg)(F:aG K mg "_law_by" "_law_by" fi ["_law_weights","_law_rows_here","_law_wide"] f fd):
 ax P w K mg base aO 1 f fd ["_law_weights","_law_rows_here","_law_wide"] (aR kc):=
 cD (N:=kZ) F.fn ko (fun cdv A outer s H E hr=>(aw (cn ko.nd (dY.l 3) (bI fK (pv (ab au ak)) (dY.nm 2)))
  (aw (jn (rL (dY.g 0) B.rm (ab (dY.nm 0) (ab (dY.nm 1) ak))) (o4 rfl ko.nd (by first|exact Or.inl rfl|exact Or.inr rfl) (by first|exact .inl rfl|exact .inr rfl) (by first|exact Or.inl rfl|exact Or.inr rfl) (by first|exact .inl rfl|exact .inr rfl)) (aF (iW ko.nd (dY.l 3) (Nc:=["_law_left","_law_number_here","_law_weight"]) (bj.look (ag fi) ["_law_weights","_law_rows_here","_law_wide","_law_row","_law_weight","_law_one"] (by decide+kernel)) (rL (dY.g 0) B.rm (ab (dY.nm 3) (ab (dY.nm 5) ak))) (fun _ _ _ _=>(o4 rfl (show(["_law_left","_law_number_here","_law_weight"]:List Str).Nodup by decide+kernel) (by first|exact Or.inl rfl|exact Or.inr rfl) (by first|exact .inl rfl|exact .inr rfl) (by first|exact Or.inl rfl|exact Or.inr rfl) (by first|exact .inl rfl|exact .inr rfl))) (fun _ _ _ _=>cz) (fun _ _ _ _=>(bI fe cN (bI fK cN cN))) qb)))
  (aF (bo (fv eY (ab (dY.nm 3) ak) B.dD rfl df (dY.d 1) (dY.g 1))))))) xB
abbrev cK:Stmt:=top 21
theorem ju:VS (ag cK) g6 ["tuple"]:=⟨by decide+kernel⟩
theorem pK:bf g6 ["_law_one","_law_other","_law_wide"] (ag cK):=⟨rfl,rfl,rfl,by decide+kernel,rfl,by decide+kernel,by decide+kernel⟩
theorem pQ{f:Addr}{fd:FuncData}(B:Bl mg)(Q:Kl K mg)(F:aG K mg "_law_product" "_law_product" cK ["_law_one","_law_other","_law_wide"] f fd){a_law_by:Addr}{d_law_by:FuncData}(D_law_by:aG K mg "_law_by" "_law_by" fi ["_law_weights","_law_rows_here","_law_wide"] a_law_by d_law_by)(G_law_by:ax P w K mg base aO 1 a_law_by d_law_by ["_law_weights","_law_rows_here","_law_wide"] (aR kc)):
 ax P w K mg base aO 2 f fd ["_law_one","_law_other","_law_wide"] (aR dW):=
 cD (N:=g6) F.fn pK (fun cdv A outer s H E hr=>(aF (bo (fv eY (ab (fA (Nc:=["_law_row","_law_other","_law_wide"]) (bj.look (ag cK) ["_law_one","_law_other","_law_wide"] (by decide+kernel)) (gc (ju.nm 0)) (fun _ _ _ _=>(dH (show(["_law_row","_law_other","_law_wide"]:List Str).Nodup by decide+kernel) (by first|exact Or.inl rfl|exact Or.inr rfl) (by first|exact .inl rfl|exact .inr rfl))) (fun _ _ _ _=>cz) (fun _ _ _ _=>(bQ D_law_by G_law_by (hr.mono (by decide)) (ab cN (ab cN (ab cN ak))) (by decide+kernel) rfl)) cp) ak) B.dD rfl df (ju.d 0) (ju.g 0))))) pV
abbrev dj:Stmt:=top 22
theorem i3:VS (ag dj) iY ["range","tuple"]:=⟨by decide+kernel⟩
theorem rP:bf iY ["_law_n"] (ag dj):=⟨rfl,rfl,rfl,by decide+kernel,rfl,by decide+kernel,by decide+kernel⟩
theorem s_{f:Addr}{fd:FuncData}(B:Bl mg)(Q:Kl K mg)(F:aG K mg "_law_units" "_law_units" dj ["_law_n"] f fd):
 ax P w K mg base aO 1 f fd ["_law_n"] (aR g5):=
 cD (N:=iY) F.fn rP (fun cdv A outer s H E hr=>(aF (bo (fv eY (ab (fA (Nc:=["_law_k","_law_n"]) (bj.look (ag dj) ["_law_n"] (by decide+kernel)) (dX (i3.g 0) B.eK (ab (i3.nm 0) ak)) (fun _ _ _ _=>(dH (show(["_law_k","_law_n"]:List Str).Nodup by decide+kernel) (by first|exact Or.inl rfl|exact Or.inr rfl) (by first|exact .inl rfl|exact .inr rfl))) (fun _ _ _ _=>cz) (fun _ _ _ _=>(fv eY (ab (fA (Nc:=["_law_j","_law_k"]) (bj.ER (by decide+kernel)) (dX rfl B.eK (ab cN ak)) (fun _ _ _ _=>(dH (show(["_law_j","_law_k"]:List Str).Nodup by decide+kernel) (by first|exact Or.inl rfl|exact Or.inr rfl) (by first|exact .inl rfl|exact .inr rfl))) (fun _ _ _ _=>cz) (fun _ _ _ _=>(fv FD (ab (o9 (hZ hr) (br _) cN cN) ak) B.zG rfl xH (by decide+kernel) rfl)) cp) ak) B.dD rfl df (by decide+kernel) rfl)) cp) ak) B.dD rfl df (i3.d 1) (i3.g 1))))) tZ
abbrev cx:Stmt:=top 23
theorem aM:VS (ag cx) gJ ["tuple","isinstance","len","all"]:=⟨by decide+kernel⟩
theorem kr:bf gJ ["_law_found","_law_many","_law_wide"] (ag cx):=⟨rfl,rfl,rfl,by decide+kernel,rfl,by decide+kernel,by decide+kernel⟩
theorem o5{f:Addr}{fd:FuncData}(B:Bl mg)(Q:Kl K mg)(F:aG K mg "_law_are_rows" "_law_are_rows" cx ["_law_found","_law_many","_law_wide"] f fd):
 ax P w K mg base aO 1 f fd ["_law_found","_law_many","_law_wide"] (aR dF):=
 cD (N:=gJ) F.fn kr (fun cdv A outer s H E hr=>(aw (dt (gR (ip (iw (gY (dG oX (ab (aM.nm 0) (ab (tO B.dD rfl df (aM.d 0) (aM.g 0)) ak)) B.gg rfl fQ (aM.d 1) (aM.g 1)))) (iH (gR (pB (bM Ce (br _) (aM.nm 1) Ah) (m4 (bM sO (br _) (dG d_ (ab (aM.nm 0) ak) B.eC rfl dk (aM.d 2) (aM.g 2)) (aM.nm 1)))))))) (aF (bo hW)) cJ)
  (aw (jn (gc (aM.nm 0)) (dH kr.nd (by first|exact Or.inl rfl|exact Or.inr rfl) (by first|exact .inl rfl|exact .inr rfl)) (aw (dt (gR (ip (iw (gY (dG oX (ab (aM.nm 3) (ab (tO B.dD rfl df (aM.d 0) (aM.g 0)) ak)) B.gg rfl fQ (aM.d 1) (aM.g 1)))) (iH (bM sO (br _) (dG d_ (ab (aM.nm 3) ak) B.eC rfl dk (aM.d 2) (aM.g 2)) (aM.nm 2))))) (aF (bo hW)) cJ)
  (aF (dt (iw (gY (dG (EA rfl) (ab (fA (Nc:=["_law_one"]) (bj.look (ag cx) ["_law_found","_law_many","_law_wide","_law_row"] (by decide+kernel)) (gc (aM.nm 3)) (fun _ _ _ _=>(dH (show(["_law_one"]:List Str).Nodup by decide+kernel) (by first|exact Or.inl rfl|exact Or.inr rfl) (by first|exact .inl rfl|exact .inr rfl))) (fun _ _ _ _=>cz) (fun _ _ _ _=>(we (dG oX (ab cN (ab (tO B.zG rfl xH (by decide+kernel) rfl) ak)) B.gg rfl fQ (by decide+kernel) rfl) (vZ (Eu (dG oX (ab cN (ab (tO B.Ea rfl A9 (by decide+kernel) rfl) ak)) B.gg rfl fQ (by decide+kernel) rfl))))) cp) ak) B.FA rfl CJ (aM.d 3) (aM.g 3)))) (aF (bo hW)) cJ))))
  (aF (bo hW))))) oz
abbrev cY:Stmt:=top 24
theorem aI:VS (ag cY) iq ["len","range"]:=⟨by decide+kernel⟩
theorem e6:bf iq ["_law_rows_here"] (ag cY):=⟨rfl,rfl,rfl,by decide+kernel,rfl,by decide+kernel,by decide+kernel⟩
theorem qR{f:Addr}{fd:FuncData}(B:Bl mg)(Q:Kl K mg)(F:aG K mg "_law_stands" "_law_stands" cY ["_law_rows_here"] f fd):
 ax P w K mg base aO 1 f fd ["_law_rows_here"] (aR gm):=
 cD (N:=iq) F.fn e6 (fun cdv A outer s H E hr=>(aw (cn e6.nd (aI.l 1) (kq au))
  (aw (jn (dX (aI.g 1) B.eK (ab (dG d_ (ab (aI.nm 0) ak) B.eC rfl dk (aI.d 0) (aI.g 0)) ak)) (dH e6.nd (by first|exact Or.inl rfl|exact Or.inr rfl) (by first|exact .inl rfl|exact .inr rfl)) (aw (iW e6.nd (aI.l 3) (Nc:=["_law_j","_law_rows_here","_law_k"]) (bj.look (ag cY) ["_law_rows_here","_law_last","_law_k","_law_places","_law_j"] (by decide+kernel)) (dX (aI.g 1) B.eK (ab (dG d_ (ab (aZ (aI.nm 0) (aI.nm 2)) ak) B.eC rfl dk (aI.d 0) (aI.g 0)) ak)) (fun _ _ _ _=>(dH (show(["_law_j","_law_rows_here","_law_k"]:List Str).Nodup by decide+kernel) (by first|exact Or.inl rfl|exact Or.inr rfl) (by first|exact .inl rfl|exact .inr rfl))) (fun _ _ _ _=>(xU (bM sO (br _) (aZ (aZ cN cN) cN) au))) (fun _ _ _ _=>cN) cp)
  (aw (dt (gR (ip (bM (hZ hr) (br _) (aI.nm 3) (pv ak)) (ip (bM GU (br _) (aZ (aI.nm 3) au) (aI.nm 1)) (iH (bM tP (br _) (aZ (aZ (aI.nm 0) (aI.nm 2)) (aZ (aI.nm 3) au)) au))))) (aF (bo hW)) cJ)
  (aw (cn e6.nd (aI.l 1) (aZ (aI.nm 3) au))
  (aF (jn (dX (aI.g 1) B.eK (ab (aI.nm 2) ak)) (dH e6.nd (by first|exact Or.inl rfl|exact Or.inr rfl) (by first|exact .inl rfl|exact .inr rfl)) (aF (dt (gR (ip (bM tP (br _) (aZ (aZ (aI.nm 0) (aI.nm 4)) (aI.nm 1)) au) (iH (bM Gn (br _) (aZ (aZ (aI.nm 0) (aI.nm 4)) (aI.nm 1)) (aZ (aZ (aI.nm 0) (aI.nm 2)) (aI.nm 1)))))) (aF (bo hW)) cJ))))))))
  (aF (bo hW))))) qK
abbrev cZ:Stmt:=top 25
theorem aj:VS (ag cZ) i7 ["len","tuple","isinstance","_law_are_rows","_law_stands","_law_product","_law_units"]:=⟨by decide+kernel⟩
theorem iA:bf i7 ["_law_rows_here","_law_found"] (ag cZ):=⟨rfl,rfl,rfl,by decide+kernel,rfl,by decide+kernel,by decide+kernel⟩
theorem rQ{f:Addr}{fd:FuncData}(B:Bl mg)(Q:Kl K mg)(F:aG K mg "_law_right" "_law_right" cZ ["_law_rows_here","_law_found"] f fd){a_law_are_rows:Addr}{d_law_are_rows:FuncData}(D_law_are_rows:aG K mg "_law_are_rows" "_law_are_rows" cx ["_law_found","_law_many","_law_wide"] a_law_are_rows d_law_are_rows)(G_law_are_rows:ax P w K mg base aO 1 a_law_are_rows d_law_are_rows ["_law_found","_law_many","_law_wide"] (aR dF)){a_law_stands:Addr}{d_law_stands:FuncData}(D_law_stands:aG K mg "_law_stands" "_law_stands" cY ["_law_rows_here"] a_law_stands d_law_stands)(G_law_stands:ax P w K mg base aO 1 a_law_stands d_law_stands ["_law_rows_here"] (aR gm)){a_law_product:Addr}{d_law_product:FuncData}(D_law_product:aG K mg "_law_product" "_law_product" cK ["_law_one","_law_other","_law_wide"] a_law_product d_law_product)(G_law_product:ax P w K mg base aO 2 a_law_product d_law_product ["_law_one","_law_other","_law_wide"] (aR dW)){a_law_units:Addr}{d_law_units:FuncData}(D_law_units:aG K mg "_law_units" "_law_units" dj ["_law_n"] a_law_units d_law_units)(G_law_units:ax P w K mg base aO 1 a_law_units d_law_units ["_law_n"] (aR g5)):
 ax P w K mg base aO 3 f fd ["_law_rows_here","_law_found"] (aR g0):=
 cD (N:=i7) F.fn iA (fun cdv A outer s H E hr=>(aw (DX iA.nd (by decide) (show(ag cZ).names.lookup ("_law_many":Str)=some .local by decide+kernel) (show(ag cZ).names.lookup ("_law_wide":Str)=some .local by decide+kernel) (ab (dG d_ (ab (aj.nm 0) ak) B.eC rfl dk (aj.d 0) (aj.g 0)) (ab (dG d_ (ab (aZ (aj.nm 0) au) ak) B.eC rfl dk (aj.d 0) (aj.g 0)) ak)))
  (aw (dt (gR (ip (iw (gY (dG oX (ab (aj.nm 1) (ab (tO B.dD rfl df (aj.d 1) (aj.g 1)) ak)) B.gg rfl fQ (aj.d 2) (aj.g 2)))) (ip (bM sO (br _) (dG d_ (ab (aj.nm 1) ak) B.eC rfl dk (aj.d 0) (aj.g 0)) au) (iH (iw (gY (bQ D_law_are_rows G_law_are_rows (hr.mono (by decide)) (ab (aZ (aj.nm 1) au) (ab Ah (ab (aj.nm 3) ak))) (aj.d 3) (aj.g 3)))))))) (aF (bo hW)) cJ)
  (aw (xO (aj.nm 1) (Fw rfl iA.nd (by first|exact Or.inl rfl|exact Or.inr rfl) (by first|exact .inl rfl|exact .inr rfl) (by first|exact Or.inl rfl|exact Or.inr rfl) (by first|exact .inl rfl|exact .inr rfl) (by first|exact Or.inl rfl|exact Or.inr rfl) (by first|exact .inl rfl|exact .inr rfl)))
  (aw (dt (gR (ip (iw (gY (bQ D_law_stands G_law_stands (hr.mono (by decide)) (ab (aj.nm 4) ak) (aj.d 4) (aj.g 4)))) (iH (bM pY (br _) (dG d_ (ab (aj.nm 4) ak) B.eC rfl dk (aj.d 0) (aj.g 0)) (aj.nm 2))))) (aF (bo hW)) cJ)
  (aw (dt (gR (ip (iw (gY (bQ D_law_are_rows G_law_are_rows (hr.mono (by decide)) (ab (aj.nm 5) (ab (aj.nm 2) (ab (aj.nm 2) ak))) (aj.d 3) (aj.g 3)))) (iH (iw (gY (bQ D_law_are_rows G_law_are_rows (hr.mono (by decide)) (ab (aj.nm 6) (ab (aj.nm 2) (ab (aj.nm 2) ak))) (aj.d 3) (aj.g 3))))))) (aF (bo hW)) cJ)
  (aw (dt (bM (zQ hr) (br _) (bQ D_law_product G_law_product (hr.mono (by decide)) (ab (aj.nm 5) (ab (aj.nm 0) (ab (aj.nm 3) ak))) (aj.d 5) (aj.g 5)) (bI fe (aj.nm 4) (bI fK (oP (ab (bI fK (oP (ab au ak)) (aj.nm 3)) ak)) (bI pw (aj.nm 2) (dG d_ (ab (aj.nm 4) ak) B.eC rfl dk (aj.d 0) (aj.g 0)))))) (aF (bo hW)) cJ)
  (aw (cn iA.nd (aj.l 7) (bQ D_law_units G_law_units (hr.mono (by decide)) (ab (aj.nm 2) ak) (aj.d 6) (aj.g 6)))
  (aF (bo (we (o9 (hZ hr) (br _) (bQ D_law_product G_law_product (hr.mono (by decide)) (ab (aj.nm 5) (ab (aj.nm 6) (ab (aj.nm 2) ak))) (aj.d 5) (aj.g 5)) (aj.nm 7)) (vZ (o9 (hZ hr) (br _) (bQ D_law_product G_law_product (hr.mono (by decide)) (ab (aj.nm 6) (ab (aj.nm 5) (ab (aj.nm 2) ak))) (aj.d 5) (aj.g 5)) (aj.nm 7)))))))))))))) r8
abbrev gL:Stmt:=top 26
theorem cg:VS (ag gL) rf ["_law_hand","_law_some_rows","standing","_law_right"]:=⟨by decide+kernel⟩
theorem j9:bf rf ["_law_script"] (ag gL):=⟨rfl,rfl,rfl,by decide+kernel,rfl,by decide+kernel,by decide+kernel⟩
theorem DM{f:Addr}{fd:FuncData}(B:Bl mg)(Q:Kl K mg)(F:aG K mg "law" "law" gL ["_law_script"] f fd){a_law_hand:Addr}{d_law_hand:FuncData}(D_law_hand:aG K mg "_law_hand" "_law_hand" dN ["_law_script"] a_law_hand d_law_hand)(G_law_hand:ax P w K mg base aO 1 a_law_hand d_law_hand ["_law_script"] (aR iF)){a_law_some_rows:Addr}{d_law_some_rows:FuncData}(D_law_some_rows:aG K mg "_law_some_rows" "_law_some_rows" cE ["_law_hand_here","_law_kinds"] a_law_some_rows d_law_some_rows)(G_law_some_rows:ax P w K mg base aO 4 a_law_some_rows d_law_some_rows ["_law_hand_here","_law_kinds"] (aR ff)){a_standing:Addr}{d_standing:FuncData}(D_standing:aG K mg "standing" "standing" eD ["rows"] a_standing d_standing)(G_standing:ax P w K mg base aO 5 a_standing d_standing ["rows"] (aR fO)){a_law_right:Addr}{d_law_right:FuncData}(D_law_right:aG K mg "_law_right" "_law_right" cZ ["_law_rows_here","_law_found"] a_law_right d_law_right)(G_law_right:ax P w K mg base aO 3 a_law_right d_law_right ["_law_rows_here","_law_found"] (aR g0)):
 ax P w K mg base aO 6 f fd ["_law_script"] (aR wc):=
 cD (N:=rf) F.fn j9 (fun cdv A outer s H E hr=>(aw (cn j9.nd (cg.l 1) (bQ D_law_hand G_law_hand (hr.mono (by decide)) (ab (cg.nm 0) ak) (cg.d 0) (cg.g 0)))
  (aw (cn j9.nd (cg.l 2) (bQ D_law_some_rows G_law_some_rows (hr.mono (by decide)) (ab (cg.nm 1) (ab au ak)) (cg.d 1) (cg.g 1)))
  (aw (cn j9.nd (cg.l 3) (bQ D_standing G_standing (hr.mono (by decide)) (ab (cg.nm 2) ak) (cg.d 2) (cg.g 2)))
  (aw (dt (iw (gY (bQ D_law_right G_law_right (hr.mono (by decide)) (ab (cg.nm 2) (ab (cg.nm 3) ak)) (cg.d 3) (cg.g 3)))) (aF (bo hW)) cJ)
  (aw (iW j9.nd (cg.l 4) (Nc:=["_law_row"]) (bj.look (ag gL) ["_law_script","_law_hand_here","_law_rows_here","_law_found","_law_handed","_law_again","_law_row"] (by decide+kernel)) (gc (cg.nm 2)) (fun _ _ _ _=>(dH (show(["_law_row"]:List Str).Nodup by decide+kernel) (by first|exact Or.inl rfl|exact Or.inr rfl) (by first|exact .inl rfl|exact .inr rfl))) (fun _ _ _ _=>cz) (fun _ _ _ _=>(fv uU (ab cN ak) B.kh rfl iL (by decide+kernel) rfl)) cp)
  (aw (cn j9.nd (cg.l 5) (bQ D_standing G_standing (hr.mono (by decide)) (ab (cg.nm 4) ak) (cg.d 2) (cg.g 2)))
  (aw (dt (gR (ip (bM (E1 hr) (br _) (cg.nm 4) (fA (Nc:=["_law_row"]) (bj.look (ag gL) ["_law_script","_law_hand_here","_law_rows_here","_law_found","_law_handed","_law_again","_law_row"] (by decide+kernel)) (gc (cg.nm 2)) (fun _ _ _ _=>(dH (show(["_law_row"]:List Str).Nodup by decide+kernel) (by first|exact Or.inl rfl|exact Or.inr rfl) (by first|exact .inl rfl|exact .inr rfl))) (fun _ _ _ _=>cz) (fun _ _ _ _=>(fv mh (ab cN ak) B.kh rfl iL (by decide+kernel) rfl)) cp)) (iH (bM (zQ hr) (br _) (cg.nm 5) (cg.nm 3))))) (aF (bo hW)) cJ)
  (aw (jn (gc (cg.nm 4)) (dH j9.nd (by first|exact Or.inl rfl|exact Or.inr rfl) (by first|exact .inl rfl|exact .inr rfl)) (aF (iV (Bs (cg.nm 6)))))
  (aF (bo (we (o9 (hZ hr) (br _) (cg.nm 5) (cg.nm 3)) (vZ (o9 (hZ hr) (br _) (bQ D_standing G_standing (hr.mono (by decide)) (ab (cg.nm 2) ak) (cg.d 2) (cg.g 2)) (cg.nm 3))))))))))))))) Cm
end
theorem all_mk{l:PySem.W.OpenLaw}{w:World}{K:PySem.W.Frag}{h:Heap}{mg:Str→Option Value}{fa:Addr}(X:K.In h)(G:h.Ns mainGlobals mg)(hfa:mg "law"=some (.ref fa))
 {od0 an0:Option Addr} {sl0:Array (Option Value)} {oc0 kV0 dc0 pm0 cd0 ct0:Value} {f0:Addr}
 {od1 an1:Option Addr} {sl1:Array (Option Value)} {oc1 kV1 dc1 pm1 cd1 ct1:Value} {f1:Addr}
 {od2 an2:Option Addr} {sl2:Array (Option Value)} {oc2 kV2 dc2 pm2 cd2 ct2:Value} {f2:Addr}
 {od3 an3:Option Addr} {sl3:Array (Option Value)} {oc3 kV3 dc3 pm3 cd3 ct3:Value} {f3:Addr}
 {od4 an4:Option Addr} {sl4:Array (Option Value)} {oc4 kV4 dc4 pm4 cd4 ct4:Value} {f4:Addr}
 {od5 an5:Option Addr} {sl5:Array (Option Value)} {oc5 kV5 dc5 pm5 cd5 ct5:Value} {f5:Addr}
 {od6 an6:Option Addr} {sl6:Array (Option Value)} {oc6 kV6 dc6 pm6 cd6 ct6:Value} {f6:Addr}
 {od7 an7:Option Addr} {sl7:Array (Option Value)} {oc7 kV7 dc7 pm7 cd7 ct7:Value} {f7:Addr}
 {od8 an8:Option Addr} {sl8:Array (Option Value)} {oc8 kV8 dc8 pm8 cd8 ct8:Value} {f8:Addr}
 {od9 an9:Option Addr} {sl9:Array (Option Value)} {oc9 kV9 dc9 pm9 cd9 ct9:Value} {f9:Addr}
 {od10 an10:Option Addr} {sl10:Array (Option Value)} {oc10 kV10 dc10 pm10 cd10 ct10:Value} {f10:Addr}
 {od11 an11:Option Addr} {sl11:Array (Option Value)} {oc11 kV11 dc11 pm11 cd11 ct11:Value} {f11:Addr}
 {od12 an12:Option Addr} {sl12:Array (Option Value)} {oc12 kV12 dc12 pm12 cd12 ct12:Value} {f12:Addr}
 {od13 an13:Option Addr} {sl13:Array (Option Value)} {oc13 kV13 dc13 pm13 ct13:Value} {f13:Addr}
 {od14 an14:Option Addr} {sl14:Array (Option Value)} {oc14 kV14 dc14 pm14 cd14 ct14:Value} {f14:Addr}
 {od15 an15:Option Addr} {sl15:Array (Option Value)} {oc15 kV15 dc15 pm15 cd15 ct15:Value} {f15:Addr}
 {od16 an16:Option Addr} {sl16:Array (Option Value)} {oc16 kV16 dc16 pm16 cd16 ct16:Value} {f16:Addr}
 {od17 an17:Option Addr} {sl17:Array (Option Value)} {oc17 kV17 dc17 pm17 cd17 ct17:Value} {f17:Addr}
 {od18 an18:Option Addr} {sl18:Array (Option Value)} {oc18 kV18 dc18 pm18 cd18 ct18:Value} {f18:Addr}
 {od19 an19:Option Addr} {sl19:Array (Option Value)} {oc19 kV19 dc19 pm19 cd19 ct19:Value} {f19:Addr}
 {od20 an20:Option Addr} {sl20:Array (Option Value)} {oc20 kV20 dc20 pm20 cd20 ct20:Value} {f20:Addr}
 {od21 an21:Option Addr} {sl21:Array (Option Value)} {oc21 kV21 dc21 pm21 cd21 ct21:Value} {f21:Addr}
 {od22 an22:Option Addr} {sl22:Array (Option Value)} {oc22 kV22 dc22 pm22 cd22 ct22:Value} {f22:Addr}
 {od23 an23:Option Addr} {sl23:Array (Option Value)} {oc23 kV23 dc23 pm23 cd23 ct23:Value} {f23:Addr}
 {od24 an24:Option Addr} {sl24:Array (Option Value)} {oc24 kV24 dc24 pm24 cd24 ct24:Value} {f24:Addr}
 {od25 an25:Option Addr} {sl25:Array (Option Value)} {oc25 kV25 dc25 pm25 cd25 ct25:Value} {f25:Addr}
 {od26 an26:Option Addr} {sl26:Array (Option Value)} {oc26 kV26 dc26 pm26 cd26 ct26:Value} {f26:Addr}
 {od27 an27:Option Addr} {sl27:Array (Option Value)} {oc27 kV27 dc27 pm27 cd27 ct27:Value} {f27:Addr}
 {od28 an28:Option Addr} {sl28:Array (Option Value)} {oc28 kV28 dc28 pm28 cd28 ct28:Value} {f28:Addr}
 {od29 an29:Option Addr} {sl29:Array (Option Value)} {oc29 kV29 dc29 pm29 cd29 ct29:Value} {f29:Addr}
 (a0:PySem.W.nsIn K mainGlobals "as_rows"=some (some (.ref f0))) (l0:K.lookup f0=some ⟨oc0,od0,.func (PySem.W.fnOf "as_rows" "as_rows" (ba eG) (aW eG) (ag eG) .none kV0 dc0 pm0 an0 cd0 ct0),sl0⟩) (c0:PySem.W.codeIn K cd0 "as_rows"=true) (k0:PySem.W.keepIn K (.ref f0)=true)
 (a1:PySem.W.nsIn K mainGlobals "added"=some (some (.ref f1))) (l1:K.lookup f1=some ⟨oc1,od1,.func (PySem.W.fnOf "added" "added" (ba fU) (aW fU) (ag fU) .none kV1 dc1 pm1 an1 cd1 ct1),sl1⟩) (c1:PySem.W.codeIn K cd1 "added"=true) (k1:PySem.W.keepIn K (.ref f1)=true)
 (a2:PySem.W.nsIn K mainGlobals "column"=some (some (.ref f2))) (l2:K.lookup f2=some ⟨oc2,od2,.func (PySem.W.fnOf "column" "column" (ba fj) (aW fj) (ag fj) .none kV2 dc2 pm2 an2 cd2 ct2),sl2⟩) (c2:PySem.W.codeIn K cd2 "column"=true) (k2:PySem.W.keepIn K (.ref f2)=true)
 (a3:PySem.W.nsIn K mainGlobals "turned_over"=some (some (.ref f3))) (l3:K.lookup f3=some ⟨oc3,od3,.func (PySem.W.fnOf "turned_over" "turned_over" (ba cL) (aW cL) (ag cL) .none kV3 dc3 pm3 an3 cd3 ct3),sl3⟩) (c3:PySem.W.codeIn K cd3 "turned_over"=true) (k3:PySem.W.keepIn K (.ref f3)=true)
 (a4:PySem.W.nsIn K mainGlobals "unit_row"=some (some (.ref f4))) (l4:K.lookup f4=some ⟨oc4,od4,.func (PySem.W.fnOf "unit_row" "unit_row" (ba dQ) (aW dQ) (ag dQ) .none kV4 dc4 pm4 an4 cd4 ct4),sl4⟩) (c4:PySem.W.codeIn K cd4 "unit_row"=true) (k4:PySem.W.keepIn K (.ref f4)=true)
 (a5:PySem.W.nsIn K mainGlobals "unit_rows"=some (some (.ref f5))) (l5:K.lookup f5=some ⟨oc5,od5,.func (PySem.W.fnOf "unit_rows" "unit_rows" (ba di) (aW di) (ag di) .none kV5 dc5 pm5 an5 cd5 ct5),sl5⟩) (c5:PySem.W.codeIn K cd5 "unit_rows"=true) (k5:PySem.W.keepIn K (.ref f5)=true)
 (a6:PySem.W.nsIn K mainGlobals "nearest_quotient"=some (some (.ref f6))) (l6:K.lookup f6=some ⟨oc6,od6,.func (PySem.W.fnOf "nearest_quotient" "nearest_quotient" (ba bX) (aW bX) (ag bX) .none kV6 dc6 pm6 an6 cd6 ct6),sl6⟩) (c6:PySem.W.codeIn K cd6 "nearest_quotient"=true) (k6:PySem.W.keepIn K (.ref f6)=true)
 (a7:PySem.W.nsIn K mainGlobals "exchanged"=some (some (.ref f7))) (l7:K.lookup f7=some ⟨oc7,od7,.func (PySem.W.fnOf "exchanged" "exchanged" (ba dO) (aW dO) (ag dO) .none kV7 dc7 pm7 an7 cd7 ct7),sl7⟩) (c7:PySem.W.codeIn K cd7 "exchanged"=true) (k7:PySem.W.keepIn K (.ref f7)=true)
 (a8:PySem.W.nsIn K mainGlobals "negated"=some (some (.ref f8))) (l8:K.lookup f8=some ⟨oc8,od8,.func (PySem.W.fnOf "negated" "negated" (ba eH) (aW eH) (ag eH) .none kV8 dc8 pm8 an8 cd8 ct8),sl8⟩) (c8:PySem.W.codeIn K cd8 "negated"=true) (k8:PySem.W.keepIn K (.ref f8)=true)
 (a9:PySem.W.findIn K (.ref ai) "__init__"=some (some (.ref f9))) (i9:PySem.W.isFn K (.ref f9)=true) (l9:K.lookup f9=some ⟨oc9,od9,.func (PySem.W.fnOf "__init__" "Bench.__init__" (ba bK) (aW bK) (ag bK) .none kV9 dc9 pm9 an9 cd9 ct9),sl9⟩) (c9:PySem.W.codeIn K cd9 "Bench.__init__"=true) (k9:PySem.W.keepIn K (.ref f9)=true)
 (a10:PySem.W.findIn K (.ref ai) "take"=some (some (.ref f10))) (i10:PySem.W.isFn K (.ref f10)=true) (l10:K.lookup f10=some ⟨oc10,od10,.func (PySem.W.fnOf "take" "Bench.take" (ba cW) (aW cW) (ag cW) .none kV10 dc10 pm10 an10 cd10 ct10),sl10⟩) (c10:PySem.W.codeIn K cd10 "Bench.take"=true) (k10:PySem.W.keepIn K (.ref f10)=true)
 (a11:PySem.W.findIn K (.ref ai) "exchange"=some (some (.ref f11))) (i11:PySem.W.isFn K (.ref f11)=true) (l11:K.lookup f11=some ⟨oc11,od11,.func (PySem.W.fnOf "exchange" "Bench.exchange" (ba cu) (aW cu) (ag cu) .none kV11 dc11 pm11 an11 cd11 ct11),sl11⟩) (c11:PySem.W.codeIn K cd11 "Bench.exchange"=true) (k11:PySem.W.keepIn K (.ref f11)=true)
 (a12:PySem.W.findIn K (.ref ai) "change_sign"=some (some (.ref f12))) (i12:PySem.W.isFn K (.ref f12)=true) (l12:K.lookup f12=some ⟨oc12,od12,.func (PySem.W.fnOf "change_sign" "Bench.change_sign" (ba bR) (aW bR) (ag bR) .none kV12 dc12 pm12 an12 cd12 ct12),sl12⟩) (c12:PySem.W.codeIn K cd12 "Bench.change_sign"=true) (k12:PySem.W.keepIn K (.ref f12)=true)
 (a13:PySem.W.findIn K (.ref ai) "live_rows"=some (some (.ref f13))) (i13:PySem.W.isFn K (.ref f13)=true) (l13:K.lookup f13=some ⟨oc13,od13,.func (PySem.W.fnOf "live_rows" "Bench.live_rows" (ba bE) (aW bE) (ag bE) .none kV13 dc13 pm13 an13 (.ref 100) ct13),sl13⟩) (c13:PySem.W.codeIn K (.ref 100) "Bench.live_rows"=true) (k13:PySem.W.keepIn K (.ref f13)=true)
 (hC13:PySem.W.codeHdIn K 100 98=true)
 (a14:PySem.W.findIn K (.ref ai) "gather"=some (some (.ref f14))) (i14:PySem.W.isFn K (.ref f14)=true) (l14:K.lookup f14=some ⟨oc14,od14,.func (PySem.W.fnOf "gather" "Bench.gather" (ba cP) (aW cP) (ag cP) .none kV14 dc14 pm14 an14 cd14 ct14),sl14⟩) (c14:PySem.W.codeIn K cd14 "Bench.gather"=true) (k14:PySem.W.keepIn K (.ref f14)=true)
 (a15:PySem.W.findIn K (.ref ai) "lower_above"=some (some (.ref f15))) (i15:PySem.W.isFn K (.ref f15)=true) (l15:K.lookup f15=some ⟨oc15,od15,.func (PySem.W.fnOf "lower_above" "Bench.lower_above" (ba bS) (aW bS) (ag bS) .none kV15 dc15 pm15 an15 cd15 ct15),sl15⟩) (c15:PySem.W.codeIn K cd15 "Bench.lower_above"=true) (k15:PySem.W.keepIn K (.ref f15)=true)
 (a16:PySem.W.nsIn K mainGlobals "standing"=some (some (.ref f16))) (l16:K.lookup f16=some ⟨oc16,od16,.func (PySem.W.fnOf "standing" "standing" (ba eD) (aW eD) (ag eD) .none kV16 dc16 pm16 an16 cd16 ct16),sl16⟩) (c16:PySem.W.codeIn K cd16 "standing"=true) (k16:PySem.W.keepIn K (.ref f16)=true)
 (a17:PySem.W.nsIn K mainGlobals "_law_hand"=some (some (.ref f17))) (l17:K.lookup f17=some ⟨oc17,od17,.func (PySem.W.fnOf "_law_hand" "_law_hand" (ba dN) (aW dN) (ag dN) .none kV17 dc17 pm17 an17 cd17 ct17),sl17⟩) (c17:PySem.W.codeIn K cd17 "_law_hand"=true) (k17:PySem.W.keepIn K (.ref f17)=true)
 (a18:PySem.W.nsIn K mainGlobals "_law_draw"=some (some (.ref f18))) (l18:K.lookup f18=some ⟨oc18,od18,.func (PySem.W.fnOf "_law_draw" "_law_draw" (ba c_) (aW c_) (ag c_) .none kV18 dc18 pm18 an18 cd18 ct18),sl18⟩) (c18:PySem.W.codeIn K cd18 "_law_draw"=true) (k18:PySem.W.keepIn K (.ref f18)=true)
 (a19:PySem.W.nsIn K mainGlobals "_law_number"=some (some (.ref f19))) (l19:K.lookup f19=some ⟨oc19,od19,.func (PySem.W.fnOf "_law_number" "_law_number" (ba dq) (aW dq) (ag dq) .none kV19 dc19 pm19 an19 cd19 ct19),sl19⟩) (c19:PySem.W.codeIn K cd19 "_law_number"=true) (k19:PySem.W.keepIn K (.ref f19)=true)
 (a20:PySem.W.nsIn K mainGlobals "_law_rows"=some (some (.ref f20))) (l20:K.lookup f20=some ⟨oc20,od20,.func (PySem.W.fnOf "_law_rows" "_law_rows" (ba de) (aW de) (ag de) .none kV20 dc20 pm20 an20 cd20 ct20),sl20⟩) (c20:PySem.W.codeIn K cd20 "_law_rows"=true) (k20:PySem.W.keepIn K (.ref f20)=true)
 (a21:PySem.W.nsIn K mainGlobals "_law_sizes"=some (some (.ref f21))) (l21:K.lookup f21=some ⟨oc21,od21,.func (PySem.W.fnOf "_law_sizes" "_law_sizes" (ba dM) (aW dM) (ag dM) .none kV21 dc21 pm21 an21 cd21 ct21),sl21⟩) (c21:PySem.W.codeIn K cd21 "_law_sizes"=true) (k21:PySem.W.keepIn K (.ref f21)=true)
 (a22:PySem.W.nsIn K mainGlobals "_law_some_rows"=some (some (.ref f22))) (l22:K.lookup f22=some ⟨oc22,od22,.func (PySem.W.fnOf "_law_some_rows" "_law_some_rows" (ba cE) (aW cE) (ag cE) .none kV22 dc22 pm22 an22 cd22 ct22),sl22⟩) (c22:PySem.W.codeIn K cd22 "_law_some_rows"=true) (k22:PySem.W.keepIn K (.ref f22)=true)
 (a23:PySem.W.nsIn K mainGlobals "_law_by"=some (some (.ref f23))) (l23:K.lookup f23=some ⟨oc23,od23,.func (PySem.W.fnOf "_law_by" "_law_by" (ba fi) (aW fi) (ag fi) .none kV23 dc23 pm23 an23 cd23 ct23),sl23⟩) (c23:PySem.W.codeIn K cd23 "_law_by"=true) (k23:PySem.W.keepIn K (.ref f23)=true)
 (a24:PySem.W.nsIn K mainGlobals "_law_product"=some (some (.ref f24))) (l24:K.lookup f24=some ⟨oc24,od24,.func (PySem.W.fnOf "_law_product" "_law_product" (ba cK) (aW cK) (ag cK) .none kV24 dc24 pm24 an24 cd24 ct24),sl24⟩) (c24:PySem.W.codeIn K cd24 "_law_product"=true) (k24:PySem.W.keepIn K (.ref f24)=true)
 (a25:PySem.W.nsIn K mainGlobals "_law_units"=some (some (.ref f25))) (l25:K.lookup f25=some ⟨oc25,od25,.func (PySem.W.fnOf "_law_units" "_law_units" (ba dj) (aW dj) (ag dj) .none kV25 dc25 pm25 an25 cd25 ct25),sl25⟩) (c25:PySem.W.codeIn K cd25 "_law_units"=true) (k25:PySem.W.keepIn K (.ref f25)=true)
 (a26:PySem.W.nsIn K mainGlobals "_law_are_rows"=some (some (.ref f26))) (l26:K.lookup f26=some ⟨oc26,od26,.func (PySem.W.fnOf "_law_are_rows" "_law_are_rows" (ba cx) (aW cx) (ag cx) .none kV26 dc26 pm26 an26 cd26 ct26),sl26⟩) (c26:PySem.W.codeIn K cd26 "_law_are_rows"=true) (k26:PySem.W.keepIn K (.ref f26)=true)
 (a27:PySem.W.nsIn K mainGlobals "_law_stands"=some (some (.ref f27))) (l27:K.lookup f27=some ⟨oc27,od27,.func (PySem.W.fnOf "_law_stands" "_law_stands" (ba cY) (aW cY) (ag cY) .none kV27 dc27 pm27 an27 cd27 ct27),sl27⟩) (c27:PySem.W.codeIn K cd27 "_law_stands"=true) (k27:PySem.W.keepIn K (.ref f27)=true)
 (a28:PySem.W.nsIn K mainGlobals "_law_right"=some (some (.ref f28))) (l28:K.lookup f28=some ⟨oc28,od28,.func (PySem.W.fnOf "_law_right" "_law_right" (ba cZ) (aW cZ) (ag cZ) .none kV28 dc28 pm28 an28 cd28 ct28),sl28⟩) (c28:PySem.W.codeIn K cd28 "_law_right"=true) (k28:PySem.W.keepIn K (.ref f28)=true)
 (a29:PySem.W.nsIn K mainGlobals "law"=some (some (.ref f29))) (l29:K.lookup f29=some ⟨oc29,od29,.func (PySem.W.fnOf "law" "law" (ba gL) (aW gL) (ag gL) .none kV29 dc29 pm29 an29 cd29 ct29),sl29⟩) (c29:PySem.W.codeIn K cd29 "law"=true) (k29:PySem.W.keepIn K (.ref f29)=true)
 (z_tuple:PySem.W.nsIn K mainGlobals "tuple"=some none)
 (z_zip:PySem.W.nsIn K mainGlobals "zip"=some none)
 (z_range:PySem.W.nsIn K mainGlobals "range"=some none)
 (z_list:PySem.W.nsIn K mainGlobals "list"=some none)
 (z_len:PySem.W.nsIn K mainGlobals "len"=some none)
 (z_abs:PySem.W.nsIn K mainGlobals "abs"=some none)
 (z_sorted:PySem.W.nsIn K mainGlobals "sorted"=some none)
 (z_int:PySem.W.nsIn K mainGlobals "int"=some none)
 (z_isinstance:PySem.W.nsIn K mainGlobals "isinstance"=some none)
 (z_bool:PySem.W.nsIn K mainGlobals "bool"=some none)
 (z_all:PySem.W.nsIn K mainGlobals "all"=some none)
 (ca_Bench:PySem.W.nsIn K mainGlobals "Bench"=some (some (.ref ai))) (cb_Bench:PySem.W.plainGet K ai Str.empty=true) (cc_Bench:PySem.W.hasDictIn K ai=true) (cd_Bench:PySem.W.plainOver K ai=true) (ce_Bench:PySem.W.findIn K (.ref ai) "__setattr__"=some (some (.builtin "object.__setattr__"))) (cf_Bench:PySem.W.makesIn K ai=true) (cg_Bench:PySem.W.keepIn K (.ref ai)=true)
 (bh:PySem.W.findIn K (.ref ai) "body"=some none)
 (cw:PySem.W.findIn K (.ref ai) "turn"=some none)
 (bc:PySem.W.findIn K (.ref ai) "back_columns"=some none)
 (nl:tN K=true):
 ∃fd:FuncData,(∀(s:Shared) (v:Value),BindsTo s fd ⟨[v],[]⟩ [("_law_script",v)])∧∀base:Heap,K.In base→base.Ns mainGlobals mg→ax l.prog w K mg base aO 6 fa fd ["_law_script"] (oH K [(100,98)]):=by
 have e:=hfa.symm.trans (PySem.W.mg_of X G a29)
 cases e
 have B:Bl mg:=⟨PySem.W.mg_none_of X G z_tuple,PySem.W.mg_none_of X G z_zip,PySem.W.mg_none_of X G z_range,PySem.W.mg_none_of X G z_list,PySem.W.mg_none_of X G z_len,PySem.W.mg_none_of X G z_abs,PySem.W.mg_none_of X G z_sorted,PySem.W.mg_none_of X G z_int,PySem.W.mg_none_of X G z_isinstance,PySem.W.mg_none_of X G z_bool,PySem.W.mg_none_of X G z_all⟩
 have Q:Kl K mg:=⟨⟨⟨cb_Bench,cc_Bench,cd_Bench,ce_Bench⟩,PySem.W.mg_of X G ca_Bench,cf_Bench,cg_Bench⟩,bh,cw,bc⟩
 have F0:=bU (st:=eG) l0 c0 k0
 have D0:aG K mg "as_rows" "as_rows" eG ["rows"] f0 _:=⟨F0,PySem.W.mg_of X G a0,oy F0 fun _ _ _ _ _ _ _=>rfl⟩
 have F1:=bU (st:=fU) l1 c1 k1
 have D1:aG K mg "added" "added" fU ["row","times","other"] f1 _:=⟨F1,PySem.W.mg_of X G a1,oS F1 fun _ _ _ _ _ _ _ _ _=>rfl⟩
 have F2:=bU (st:=fj) l2 c2 k2
 have D2:aG K mg "column" "column" fj ["rows","place"] f2 _:=⟨F2,PySem.W.mg_of X G a2,nv F2 fun _ _ _ _ _ _ _ _=>rfl⟩
 have F3:=bU (st:=cL) l3 c3 k3
 have D3:aG K mg "turned_over" "turned_over" cL ["rows","wide"] f3 _:=⟨F3,PySem.W.mg_of X G a3,nv F3 fun _ _ _ _ _ _ _ _=>rfl⟩
 have F4:=bU (st:=dQ) l4 c4 k4
 have D4:aG K mg "unit_row" "unit_row" dQ ["n","place"] f4 _:=⟨F4,PySem.W.mg_of X G a4,nv F4 fun _ _ _ _ _ _ _ _=>rfl⟩
 have F5:=bU (st:=di) l5 c5 k5
 have D5:aG K mg "unit_rows" "unit_rows" di ["n"] f5 _:=⟨F5,PySem.W.mg_of X G a5,oy F5 fun _ _ _ _ _ _ _=>rfl⟩
 have F6:=bU (st:=bX) l6 c6 k6
 have D6:aG K mg "nearest_quotient" "nearest_quotient" bX ["top","bottom"] f6 _:=⟨F6,PySem.W.mg_of X G a6,nv F6 fun _ _ _ _ _ _ _ _=>rfl⟩
 have F7:=bU (st:=dO) l7 c7 k7
 have D7:aG K mg "exchanged" "exchanged" dO ["rows","k","other"] f7 _:=⟨F7,PySem.W.mg_of X G a7,oS F7 fun _ _ _ _ _ _ _ _ _=>rfl⟩
 have F8:=bU (st:=eH) l8 c8 k8
 have D8:aG K mg "negated" "negated" eH ["row"] f8 _:=⟨F8,PySem.W.mg_of X G a8,oy F8 fun _ _ _ _ _ _ _=>rfl⟩
 have F9:=bU (st:=bK) l9 c9 k9
 have D9:MethAt K ai "__init__" "Bench.__init__" bK ["self","rows"] f9 _:=⟨F9,⟨a9,i9,k9⟩,nv F9 fun _ _ _ _ _ _ _ _=>rfl⟩
 have F10:=bU (st:=cW) l10 c10 k10
 have D10:MethAt K ai "take" "Bench.take" cW ["self","k","times","other"] f10 _:=⟨F10,⟨a10,i10,k10⟩,FR F10 fun _ _ _ _ _ _ _ _ _ _=>rfl⟩
 have F11:=bU (st:=cu) l11 c11 k11
 have D11:MethAt K ai "exchange" "Bench.exchange" cu ["self","k","other"] f11 _:=⟨F11,⟨a11,i11,k11⟩,oS F11 fun _ _ _ _ _ _ _ _ _=>rfl⟩
 have F12:=bU (st:=bR) l12 c12 k12
 have D12:MethAt K ai "change_sign" "Bench.change_sign" bR ["self","k"] f12 _:=⟨F12,⟨a12,i12,k12⟩,nv F12 fun _ _ _ _ _ _ _ _=>rfl⟩
 have F13:=bU (st:=bE) l13 c13 k13
 have D13:MethAt K ai "live_rows" "Bench.live_rows" bE ["self","top","place"] f13 _:=⟨F13,⟨a13,i13,k13⟩,oS F13 fun _ _ _ _ _ _ _ _ _=>rfl⟩
 have F14:=bU (st:=cP) l14 c14 k14
 have D14:MethAt K ai "gather" "Bench.gather" cP ["self","top","place"] f14 _:=⟨F14,⟨a14,i14,k14⟩,oS F14 fun _ _ _ _ _ _ _ _ _=>rfl⟩
 have F15:=bU (st:=bS) l15 c15 k15
 have D15:MethAt K ai "lower_above" "Bench.lower_above" bS ["self","top","place"] f15 _:=⟨F15,⟨a15,i15,k15⟩,oS F15 fun _ _ _ _ _ _ _ _ _=>rfl⟩
 have F16:=bU (st:=eD) l16 c16 k16
 have D16:aG K mg "standing" "standing" eD ["rows"] f16 _:=⟨F16,PySem.W.mg_of X G a16,oy F16 fun _ _ _ _ _ _ _=>rfl⟩
 have F17:=bU (st:=dN) l17 c17 k17
 have D17:aG K mg "_law_hand" "_law_hand" dN ["_law_script"] f17 _:=⟨F17,PySem.W.mg_of X G a17,oy F17 fun _ _ _ _ _ _ _=>rfl⟩
 have F18:=bU (st:=c_) l18 c18 k18
 have D18:aG K mg "_law_draw" "_law_draw" c_ ["_law_hand_here","_law_many"] f18 _:=⟨F18,PySem.W.mg_of X G a18,nv F18 fun _ _ _ _ _ _ _ _=>rfl⟩
 have F19:=bU (st:=dq) l19 c19 k19
 have D19:aG K mg "_law_number" "_law_number" dq ["_law_hand_here","_law_kind"] f19 _:=⟨F19,PySem.W.mg_of X G a19,nv F19 fun _ _ _ _ _ _ _ _=>rfl⟩
 have F20:=bU (st:=de) l20 c20 k20
 have D20:aG K mg "_law_rows" "_law_rows" de ["_law_hand_here","_law_many","_law_wide","_law_kind"] f20 _:=⟨F20,PySem.W.mg_of X G a20,FR F20 fun _ _ _ _ _ _ _ _ _ _=>rfl⟩
 have F21:=bU (st:=dM) l21 c21 k21
 have D21:aG K mg "_law_sizes" "_law_sizes" dM ["_law_hand_here"] f21 _:=⟨F21,PySem.W.mg_of X G a21,oy F21 fun _ _ _ _ _ _ _=>rfl⟩
 have F22:=bU (st:=cE) l22 c22 k22
 have D22:aG K mg "_law_some_rows" "_law_some_rows" cE ["_law_hand_here","_law_kinds"] f22 _:=⟨F22,PySem.W.mg_of X G a22,nv F22 fun _ _ _ _ _ _ _ _=>rfl⟩
 have F23:=bU (st:=fi) l23 c23 k23
 have D23:aG K mg "_law_by" "_law_by" fi ["_law_weights","_law_rows_here","_law_wide"] f23 _:=⟨F23,PySem.W.mg_of X G a23,oS F23 fun _ _ _ _ _ _ _ _ _=>rfl⟩
 have F24:=bU (st:=cK) l24 c24 k24
 have D24:aG K mg "_law_product" "_law_product" cK ["_law_one","_law_other","_law_wide"] f24 _:=⟨F24,PySem.W.mg_of X G a24,oS F24 fun _ _ _ _ _ _ _ _ _=>rfl⟩
 have F25:=bU (st:=dj) l25 c25 k25
 have D25:aG K mg "_law_units" "_law_units" dj ["_law_n"] f25 _:=⟨F25,PySem.W.mg_of X G a25,oy F25 fun _ _ _ _ _ _ _=>rfl⟩
 have F26:=bU (st:=cx) l26 c26 k26
 have D26:aG K mg "_law_are_rows" "_law_are_rows" cx ["_law_found","_law_many","_law_wide"] f26 _:=⟨F26,PySem.W.mg_of X G a26,oS F26 fun _ _ _ _ _ _ _ _ _=>rfl⟩
 have F27:=bU (st:=cY) l27 c27 k27
 have D27:aG K mg "_law_stands" "_law_stands" cY ["_law_rows_here"] f27 _:=⟨F27,PySem.W.mg_of X G a27,oy F27 fun _ _ _ _ _ _ _=>rfl⟩
 have F28:=bU (st:=cZ) l28 c28 k28
 have D28:aG K mg "_law_right" "_law_right" cZ ["_law_rows_here","_law_found"] f28 _:=⟨F28,PySem.W.mg_of X G a28,nv F28 fun _ _ _ _ _ _ _ _=>rfl⟩
 have F29:=bU (st:=gL) l29 c29 k29
 have D29:aG K mg "law" "law" gL ["_law_script"] fa _:=⟨F29,PySem.W.mg_of X G a29,oy F29 fun _ _ _ _ _ _ _=>rfl⟩
 refine⟨PySem.W.fnOf "law" "law" (ba gL) (aW gL) (ag gL) .none kV29 dc29 pm29 an29 cd29 ct29,fun s v=> .of_eq rfl,fun base _ _=>?_⟩
 have G0:ax l.prog w K mg base aO 1 f0 _ ["rows"] (aR h7):=vt B Q D0
 have G1:ax l.prog w K mg base aO 1 f1 _ ["row","times","other"] (aR iO):=yK B Q D1
 have G2:ax l.prog w K mg base aO 1 f2 _ ["rows","place"] (aR kg):=wJ B Q D2
 have G3:ax l.prog w K mg base aO 2 f3 _ ["rows","wide"] (aR fR):=qc B Q D3 D2 G2
 have G4:ax l.prog w K mg base aO 1 f4 _ ["n","place"] (aR iz):=uA B Q D4
 have G5:ax l.prog w K mg base aO 2 f5 _ ["n"] (aR fW):=sE B Q D5 D4 G4
 have G6:ax l.prog w K mg base aO 1 f6 _ ["top","bottom"] (aR dS):=lQ B Q D6
 have G7:ax l.prog w K mg base aO 1 f7 _ ["rows","k","other"] (aR fm):=sv B Q D7
 have G8:ax l.prog w K mg base aO 1 f8 _ ["row"] (aR gv):=v9 B Q D8
 have G9:ax l.prog w K mg base aO 3 f9 _ ["self","rows"] (aR eR):=nu B Q D9 D5 G5
 have G10:ax l.prog w K mg base aO 2 f10 _ ["self","k","times","other"] (aR eQ):=qO B Q D10 D1 G1
 have G11:ax l.prog w K mg base aO 2 f11 _ ["self","k","other"] (aR eO):=nj B Q D11 D7 G7
 have G12:ax l.prog w K mg base aO 2 f12 _ ["self","k"] (aR dz):=lz B Q D12 D8 G8
 have G13:ax l.prog w K mg base aO 3 f13 _ ["self","top","place"] (aR dv):=mD B Q D13 ⟨⟨_,_,_,_,_,_,_,_,rfl,l13,c13⟩⟩ hC13
 have G14:ax l.prog w K mg base aO 4 f14 _ ["self","top","place"] (aR fy):=o6 B Q D14 D13 G13 D6 G6 D10 G10 D11 G11 D12 G12
 have G15:ax l.prog w K mg base aO 3 f15 _ ["self","top","place"] (aR dB):=lb B Q D15 D10 G10
 have G16:ax l.prog w K mg base aO 5 f16 _ ["rows"] (aR fO):=um B Q D16 D9 G9 D14 G14 D15 G15 D3 G3 D0 G0
 have G17:ax l.prog w K mg base aO 1 f17 _ ["_law_script"] (aR iF):=ui B Q D17
 have G18:ax l.prog w K mg base aO 1 f18 _ ["_law_hand_here","_law_many"] (aR bL):=uv B Q D18
 have G19:ax l.prog w K mg base aO 2 f19 _ ["_law_hand_here","_law_kind"] (aR fu):=qM B Q D19 D18 G18
 have G20:ax l.prog w K mg base aO 3 f20 _ ["_law_hand_here","_law_many","_law_wide","_law_kind"] (aR il):=uC B Q D20 D19 G19 D18 G18
 have G21:ax l.prog w K mg base aO 2 f21 _ ["_law_hand_here"] (aR g4):=rN B Q D21 D18 G18
 have G22:ax l.prog w K mg base aO 4 f22 _ ["_law_hand_here","_law_kinds"] (aR ff):=oj B Q D22 D21 G21 D18 G18 D20 G20
 have G23:ax l.prog w K mg base aO 1 f23 _ ["_law_weights","_law_rows_here","_law_wide"] (aR kc):=xN B Q D23
 have G24:ax l.prog w K mg base aO 2 f24 _ ["_law_one","_law_other","_law_wide"] (aR dW):=pQ B Q D24 D23 G23
 have G25:ax l.prog w K mg base aO 1 f25 _ ["_law_n"] (aR g5):=s_ B Q D25
 have G26:ax l.prog w K mg base aO 1 f26 _ ["_law_found","_law_many","_law_wide"] (aR dF):=o5 B Q D26
 have G27:ax l.prog w K mg base aO 1 f27 _ ["_law_rows_here"] (aR gm):=qR B Q D27
 have G28:ax l.prog w K mg base aO 3 f28 _ ["_law_rows_here","_law_found"] (aR g0):=rQ B Q D28 D26 G26 D27 G27 D24 G24 D25 G25
 have G29:ax l.prog w K mg base aO 6 fa _ ["_law_script"] (aR wc):=DM B Q D29 D17 G17 D22 G22 D16 G16 D28 G28
 exact G29.imp fun vs H Q E h=>xh (tl:=[(98,⟨48,32,48,66⟩,"Bench.live_rows.<locals>.<lambda>")]) nl rfl (by decide) h
theorem walk{l:PySem.W.OpenLaw}{q:Program}{loose:List Str}{XP:(Str→Option Value)→Heap→Prop}{YP:World→Heap→Prop}{d:DefRec}{K:Params→PySem.W.Frag}(hn:l.most=some 63)(hdf:d.params.defaults=[])(hq:importsNone q=true)(hgt:l.prog.given.tree=none)
 (hY:∀(w:World) (h:Heap),YP w h→(K w.params).In h∧zC (K w.params) [(100,98)] h)
 (F:∀(w:World) (mg:Str→Option Value) (fa:Addr) (h:Heap),(K w.params).In h→h.Ns mainGlobals mg→mg d.name=some (.ref fa)→
   ∃fd:FuncData,(∀(s:Shared) (u:Value),BindsTo s fd ⟨[u],[]⟩ [("_law_script",u)])∧∀base:Heap,(K w.params).In base→base.Ns mainGlobals mg→ax l.prog w (K w.params) mg base aO 6 fa fd ["_law_script"] (oH (K w.params) [(100,98)])):
 PySem.W.WalkO q loose XP YP l.row.toRowW d [] (fun f vs=>PySem.call f vs):=
 L2.Ei (n:=63) (k:=6) (x:="_law_script") (ts:=[(100,98)]) (sp:=fun w=>oH (K w.params) [(100,98)]) hn (by decide) hdf ⟨rfl,by decide,by decide⟩ hq hgt hY F fun _ _ a ns hl hE=>⟨a,ns,rfl,hE,hl,fun _=>rfl⟩
end Row
open PySem PySem.W PyProof.Rows
set_option maxRecDepth 100000 in
set_option maxHeartbeats 0 in
theorem PySem.Challenge.cw_latticeworks_k12_forms_made_holds : PySem.Challenge.rw_latticeworks_k12_forms_made.Holds := by
 w_on;o_law;k_head;(case hw=>w_witness2)
 k_fill
 refine Row.walk (l:=PySem.Challenge.rw_latticeworks_k12_forms_made) rfl rfl (by first|rfl|kernel_rfl|decide+kernel) rfl (fun w h Y=>⟨PySem.W.km_in_of Y,⟨(fun q hq=>by rcases List.mem_cons.mp hq with rfl|hq;(first|kernel_rfl|k_is);cases hq),(fun q hq=>by rcases List.mem_cons.mp hq with rfl|hq;(first|kernel_rfl|(with_unfolding_all rfl));cases hq),fun q hq=>PySem.W.km_tabs_of Y _ (List.mem_map_of_mem (f:=Prod.snd) hq)⟩⟩) ?F
 case F=>
  intro w mg fa h KX G hmg
  refine' Row.all_mk KX G hmg ?a0 ?l0 ?c0 ?k0 ?a1 ?l1 ?c1 ?k1 ?a2 ?l2 ?c2 ?k2 ?a3 ?l3 ?c3 ?k3 ?a4 ?l4 ?c4 ?k4 ?a5 ?l5 ?c5 ?k5 ?a6 ?l6 ?c6 ?k6 ?a7 ?l7 ?c7 ?k7 ?a8 ?l8 ?c8 ?k8 ?a9 ?i9 ?l9 ?c9 ?k9 ?a10 ?i10 ?l10 ?c10 ?k10 ?a11 ?i11 ?l11 ?c11 ?k11 ?a12 ?i12 ?l12 ?c12 ?k12 ?a13 ?i13 ?l13 ?c13 ?k13 ?hC13 ?a14 ?i14 ?l14 ?c14 ?k14 ?a15 ?i15 ?l15 ?c15 ?k15 ?a16 ?l16 ?c16 ?k16 ?a17 ?l17 ?c17 ?k17 ?a18 ?l18 ?c18 ?k18 ?a19 ?l19 ?c19 ?k19 ?a20 ?l20 ?c20 ?k20 ?a21 ?l21 ?c21 ?k21 ?a22 ?l22 ?c22 ?k22 ?a23 ?l23 ?c23 ?k23 ?a24 ?l24 ?c24 ?k24 ?a25 ?l25 ?c25 ?k25 ?a26 ?l26 ?c26 ?k26 ?a27 ?l27 ?c27 ?k27 ?a28 ?l28 ?c28 ?k28 ?a29 ?l29 ?c29 ?k29 ?z_tuple ?z_zip ?z_range ?z_list ?z_len ?z_abs ?z_sorted ?z_int ?z_isinstance ?z_bool ?z_all ?ca_Bench ?cb_Bench ?cc_Bench ?cd_Bench ?ce_Bench ?cf_Bench ?cg_Bench ?bh ?cw ?bc ?nl
  (case a0=>k_is)
  (case l0=>k_is)
  (case c0=>k_is)
  (case k0=>k_is)
  (case a1=>k_is)
  (case l1=>k_is)
  (case c1=>k_is)
  (case k1=>k_is)
  (case a2=>k_is)
  (case l2=>k_is)
  (case c2=>k_is)
  (case k2=>k_is)
  (case a3=>k_is)
  (case l3=>k_is)
  (case c3=>k_is)
  (case k3=>k_is)
  (case a4=>k_is)
  (case l4=>k_is)
  (case c4=>k_is)
  (case k4=>k_is)
  (case a5=>k_is)
  (case l5=>k_is)
  (case c5=>k_is)
  (case k5=>k_is)
  (case a6=>k_is)
  (case l6=>k_is)
  (case c6=>k_is)
  (case k6=>k_is)
  (case a7=>k_is)
  (case l7=>k_is)
  (case c7=>k_is)
  (case k7=>k_is)
  (case a8=>k_is)
  (case l8=>k_is)
  (case c8=>k_is)
  (case k8=>k_is)
  (case a9=>k_is)
  (case i9=>k_is)
  (case l9=>k_is)
  (case c9=>k_is)
  (case k9=>k_is)
  (case a10=>k_is)
  (case i10=>k_is)
  (case l10=>k_is)
  (case c10=>k_is)
  (case k10=>k_is)
  (case a11=>k_is)
  (case i11=>k_is)
  (case l11=>k_is)
  (case c11=>k_is)
  (case k11=>k_is)
  (case a12=>k_is)
  (case i12=>k_is)
  (case l12=>k_is)
  (case c12=>k_is)
  (case k12=>k_is)
  (case a13=>k_is)
  (case i13=>k_is)
  (case l13=>k_is)
  (case c13=>k_is)
  (case k13=>k_is)
  (case hC13=>first|kernel_rfl|k_is)
  (case a14=>k_is)
  (case i14=>k_is)
  (case l14=>k_is)
  (case c14=>k_is)
  (case k14=>k_is)
  (case a15=>k_is)
  (case i15=>k_is)
  (case l15=>k_is)
  (case c15=>k_is)
  (case k15=>k_is)
  (case a16=>k_is)
  (case l16=>k_is)
  (case c16=>k_is)
  (case k16=>k_is)
  (case a17=>k_is)
  (case l17=>k_is)
  (case c17=>k_is)
  (case k17=>k_is)
  (case a18=>k_is)
  (case l18=>k_is)
  (case c18=>k_is)
  (case k18=>k_is)
  (case a19=>k_is)
  (case l19=>k_is)
  (case c19=>k_is)
  (case k19=>k_is)
  (case a20=>k_is)
  (case l20=>k_is)
  (case c20=>k_is)
  (case k20=>k_is)
  (case a21=>k_is)
  (case l21=>k_is)
  (case c21=>k_is)
  (case k21=>k_is)
  (case a22=>k_is)
  (case l22=>k_is)
  (case c22=>k_is)
  (case k22=>k_is)
  (case a23=>k_is)
  (case l23=>k_is)
  (case c23=>k_is)
  (case k23=>k_is)
  (case a24=>k_is)
  (case l24=>k_is)
  (case c24=>k_is)
  (case k24=>k_is)
  (case a25=>k_is)
  (case l25=>k_is)
  (case c25=>k_is)
  (case k25=>k_is)
  (case a26=>k_is)
  (case l26=>k_is)
  (case c26=>k_is)
  (case k26=>k_is)
  (case a27=>k_is)
  (case l27=>k_is)
  (case c27=>k_is)
  (case k27=>k_is)
  (case a28=>k_is)
  (case l28=>k_is)
  (case c28=>k_is)
  (case k28=>k_is)
  (case a29=>k_is)
  (case l29=>k_is)
  (case c29=>k_is)
  (case k29=>k_is)
  (case z_tuple=>k_is)
  (case z_zip=>k_is)
  (case z_range=>k_is)
  (case z_list=>k_is)
  (case z_len=>k_is)
  (case z_abs=>k_is)
  (case z_sorted=>k_is)
  (case z_int=>k_is)
  (case z_isinstance=>k_is)
  (case z_bool=>k_is)
  (case z_all=>k_is)
  (case ca_Bench=>k_is)
  (case cb_Bench=>k_is)
  (case cc_Bench=>k_is)
  (case cd_Bench=>k_is)
  (case ce_Bench=>k_is)
  (case cf_Bench=>k_is)
  (case cg_Bench=>k_is)
  (case bh=>k_is)
  (case cw=>k_is)
  (case bc=>k_is)
  (case nl=>first|(with_unfolding_all rfl)|kernel_rfl)
