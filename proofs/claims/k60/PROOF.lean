import PyProof.Rows.All
import Wide.All
import OpenK.AllK
import Wide.FinOn
import Lean
import PyProof.EqAt
import PyProof.EqKinds
import PyProof.TupleCall
import PyProof.NeKinds
import KE.KUnpack
import PySem.Challenge.RW_latticeworks_k60_whole_weights_are_answe
set_option Elab.async false
set_option linter.all false
set_option maxRecDepth 100000
namespace L2
open PySem PySem.Spec PyProof.Rows
abbrev Key:=Sum Int Str
def F2:Key->Value->Bool
 | .inl k,v=>Value.isInt k v
 | .inr x,v=>Value.isStrOf x v
def Nz(w:World):Key->Int
 | .inl k=>hashInt k
 | .inr x=>hashStr w x
theorem dZ:∀ {k:Key} {v:Value},F2 k v=true->(∃i t,k=Sum.inl i/\v=Value.int i t)\/(∃x t,k=Sum.inr x/\v=Value.str x t)
 | .inl i,v,h=>by
   obtain⟨t,e⟩:=Value.isInt_shape (k:=i) (v:=v) h;exact .inl ⟨i,t,rfl,e⟩
 | .inr x,v,h=>by
   obtain⟨t,e⟩:=Value.isStrOf_shape (x:=x) (v:=v) h;exact .inr ⟨x,t,rfl,e⟩
theorem Kp(a b:Int):decide ((Sum.inl a:Key)=Sum.inl b)=(a==b):=by
 by_cases e:a=b
 . subst e;simp
 . have h:¬(Sum.inl a:Key)=Sum.inl b:=fun q=>e (Sum.inl.inj q);rw[decide_eq_false h];exact(beq_eq_false_iff_ne.mpr e).symm
theorem Ic(a b:Str):decide ((Sum.inr a:Key)=Sum.inr b)=decide (a=b):=by
 by_cases e:a=b
 . subst e;simp
 . have h:¬(Sum.inr a:Key)=Sum.inr b:=fun q=>e (Sum.inr.inj q);rw[decide_eq_false h,decide_eq_false e]
theorem J_(a:Int)(b:Str):decide ((Sum.inl a:Key)=Sum.inr b)=false:=decide_eq_false (fun q=>nomatch q)
theorem IP(a:Str)(b:Int):decide ((Sum.inr a:Key)=Sum.inl b)=false:=decide_eq_false (fun q=>nomatch q)
def z8(prog:Program)(w:World):PySem.KeyKind prog w Key where
 is:=F2
 hash:=Nz w
 inj:=fun v a b ha hb=>by
  rcases dZ ha with⟨i,t,rfl,rfl⟩|⟨x,t,rfl,rfl⟩
  . rcases dZ hb with⟨j,u,rfl,e⟩|⟨y,u,rfl,e⟩
    . injection e with e1 _;rw[e1]
    . exact nomatch e
  . rcases dZ hb with⟨j,u,rfl,e⟩|⟨y,u,rfl,e⟩
    . exact nomatch e
    . injection e with e1 _;rw[e1]
 byValue:=fun k v h=>by
  rcases dZ h with⟨i,t,rfl,rfl⟩|⟨x,t,rfl,rfl⟩<;>rfl
 pyHash:=fun hv h=>by
  rcases dZ hv with⟨i,t,rfl,rfl⟩|⟨x,t,rfl,rfl⟩
  . exact wpAny_pyHash_int h
  . exact wpAny_pyHash_str h
 eqBool:=fun hu hv h=>by
  rcases dZ hu with⟨i,t,rfl,rfl⟩|⟨x,t,rfl,rfl⟩
  . rcases dZ hv with⟨j,u,rfl,rfl⟩|⟨y,u,rfl,rfl⟩
    . rw[Kp]at h;exact wpAny_eqBool_int h
    . rw[J_]at h;exact SeqAt.EqAt.int_str i t y u _ _ _ _ h
  . rcases dZ hv with⟨j,u,rfl,rfl⟩|⟨y,u,rfl,rfl⟩
    . rw[IP]at h;exact SeqAt.EqAt.str_int x t j u _ _ _ _ h
    . rw[Ic]at h;exact wpAny_eqBool_str h
 «strs» :=fun k x t v h=>by
  rcases dZ h with⟨i,u,rfl,e⟩|⟨y,u,rfl,e⟩
  . exact nomatch e
  . injection e with e1 _;subst e1;cases v<;>rfl
inductive V where
 |aE|bl (b:Bool)|int (i:Int)|str (x:Str)|sA (b:Array UInt8)|sh (b:UInt64)|ref (a:Addr)|ty (n:String)
 deriving DecidableEq
def RelV:V->Value->Prop
 | .aE,u=>u=Value.none
 | .bl b,u=>u=Value.bool b
 | .int i,u=>∃t,u=Value.int i t
 | .str x,u=>∃t,u=Value.str x t
 | .sA b,u=>∃t,u=Value.bytes b t
 | .sh b,u=>∃t,u=Value.float b t
 | .ref a,u=>u=Value.ref a
 | .ty n,u=>u=Value.type n
abbrev Vals:List V->List Value->Prop:=Paired RelV
theorem Vals.length{xs:List V}{us:List Value}(r:Vals xs us):xs.length=us.length:=Paired.length r
theorem Vals.get:∀ {xs:List V} {us:List Value} {i:Nat} {x:V},Vals xs us->xs[i]?=some x->∃u,us[i]?=some u/\RelV x u
 |_,_,_,_,.nil,e=>by simp at e
 |_,_,0,_,.cons r _,e=>by simp at e;subst e;exact⟨_,rfl,r⟩
 |_,_,i+1,x,.cons _ t,e=>by
  obtain⟨u,h1,h2⟩:=Vals.get (i:=i) (x:=x) t (by simpa using e);exact⟨u,by simpa using h1,h2⟩
theorem Vals.set{x:V}{u:Value}(r:RelV x u):∀ {xs:List V} {us:List Value} (i:Nat),Vals xs us->Vals (xs.set i x) (us.set i u)
 |_,_,_,.nil=> .nil
 |_,_,0,.cons _ t=> .cons r t
 |_,_,i+1,.cons q t=> .cons q (Vals.set r i t)
theorem Vals.append:∀ {xs ys:List V} {us ws:List Value},Vals xs us->Vals ys ws->Vals (xs++ys) (us++ws)
 |_,_,_,_,.nil,s=>s
 |_,_,_,_,.cons r t,s=> .cons r (Vals.append t s)
theorem Vals.take:∀ {xs:List V} {us:List Value} (n:Nat),Vals xs us->Vals (xs.take n) (us.take n)
 |_,_,0,_=> .nil
 |_,_,_+1,.nil=> .nil
 |_,_,n+1,.cons r t=> .cons r (Vals.take n t)
theorem Vals.drop:∀ {xs:List V} {us:List Value} (n:Nat),Vals xs us->Vals (xs.drop n) (us.drop n)
 |_,_,0,r=>r
 |_,_,_+1,.nil=> .nil
 |_,_,n+1,.cons _ t=>Vals.drop n t
def og:Option V->Option Value->Prop
 |some v,some u=>RelV v u
 |none,none=>True
 |_,_=>False
def KV{κ:Type}:List (κ×V)->List (κ×Value)->Prop:=Paired fun(p:κ×V) (q:κ×Value)=>p.1=q.1/\RelV p.2 q.2
def kV:Key->V
 | .inl i=> .int i
 | .inr x=> .str x
inductive HO where
 |lst (xs:List V)
 |tup (xs:List V)
 |dK (kvs:List (Key×V))|dT (kvs:List (List Key×V))
 |set (S:Int->Bool) (n:Nat)
 |ins (C dx:Addr) (fs:List (Str×V))
 |own (x:Addr)
 |xd (fs:List (Str×V))
 |met (f x:Addr)
 |Kt (lo hi:Int)
 |fP (o:Obj) (u:HO)
 |jz (ps:Array Value)
 |ext (φ:Heap->Prop)
abbrev Hp:=Addr->Option HO
def upd(H:Hp)(a:Addr)(o:HO):Hp:=fun b=>if b=a then some o else H b
theorem aY{H:Hp}{a:Addr}{o:HO}:upd H a o a=some o:=by unfold upd;rw[if_pos rfl]
theorem ax{H:Hp}{a b:Addr}{o:HO}(h:b≠a):upd H a o b=H b:=by unfold upd;rw[if_neg h]
theorem HE{H:Hp}{a:Addr}{o u:HO}:upd (upd H a o) a u=upd H a u:=by
 funext b;unfold upd;split<;>rfl
theorem cV{H:Hp}{a b:Addr}{o:HO}(h:H a=some o)(h':H b=none):a≠b:=by
 intro e;subst e;rw[h]at h';cases h'
section
variable (P:Program)(w:World)
def cW(H:Hp)(h:Heap)(a:Addr):HO->Prop
 | .lst xs=>xs.length<=sizeLine/\∃(aq:List Value) (n:Nat),Vals xs aq/\h.get? a=some {cls:= .type "list",data:= .seq aq.toArray n}
 | .tup xs=>xs.length<=sizeLine/\∃aq:List Value,Vals xs aq/\IsTup h a aq.toArray
 | .dK kvs=>kvs.length<=sizeLine/\(a==sysModules)=false/\∃vs,KV kvs vs/\h.DictOf (z8 P w) a vs
 | .dT kvs=>kvs.length<=sizeLine/\(a==sysModules)=false/\∃xs:List (List Key×Addr×Value),
    Paired (fun(p:List Key×V) (q:List Key×Addr×Value)=>p.1=q.1/\H q.2.1=some (.tup (p.1.map kV))/\RelV p.2 q.2.2) kvs xs/\
    ∃o es ep,h.get? a=some o/\o.ExactDict/\o.data= .dict es ep/\es.toList=xs.map (entryOfKey (tupleKind (z8 P w)))/\(xs.map (·.1)).Nodup
 | .set S n=>h.SetOf (intKind P w) a S n
 | .ins C dx fs=>H dx=some (.own a)/\fs.length<=1000/\dx≠a/\h.get? a=some (PySem.W.instObj C dx)/\
    ∃mA,h.Ns1 dx mA/\(∀f,og (fs.lookup f) (mA f))/\PySem.Within mA (fs.map (·.1))
 | .own _=>∃o,h.get? a=some o
 | .xd fs=>∃mA,h.Ns1 a mA/\∀f,og (fs.lookup f) (mA f)
 | .Kt lo hi=>∃t u v,h.get? a=some {cls:= .type "range",data:= .fields #[.int lo t,.int hi u,.int 1 v]}
 | .fP o u=>h.get? a=some o/\cW H h a u
 | .jz ps=>h.get? a=some {cls:= .none,data:= .fields ps}
 | .met f x=>h.get? a=some (PySem.W.methodObj (.ref f) (.ref x))
 | .ext φ=>φ h/\(∃o,h.get? a=some o)/\∀h1 h2:Heap,φ h1->(∀o,h1.get? a=some o->h2.get? a=some o)->φ h2
def gB(H:Hp)(h:Heap):Prop:=∀a o,H a=some o->cW P w H h a o
end
section
variable {P:Program}{w:World}{H H':Hp}{h h':Heap}{a:Addr}{o:HO}
theorem cW.lt(x:cW P w H h a o):a<h.objs.size:=by
 cases o with
 |lst xs=>obtain⟨_,_,_,_,e⟩:=x;exact Heap.lt_size e
 |tup xs=>obtain⟨_,_,_,p⟩:=x;exact p.lt
 |dK kvs=>obtain⟨_,_,_,_,o,_,_,e,_⟩:=x;exact Heap.lt_size e
 |dT kvs=>obtain⟨_,_,_,_,o,_,_,e,_⟩:=x;exact Heap.lt_size e
 |set S n=>obtain⟨o,_,_,_,e,_⟩:=x;exact Heap.lt_size e
 |ins C dx fs=>obtain⟨_,_,_,e,_⟩:=x;exact Heap.lt_size e
 |own y=>obtain⟨_,e⟩:=x;exact Heap.lt_size e
 |xd fs=>obtain⟨_,⟨_,_,_,e,_⟩,_⟩:=x;exact Heap.lt_size e
 |Kt lo hi=>obtain⟨_,_,_,e⟩:=x;exact Heap.lt_size e
 |fP ob u=>obtain⟨e,_⟩:=x;exact Heap.lt_size e
 |jz ps=>exact Heap.lt_size (show h.get? a=some _ from x)
 |met f y=>exact Heap.lt_size (show h.get? a=some _ from x)
 |ext φ=>obtain⟨_,⟨_,e⟩,_⟩:=x;exact Heap.lt_size e
theorem Paired.Et{α β:Type}{F G:α->β->Prop}:∀ {l₁:List α} {l₂:List β},Paired F l₁ l₂->(∀a b,F a b->G a b)->Paired G l₁ l₂
 |_,_,.nil,_=> .nil
 |_,_,.cons r t,f=> .cons (f _ _ r) (Paired.Et t f)
theorem cW.kC(x:cW P w H h a o)(k:∀b u,(b=a\/H b=some (.own a))->h.get? b=some u->h'.get? b=some u)
 (ho:∀b,H b=some (.own a)->H' b=some (.own a)) (ht:∀b xs,H b=some (.tup xs)->H' b=some (.tup xs)):cW P w H' h' a o:=by
 induction o with
 |lst xs=>obtain⟨z,aq,n,r,e⟩:=x;exact⟨z,aq,n,r,k _ _ (.inl rfl) e⟩
 |tup xs=>obtain⟨z,aq,r,ob,e,c⟩:=x;exact⟨z,aq,r,ob,k _ _ (.inl rfl) e,c⟩
 |dK kvs=>obtain⟨z,y,vs,r,ob,es,ep,e,c⟩:=x;exact⟨z,y,vs,r,ob,es,ep,k _ _ (.inl rfl) e,c⟩
 |dT kvs=>
  obtain⟨z,y,xs,r,ob,es,ep,e,c⟩:=x;exact⟨z,y,xs,Paired.Et r fun p q z=>⟨z.1,ht _ _ z.2.1,z.2.2⟩,ob,es,ep,k _ _ (.inl rfl) e,c⟩
 |set S n=>obtain⟨ob,es,ep,t,e,c⟩:=x;exact⟨ob,es,ep,t,k _ _ (.inl rfl) e,c⟩
 |ins C dx fs=>
  obtain⟨d,z,ne,e,mA,⟨od,es,ep,e2,c⟩,r⟩:=x;exact⟨ho _ d,z,ne,k _ _ (.inl rfl) e,mA,⟨od,es,ep,k _ _ (.inr d) e2,c⟩,r⟩
 |own y=>obtain⟨ob,e⟩:=x;exact⟨ob,k _ _ (.inl rfl) e⟩
 |xd fs=>obtain⟨mA,⟨od,es,ep,e,c⟩,r⟩:=x;exact⟨mA,⟨od,es,ep,k _ _ (.inl rfl) e,c⟩,r⟩
 |Kt lo hi=>obtain⟨t,u,v,e⟩:=x;exact⟨t,u,v,k _ _ (.inl rfl) e⟩
 |fP ob u ih=>obtain⟨e,q⟩:=x;exact⟨k _ _ (.inl rfl) e,ih q⟩
 |jz ps=>
  have e:h.get? a=some {cls:= .none,data:= .fields ps}:=x;show h'.get? a=some {cls:= .none,data:= .fields ps};exact k a _ (.inl rfl) e
 |met f y=>
  have e:h.get? a=some (PySem.W.methodObj (.ref f) (.ref y)):=x;show h'.get? a=some (PySem.W.methodObj (.ref f) (.ref y));exact k a _ (.inl rfl) e
 |ext φ=>obtain⟨p,⟨o,e⟩,st⟩:=x;exact⟨st _ _ p fun o q=>k _ _ (.inl rfl) q,⟨o,k _ _ (.inl rfl) e⟩,st⟩
theorem gB.lt(x:gB P w H h)(e:H a=some o):a<h.objs.size:=(x a o e).lt
theorem gB.fresh(x:gB P w H h)(e:h.objs.size<=a):H a=none:=by
 cases q:H a with
 |none=>rfl
 |some u=>exact absurd (Nat.lt_of_lt_of_le (x.lt q) e) (Nat.lt_irrefl _)
theorem gB.kept(x:gB P w H h)(k:∀b u,h.get? b=some u->h'.get? b=some u):gB P w H h':=fun a o e=>
 (x a o e).kC (fun b u _ q=>k b u q) (fun _ q=>q) fun _ _ q=>q
theorem gB.laid(x:gB P w H h)(k:∀b u,h.get? b=some u->h'.get? b=some u)(hp:h.objs.size<=a)(new:cW P w (upd H a o) h' a o):gB P w (upd H a o) h':=fun b u e=>by
 have hn:=x.fresh hp;by_cases hb:b=a
 . subst hb;rw[aY]at e;cases e;exact new
 . rw[ax hb]at e;exact(x b u e).kC (fun c v _ q=>k c v q) (fun c q=>by rw[ax (cV q hn)];exact q) fun c xs q=>by rw[ax (cV q hn)];exact q
end
def Rd(H:Hp)(a:Addr)(u:HO):Prop:=H a=some u\/∃o,H a=some (.fP o u)
theorem Rd.of{H:Hp}{a:Addr}{u:HO}(h:H a=some u):Rd H a u:= .inl h
theorem Rd.ok{P:Program}{w:World}{H:Hp}{h:Heap}{a:Addr}{u:HO}(r:Rd H a u)(x:gB P w H h):cW P w H h a u:=by
 rcases r with r|⟨o,r⟩
 . exact x a u r
 . obtain⟨_,q⟩:=x a _ r;exact q
def Fo:Option HO->Prop
 |some (.lst _)=>True
 |some (.dK _)=>True
 |some (.dT _)=>True
 |some (.set _ _)=>True
 |some (.ins _ _ _)=>True
 |some (.ext _)=>True
 |_=>False
section
variable {P:Program}{w:World}{H:Hp}{h h':Heap}{x e:Addr}{o':HO}
theorem gB.write(ok:gB P w H h)(mu:Fo (H x))(he:e=x\/H e=some (.own x))(k:∀b u,b≠e->h.get? b=some u->h'.get? b=some u)(heo:∃u,h'.get? e=some u)
 (new:cW P w (upd H x o') h' x o'):gB P w (upd H x o') h':=fun b u q=>by
 have nown:∀c y,H c=some (.own y)->c≠x:=fun c y r z=>by subst z;rw[r]at mu;exact mu
 have ntup:∀c xs,H c=some (.tup xs)->c≠x:=fun c xs r z=>by subst z;rw[r]at mu;exact mu
 by_cases hb:b=x
 . subst hb;rw[aY]at q;cases q;exact new
 . rw[ax hb]at q;by_cases hbe:b=e
   . have q':H b=some (.own x):=by
      rcases he with z|z
      . exact absurd (hbe.trans z) hb
      . rw[hbe];exact z
     rw[q]at q';cases q';obtain⟨v,hv⟩:=heo;exact⟨v,by rw[hbe];exact hv⟩
   . refine(ok b u q).kC (fun c v hc r=>k c v ?_ r) (fun c r=>by rw[ax (nown c b r)];exact r) fun c xs r=>by rw[ax (ntup c xs r)];exact r
     rcases hc with rfl|hc
     . exact hbe
     . rintro rfl;rcases he with z|z
       . exact nown c b hc z
       . rw[hc]at z;cases z;exact hb rfl
end
structure Un(fs ex:List Addr)(H H':Hp)(h h':Heap):Prop where
 keep:∀b o,h.get? b=some o->H b=none->b∉fs->b∉ex->h'.get? b=some o
 slot:∀b o,h.get? b=some o->H b=none->b∈fs->b∉ex->∃sl,h'.get? b=some {o with slots:=sl}
 free:∀b o,h.get? b=some o->H b=none->b∉ex->H' b=none
 there:∀b o,h.get? b=some o->b∉ex->∃o',h'.get? b=some o'
 oq:∀b xs,H b=some (.tup xs)->H' b=some (.tup xs)
 mV:∀b o u,H b=some (.fP o u)->H' b=some (.fP o u)
 mT:∀b ps,H b=some (.jz ps)->∃more,H' b=some (.jz (ps++more))
section
variable {fs fs' ex ex':List Addr}{H H1 H2:Hp}{h h1 h2 h':Heap}{a x e:Addr}{o:HO}
theorem Un.any(u:Un fs ex H H1 h h1){b:Addr}{ob:Obj}(q:h.get? b=some ob)(n:H b=none)(hx:b∉ex):∃sl,h1.get? b=some {ob with slots:=sl}:=by
 by_cases hb:b∈fs
 . exact u.slot b ob q n hb hx
 . exact⟨ob.slots,u.keep b ob q n hb hx⟩
theorem Un.kept(k:∀b u,h.get? b=some u->h'.get? b=some u):Un fs ex H H h h':=
 ⟨fun b ob q _ _ _=>k b ob q,fun b ob q _ _ _=>⟨ob.slots,k b ob q⟩,fun _ _ _ n _=>n,fun b ob q _=>⟨ob,k b ob q⟩,fun _ _ q=>q,fun _ _ _ q=>q,fun _ ps q=>⟨#[],by rw[q];simp⟩⟩
theorem Un.refl:Un fs ex H H h h:=Un.kept fun _ _ q=>q
theorem Un.laid(k:∀b u,h.get? b=some u->h'.get? b=some u)(hp:h.objs.size<=a)(hn:H a=none):Un fs ex H (upd H a o) h h' where
 keep:=fun b u q _ _ _=>k b u q
 slot:=fun b u q _ _ _=>⟨u.slots,k b u q⟩
 free:=fun b u q n _=>by rw[ax (Nat.ne_of_lt (Nat.lt_of_lt_of_le (Heap.lt_size q) hp))];exact n
 there:=fun b u q _=>⟨u,k b u q⟩
 oq:=fun b xs q=>by rw[ax (cV q hn)];exact q
 mV:=fun b u xs q=>by rw[ax (cV q hn)];exact q
 mT:=fun b ps q=>⟨#[],by rw[ax (cV q hn),q];simp⟩
theorem Un.write(mu:Fo (H x))(he:e=x\/H e=some (.own x))(k:∀b u,b≠e->h.get? b=some u->h'.get? b=some u)(heo:∃u,h'.get? e=some u):Un fs ex H (upd H x o) h h':=by
 have hx:∀b,H b=none->b≠x:=fun b n z=>by subst z;rw[n]at mu;exact mu
 have hb:∀b,H b=none->b≠e:=fun b n z=>by
  subst z;rcases he with r|r
  . exact hx b n r
  . rw[n]at r;cases r
 have hm:∀b u,H b=some u->¬Fo (some u)->b≠x:=fun b u q nm z=>by subst z;rw[q]at mu;exact nm mu
 refine⟨fun b u q n _ _=>k b u (hb b n) q,fun b u q n _ _=>⟨u.slots,k b u (hb b n) q⟩,fun b u q n _=>by rw[ax (hx b n)];exact n,fun b u q _=>?_,
  fun b xs q=>by rw[ax (hm b _ q fun z=>z)];exact q,fun b u xs q=>by rw[ax (hm b _ q fun z=>z)];exact q,fun b ps q=>⟨#[],by rw[ax (hm b _ q fun z=>z),q];simp⟩⟩
 by_cases hbe:b=e
 . subst hbe;exact heo
 . exact⟨u,k b u hbe q⟩
end
def E8(h:Heap)(H:Hp):List Addr:=(List.range h.objs.size).filter fun a=>(H a).isSome
def oi(h:Heap)(H:Hp):Heap:=PySem.W.hideAll h (E8 h H)
theorem C7(h:Heap)(H:Hp):(oi h H).objs.size=h.objs.size:=PySem.W.hideAll_size _ _
theorem o6{h:Heap}{H:Hp}{b:Addr}{o:Obj}(e:h.get? b=some o)(n:H b=none):(oi h H).get? b=some o:=
 PySem.W.hideAll_get _ e fun hm=>by
  have q:(H b).isSome=true:=(List.mem_filter.mp hm).2;rw[n]at q;simp at q
theorem Gr{h:Heap}{H:Hp}{b:Addr}{o:Obj}(e:(oi h H).get? b=some o):h.get? b=some o/\H b=none:=by
 have e':h.get? b=some o:=PySem.W.of_hideAll (E8 h H) e;refine⟨e',?_⟩;cases q:H b with
 |none=>rfl
 |some x=>
  have hm:b∈E8 h H:=List.mem_filter.mpr ⟨List.mem_range.mpr (Heap.lt_size e'),by simp[q]⟩;have z:(oi h H).get? b=none:=PySem.W.hideAll_none (E8 h H) hm;rw[z]at e;cases e
def GG(g h:Heap)(L:Addr):List (Addr×Obj):=(List.range h.objs.size).filterMap fun a=>if a=L\/(g.get? a).isSome=true then none else(h.get? a).map fun o=>(a,o)
def rest(g h:Heap)(L d:Addr):List (Addr×Obj):=(GG g h L).filter fun p=>decide (p.1≠d)
structure Mod(K:PySem.W.Frag)(mg:Str->Option Value)(base:Heap):Prop where
 B0:K.In base
 glob:base.Ns mainGlobals mg
 blt:∃mb,base.Ns builtinsNs mb/\∀x:Str,x≠"__name__"->mb x=bootBuiltins x
 nolimit:base.NoLimit
 seer:base.NoSeer
 bmain:∃bm ob,mg "__builtins__"=some (.ref bm)/\bm≠builtinsNs/\base.get? bm=some ob/\ob.cls= .type "module"/\ob.dict=some builtinsNs/\ob.data= .plain
structure Cx where
 prog:Program
 w:World
 K:PySem.W.Frag
 mg:Str->Option Value
 base:Heap
 A:Around
 N:List Str
 s₀:Shared
 H₀:Hp
 env:Env
 outer:List Env
 stack:List Env
 ex:List Addr
 fn:Str->Bool
 calm:Bool
 pn:List (Addr×Obj)
 xe:Value->Shared->Prop
def oP(l:List Env):List Addr:=l.filterMap (·.frame)
abbrev Cx.fs(X:Cx):List Addr:=oP X.outer
def ye(sc:Scope)(x:Str):Prop:=sc.names.lookup x=some .local\/sc.names.lookup x=some .cell\/sc.names.lookup x=some .free
def Loc(sc:Scope)(x:Str):Prop:=sc.names.lookup x=some .local\/sc.names.lookup x=some .cell
def Look(env:Env)(h:Heap)(m:Str->Option Value)(x:Str)(u:Value):Prop:=
 (env.kindOf x=some .local/\m x=some u)\/((env.kindOf x=some .cell\/env.kindOf x=some .free)/\∃c,env.cells.lookup x=some c/\h.IsCell c (some u))
structure Cx.Ok(X:Cx):Prop where
 mod:Mod X.K X.mg X.base
 kind:X.env.scope.kind= .function
 glob:X.env.globals=mainGlobals
 blt:X.env.builtins=builtinsNs
 above:X.s₀.heap.objs.size<=X.env.locals
 inj:∀x y c,X.env.cells.lookup x=some c->X.env.cells.lookup y=some c->x=y
 has:∀x,(X.env.kindOf x=some .cell\/X.env.kindOf x=some .free)->∃c,X.env.cells.lookup x=some c
 yg:∀x c,X.fn x=true->X.env.cells.lookup x=some c->X.s₀.heap.objs.size<=c
 hd:X.calm=true->X.A.handled=none
 frames:X.A.frames=some X.stack
 zD:X.stack=X.outer\/(X.stack=X.env::X.outer/\X.env.frame=some X.env.locals)
 Cs:∀b∈X.ex,b≠X.env.locals/\∀x c,X.env.cells.lookup x=some c->c≠b
 bs:∀b o,X.base.get? b=some o->X.s₀.heap.get? b=some o/\X.H₀ b=none
 qz:X.base.objs.size<=X.s₀.heap.objs.size
 tE:∀b o,X.base.get? b=some o->b∉X.ex
 sR:∀b∈X.ex,b∉X.fs
 jD:X.s₀.heap.FunFrames X.base X.outer
 tY:∀b∈X.fs,X.H₀ b=none
 gt:X.prog.given.tree=none
structure Inv(X:Cx)(pins:List (Addr×Obj))(σ:List (Option V))(H:Hp)(s:Shared):Prop where
 ok:X.Ok
 os:s.os=X.s₀.os
 bare:AllBare s.gens
 base:Un X.fs X.ex X.H₀ H X.s₀.heap s.heap
 loc:∃m,s.heap.Ns X.env.locals m/\∀(i:Nat) (x:Str) (v:V),X.N[i]?=some x->σ[i]?=some (some v)->ye X.env.scope x->∃u,RelV v u/\Look X.env s.heap m x u
 cell:∀x c,X.env.cells.lookup x=some c->∃v,s.heap.IsCell c v
 free:H X.env.locals=none
 gY:∀x c,X.env.cells.lookup x=some c->H c=none
 pin:∀p∈X.pn++pins,s.heap.get? p.1=some p.2/\H p.1=none/\p.1≠X.env.locals/\p.1∉X.fs/\∀v,p.2.data≠ .cell v
 aK:gB X.prog X.w H s.heap
 len:σ.length=X.N.length
section
variable {X:Cx}{pins:List (Addr×Obj)}{σ:List (Option V)}{H H':Hp}{s:Shared}{h':Heap}
theorem Cx.Ok.Nx(ok:X.Ok){b:Addr}{o:Obj}(e:X.base.get? b=some o):b∉X.fs:=fun hb=>by
 have:=(ok.jD.mem hb).1;rw[e]at this;cases this
theorem Inv.bs(I:Inv X pins σ H s):∀b o,X.base.get? b=some o->s.heap.get? b=some o/\H b=none:=fun b o e=>
 ⟨I.base.keep b o (I.ok.bs b o e).1 (I.ok.bs b o e).2 (I.ok.Nx e) (I.ok.tE b o e),I.base.free b o (I.ok.bs b o e).1 (I.ok.bs b o e).2 (I.ok.tE b o e)⟩
theorem Inv.bk(I:Inv X pins σ H s):∀b o,X.base.get? b=some o->s.heap.get? b=some o:=fun b o e=>(I.bs b o e).1
theorem Inv.mod(I:Inv X pins σ H s):Mod X.K X.mg X.base:=I.ok.mod
theorem Inv.gc(I:Inv X pins σ H s):X.K.In s.heap:=I.ok.mod.B0.keeps I.bk
theorem Inv.nolimit(I:Inv X pins σ H s):s.heap.NoLimit:=I.ok.mod.nolimit.keeps I.bk
theorem Inv.lt(I:Inv X pins σ H s):X.env.locals<s.heap.objs.size:=let⟨_,hn,_⟩:=I.loc;hn.lt
theorem Inv.sz(I:Inv X pins σ H s):X.s₀.heap.objs.size<=s.heap.objs.size:=Nat.le_trans I.ok.above (Nat.le_of_lt I.lt)
theorem Inv.KH(I:Inv X pins σ H s){a:Addr}(h:s.heap.objs.size<=a):a∉X.fs:=fun hb=>by
 obtain⟨_,o,ho,_⟩:=I.ok.jD.mem hb;exact absurd (Nat.lt_of_lt_of_le (Heap.lt_size ho) (Nat.le_trans I.sz h)) (Nat.lt_irrefl _)
theorem Inv.xt(I:Inv X pins σ H s):∀x c,X.env.cells.lookup x=some c->c≠X.env.locals:=fun x c e z=>by
 obtain⟨v,o,ho,hd⟩:=I.cell x c e;obtain⟨m,⟨o',es,ep,ho',hd',_⟩,_⟩:=I.loc;rw[z,ho']at ho;cases ho;rw[hd']at hd;cases hd
theorem Inv.jD(I:Inv X pins σ H s):s.heap.FunFrames X.base X.outer:=by
 have all:∀(l:List Env),(∀b∈oP l,b∈X.fs)->X.s₀.heap.FunFrames X.base l->s.heap.FunFrames X.base l:=by
  intro l;induction l with
  |nil=>intro _ _;trivial
  |cons env r ih=>
   intro hs hl;obtain⟨hk,⟨L,o,hf,hn,ho,hd⟩,hr⟩:=hl;have hL:L∈X.fs:=hs L (by unfold oP;rw[List.filterMap_cons,hf];exact List.mem_cons_self);obtain⟨sl,e⟩:=I.base.slot L o ho (I.ok.tY L hL) hL fun z=>I.ok.sR L z hL;exact⟨hk,⟨L,_,hf,hn,e,hd⟩,ih (fun b hb=>hs b (by unfold oP;rw[List.filterMap_cons,hf];exact List.mem_cons_of_mem _ hb)) hr⟩
 exact all X.outer (fun _ hb=>hb) I.ok.jD
theorem Inv.stack(I:Inv X pins σ H s):s.heap.FunFrames X.base X.stack:=by
 rcases I.ok.zD with e|⟨e,hf⟩
 . rw[e];exact I.jD
 . rw[e];obtain⟨m,hn,_⟩:=I.loc;refine .cons (by rw[I.ok.kind];decide) hf hn ?_ I.jD;exact Heap.get?_none_of_le (Nat.le_trans I.ok.qz I.ok.above)
theorem Inv.xD(I:Inv X pins σ H s):∀b∈oP X.stack,b∈X.env.locals::X.fs:=fun b hb=>by
 rcases I.ok.zD with e|⟨e,hf⟩
 . rw[e]at hb;exact List.mem_cons_of_mem _ hb
 . rw[e]at hb;unfold oP at hb;rw[List.filterMap_cons,hf]at hb;exact hb
theorem Inv.vt(I:Inv X pins σ H s):∀b∈oP X.stack,H b=none:=fun b hb=>by
 rcases List.mem_cons.mp (I.xD b hb)with e|hb
 . rw[e];exact I.free
 . obtain⟨_,o,ho,_⟩:=I.ok.jD.mem hb;exact I.base.free b o ho (I.ok.tY b hb) fun z=>I.ok.sR b z hb
theorem Inv.step{g':Array GenState}{t':Nat}{d':Drawn}{ch:List Addr}(I:Inv X pins σ H s)
 (hch:∀b∈ch,(b∈X.ex\/X.s₀.heap.objs.size<=b)/\b≠X.env.locals/\(∀x c,X.env.cells.lookup x=some c->c≠b)/\∀p∈X.pn++pins,p.1≠b)
 (keep:∀b o,b≠X.env.locals->b∉X.fs->b∉ch->s.heap.get? b=some o->H b=none->h'.get? b=some o)
 (slot:∀b o,b≠X.env.locals->b∈X.fs->b∉ch->s.heap.get? b=some o->H b=none->∃sl,h'.get? b=some {o with slots:=sl}) (free:∀b o,b∉ch->s.heap.get? b=some o->H b=none->H' b=none)
 (there:∀b o,b∉ch->s.heap.get? b=some o->∃o',h'.get? b=some o')
 (oq:∀b xs,H b=some (.tup xs)->H' b=some (.tup xs)) (mV:∀b o u,H b=some (.fP o u)->H' b=some (.fP o u)) (mT:∀b ps,H b=some (.jz ps)->∃more,H' b=some (.jz (ps++more)))
 (ns:∀m,s.heap.Ns X.env.locals m->h'.Ns X.env.locals m) (aK:gB X.prog X.w H' h') (hg:AllBare g'):
 Inv X pins σ H' {s with heap:=h',gens:=g',drawn:=d',toks:=t'}:=by
 have neL:∀b o,X.s₀.heap.get? b=some o->b≠X.env.locals:=fun b o e=>Nat.ne_of_lt (Nat.lt_of_lt_of_le (Heap.lt_size e) I.ok.above)
 have neC:∀b o,X.s₀.heap.get? b=some o->b∉X.ex->b∉ch:=fun b o e hx hb=>by
  rcases(hch b hb).1 with z|z
  . exact hx z
  . exact absurd (Nat.lt_of_lt_of_le (Heap.lt_size e) z) (Nat.lt_irrefl _)
 have cellK:∀x c,X.env.cells.lookup x=some c->∀v,s.heap.IsCell c v->h'.IsCell c v:=fun x c e v ⟨o,ho,hd⟩=>by
  have nch:c∉ch:=fun z=>(hch c z).2.2.1 x c e rfl;by_cases hc:c∈X.fs
  . obtain⟨sl,q⟩:=slot c o (I.xt x c e) hc nch ho (I.gY x c e);exact⟨_,q,hd⟩
  . exact⟨o,keep c o (I.xt x c e) hc nch ho (I.gY x c e),hd⟩
 refine⟨I.ok,I.os,hg,⟨fun b o e n hb hx=>?_,fun b o e n hb hx=>?_,fun b o e n hx=>?_,fun b o e hx=>?_,fun b xs e=>oq b xs (I.base.oq b xs e),fun b o xs e=>mV b o xs (I.base.mV b o xs e),fun b ps e=>?_⟩,?_,fun x c e=>?_,?_,fun x c e=>?_,fun p hp=>?_,aK,I.len⟩
 . exact keep b o (neL b o e) hb (neC b o e hx) (I.base.keep b o e n hb hx) (I.base.free b o e n hx)
 . obtain⟨sl,e1⟩:=I.base.slot b o e n hb hx;obtain⟨sl',e2⟩:=slot b _ (neL b o e) hb (neC b o e hx) e1 (I.base.free b o e n hx);exact⟨sl',e2⟩
 . obtain⟨o',e1⟩:=I.base.there b o e hx;exact free b o' (neC b o e hx) e1 (I.base.free b o e n hx)
 . obtain⟨o',e1⟩:=I.base.there b o e hx;exact there b o' (neC b o e hx) e1
 . obtain⟨m1,e1⟩:=I.base.mT b ps e;obtain⟨m2,e2⟩:=mT b _ e1;exact⟨m1++m2,by rw[e2,Array.append_assoc]⟩
 . obtain⟨m,hn,hl⟩:=I.loc;refine⟨m,ns m hn,fun i x v e1 e2 e3=>?_⟩;obtain⟨u,r,l⟩:=hl i x v e1 e2 e3;refine⟨u,r,?_⟩;rcases l with l|⟨k,c,e,z⟩
   . exact .inl l
   . exact .inr ⟨k,c,e,cellK x c e _ z⟩
 . obtain⟨v,z⟩:=I.cell x c e;exact⟨v,cellK x c e v z⟩
 . obtain⟨m,⟨o,_,_,ho,_⟩,_⟩:=I.loc;exact free _ o (fun z=>(hch _ z).2.1 rfl) ho I.free
 . obtain⟨v,o,ho,hd⟩:=I.cell x c e;exact free c o (fun z=>(hch c z).2.2.1 x c e rfl) ho (I.gY x c e)
 . obtain⟨e,n,ne,nf,d⟩:=I.pin p hp;have nch:p.1∉ch:=fun z=>(hch p.1 z).2.2.2 p hp rfl;exact⟨keep p.1 p.2 ne nf nch e n,free p.1 p.2 nch e n,ne,nf,d⟩
theorem Inv.un{t':Nat}(I:Inv X pins σ H s)(u:Un X.fs [] H H' s.heap h')(aK:gB X.prog X.w H' h'):Inv X pins σ H' {s with heap:=h',toks:=t'}:=by
 obtain⟨m,⟨o,es,ep,ho,r⟩,_⟩:=id I.loc;obtain⟨sl,hL⟩:=u.any ho I.free (by simp)
 exact I.step (g':=s.gens) (d':=s.drawn) (ch:=[]) (fun _ z=>nomatch z) (fun b o _ hb _ e n=>u.keep b o e n hb (by simp)) (fun b o _ hb _ e n=>u.slot b o e n hb (by simp)) (fun b o _ e n=>u.free b o e n (by simp)) (fun b o _ e=>u.there b o e (by simp)) u.oq u.mV u.mT (fun m' hm=>by
  obtain⟨o',es',ep',ho',r'⟩:=hm;rw[ho]at ho';cases ho';exact⟨_,es',ep',hL,r'⟩) aK I.bare
theorem Inv.call{g':Array GenState}{t':Nat}{d':Drawn}{ch:List Addr}(I:Inv X pins σ H s)(u:Un (oP X.stack) ch H H' s.heap h')(aK:gB X.prog X.w H' h')(hg:AllBare g')
 (hch:∀b∈ch,(b∈X.ex\/X.s₀.heap.objs.size<=b)/\b≠X.env.locals/\(∀x c,X.env.cells.lookup x=some c->c≠b)/\∀p∈X.pn++pins,p.1≠b):
 Inv X pins σ H' {s with heap:=h',gens:=g',drawn:=d',toks:=t'}:=by
 obtain⟨m,⟨o,es,ep,ho,r⟩,_⟩:=id I.loc;obtain⟨sl,hL⟩:=u.any ho I.free fun z=>(hch _ z).2.1 rfl
 exact I.step (ch:=ch) hch (fun b o hL hb hc e n=>u.keep b o e n (fun z=>(List.mem_cons.mp (I.xD b z)).elim hL hb) hc) (fun b o _ _ hc e n=>u.any e n hc) (fun b o hc e n=>u.free b o e n hc) (fun b o hc e=>u.there b o e hc) u.oq u.mV u.mT (fun m' hm=>by
  obtain⟨o',es',ep',ho',r'⟩:=hm;rw[ho]at ho';cases ho';exact⟨_,es',ep',hL,r'⟩) aK hg
theorem Inv.turned{t':Nat}{it:Addr}(I:Inv X pins σ H s)(k:∀b o,b≠it->s.heap.get? b=some o->h'.get? b=some o)(hn:H it=none)(hL:it≠X.env.locals)
 (h1:it∈X.ex\/X.s₀.heap.objs.size<=it) (h2:∀x c,X.env.cells.lookup x=some c->c≠it) (h3:∀p∈X.pn++pins,p.1≠it):Inv X pins σ H {s with heap:=h',toks:=t'}:=by
 have nit:∀b u,H b=some u->b≠it:=fun b u e z=>by rw[z,hn]at e;cases e
 refine I.step (g':=s.gens) (d':=s.drawn) (ch:=[it]) (fun b hb=>?_) (fun b o _ _ hc e _=>k b o (fun z=>hc (by simp[z])) e) (fun b o _ _ hc e _=>⟨o.slots,k b o (fun z=>hc (by simp[z])) e⟩) (fun _ _ _ _ n=>n)
  (fun b o hc e=>⟨o,k b o (fun z=>hc (by simp[z])) e⟩) (fun _ _ e=>e) (fun _ _ _ e=>e) (fun b ps e=>⟨#[],by rw[e];simp⟩) (fun m hm=>?_) (fun b u e=>?_) I.bare
 . have e:b=it:=by simpa using hb
   subst e;exact⟨h1,hL,h2,h3⟩
 . obtain⟨o,es,ep,ho,r⟩:=hm;exact⟨o,es,ep,k _ o (Ne.symm hL) ho,r⟩
 . refine(I.aK b u e).kC (fun c v hc q=>k c v ?_ q) (fun _ q=>q) fun _ _ q=>q;rcases hc with z|z
   . rw[z];exact nit b u e
   . exact nit c _ z
theorem Inv.tok(I:Inv X pins σ H s)(t:Nat):Inv X pins σ H {s with toks:=t}:=I.un (h':=s.heap) (t':=t) Un.refl I.aK
theorem Inv.kept{t':Nat}(I:Inv X pins σ H s)(k:∀b u,s.heap.get? b=some u->h'.get? b=some u):Inv X pins σ H {s with heap:=h',toks:=t'}:=I.un (Un.kept k) (I.aK.kept k)
theorem Inv.laid{a:Addr}{o:HO}{t':Nat}(I:Inv X pins σ H s)(k:∀b u,s.heap.get? b=some u->h'.get? b=some u)(hp:s.heap.objs.size<=a)(new:cW X.prog X.w (upd H a o) h' a o):
 Inv X pins σ (upd H a o) {s with heap:=h',toks:=t'}:=I.un (Un.laid k hp (I.aK.fresh hp)) (I.aK.laid k hp new)
theorem Inv.write{x e:Addr}{o:HO}{t':Nat}(I:Inv X pins σ H s)(mu:Fo (H x))(he:e=x\/H e=some (.own x))(k:∀b u,b≠e->s.heap.get? b=some u->h'.get? b=some u)(heo:∃u,h'.get? e=some u)
 (new:cW X.prog X.w (upd H x o) h' x o):Inv X pins σ (upd H x o) {s with heap:=h',toks:=t'}:=I.un (Un.write mu he k heo) (I.aK.write mu he k heo new)
theorem Inv.rF{pins':List (Addr×Obj)}(I:Inv X pins σ H s)(h:∀p∈pins',s.heap.get? p.1=some p.2/\H p.1=none/\p.1≠X.env.locals/\p.1∉X.fs/\∀v,p.2.data≠ .cell v):Inv X pins' σ H s:=
 ⟨I.ok,I.os,I.bare,I.base,I.loc,I.cell,I.free,I.gY,fun p hp=>(List.mem_append.mp hp).elim (fun z=>I.pin p (List.mem_append_left _ z)) (h p),I.aK,I.len⟩
theorem x_{N:List Str}(hN:N.Nodup){i j:Nat}{x:Str}(a:N[i]?=some x)(b:N[j]?=some x):i=j:=by
 obtain⟨h1,e1⟩:=List.getElem?_eq_some_iff.mp a;obtain⟨h2,e2⟩:=List.getElem?_eq_some_iff.mp b;exact(List.getElem_inj hN).mp (e1.trans e2.symm)
theorem vG{M:Model}{A:Around}{E:Value->Shared->Prop}{i:Nat}{x:Str}{v:V}{u:Value}{Q:Unit->Shared->Prop}(I:Inv X pins σ H s)(hN:X.N.Nodup)(hi:X.N[i]?=some x)(hx:Loc X.env.scope x)(r:RelV v u)
 (h:∀s',Inv X pins (σ.set i (some v)) H s'->(∃a,Heap.SameBut a s.heap s'.heap/\(a=X.env.locals\/X.env.cells.lookup x=some a))->Q () s') (hf:X.fn x=true\/X.env.scope.names.lookup x=some .local:=by first|exact .inl rfl|exact .inr rfl|assumption):wpAny M A (storeName X.env x u) Q E s:=by
 obtain⟨m,hn,hl⟩:=id I.loc;have hcls:(X.env.scope.kind== .class||(X.env.scope.kind== .module&&X.env.locals != X.env.globals))=false:=by rw[I.ok.kind];rfl
 have hiσ:i<σ.length:=by rw[I.len];exact(List.getElem?_eq_some_iff.mp hi).1
 have xt:=I.xt
 have tracked:∀ {a:Addr} {h':Heap},(∃o,s.heap.get? a=some o/\H a=none)->Heap.SameBut a s.heap h'->gB X.prog X.w H h':=fun{a h'} ha hs b ob e=>by
  obtain⟨_,_,hfree⟩:=ha;refine(I.aK b ob e).kC (fun c w' hc q=>(hs.2 c ?_).trans q) (fun _ q=>q) fun _ _ q=>q;rintro rfl;rcases hc with rfl|hc
  . rw[hfree]at e;cases e
  . rw[hfree]at hc;cases hc
 rcases hx with hk|hk
 . refine wpAny_storeName_local hk hn (fun h' hn' hs=>?_) hcls;obtain⟨oL,_,_,hoL,_⟩:=id hn;refine h _ ⟨I.ok,I.os,I.bare,⟨fun b o e n hb hx=>?_,fun b o e n hb hx=>?_,I.base.free,fun b o e hx=>?_,I.base.oq,I.base.mV,I.base.mT⟩,⟨_,hn',fun j y v' e1 e2 e3=>?_⟩,fun y c e=>?_,I.free,I.gY,fun p hp=>?_,tracked ⟨oL,hoL,I.free⟩ hs,by simpa using I.len⟩ ⟨_,hs,.inl rfl⟩
   . exact(hs.2 b (Nat.ne_of_lt (Nat.lt_of_lt_of_le (Heap.lt_size e) I.ok.above))).trans (I.base.keep b o e n hb hx)
   . obtain⟨sl,e1⟩:=I.base.slot b o e n hb hx;exact⟨sl,(hs.2 b (Nat.ne_of_lt (Nat.lt_of_lt_of_le (Heap.lt_size e) I.ok.above))).trans e1⟩
   . obtain⟨o',e1⟩:=I.base.there b o e hx;exact⟨o',(hs.2 b (Nat.ne_of_lt (Nat.lt_of_lt_of_le (Heap.lt_size e) I.ok.above))).trans e1⟩
   . by_cases hj:j=i
     . subst hj;rw[hi]at e1;cases e1;rw[List.getElem?_set_self hiσ]at e2;cases e2;exact⟨u,r,.inl ⟨hk,by simp⟩⟩
     . rw[List.getElem?_set_ne (Ne.symm hj)]at e2;obtain⟨u',r',q⟩:=hl j y v' e1 e2 e3;refine⟨u',r',?_⟩;rcases q with⟨k,e⟩|⟨k,c,e,z⟩
       . refine .inl ⟨k,?_⟩;have:y≠x:=fun e=>hj (x_ hN e1 (e▸hi));simp[this,e]
       . exact .inr ⟨k,c,e,z.sameBut hs (xt y c e)⟩
   . obtain⟨w',z⟩:=I.cell y c e;exact⟨w',z.sameBut hs (xt y c e)⟩
   . obtain⟨e,n,ne,nf,d⟩:=I.pin p hp;exact⟨(hs.2 p.1 ne).trans e,n,ne,nf,d⟩
 . have hfn:X.fn x=true:=by
    rcases hf with z|z
    . exact z
    . rw[z]at hk;cases hk
   obtain⟨c,hc⟩:=I.ok.has x (.inl hk);obtain⟨w',z⟩:=I.cell x c hc;refine wpAny_storeName_cell I.ok.kind hk hc z (fun h' hc' hs=>?_);obtain⟨oc,hoc,hocd⟩:=id z;refine h {s with heap:=h'} ⟨I.ok,I.os,I.bare,⟨fun b o e n hb hx=>?_,fun b o e n hb hx=>?_,I.base.free,fun b o e hx=>?_,I.base.oq,I.base.mV,I.base.mT⟩,⟨m,hn.sameBut hs (Ne.symm (xt x c hc)),fun j y v' e1 e2 e3=>?_⟩,fun y c' e=>?_,I.free,I.gY,fun p hp=>?_,tracked ⟨oc,hoc,I.gY x c hc⟩ hs,by simpa using I.len⟩ ⟨c,hs,.inr hc⟩
   . exact(hs.2 b (Nat.ne_of_lt (Nat.lt_of_lt_of_le (Heap.lt_size e) (I.ok.yg x c hfn hc)))).trans (I.base.keep b o e n hb hx)
   . obtain⟨sl,e1⟩:=I.base.slot b o e n hb hx;exact⟨sl,(hs.2 b (Nat.ne_of_lt (Nat.lt_of_lt_of_le (Heap.lt_size e) (I.ok.yg x c hfn hc)))).trans e1⟩
   . obtain⟨o',e1⟩:=I.base.there b o e hx;exact⟨o',(hs.2 b (Nat.ne_of_lt (Nat.lt_of_lt_of_le (Heap.lt_size e) (I.ok.yg x c hfn hc)))).trans e1⟩
   . by_cases hj:j=i
     . subst hj;rw[hi]at e1;cases e1;rw[List.getElem?_set_self hiσ]at e2;cases e2;exact⟨u,r,.inr ⟨.inl hk,c,hc,hc'⟩⟩
     . rw[List.getElem?_set_ne (Ne.symm hj)]at e2;obtain⟨u',r',q⟩:=hl j y v' e1 e2 e3;refine⟨u',r',?_⟩;rcases q with q|⟨k,c',e,z'⟩
       . exact .inl q
       . refine .inr ⟨k,c',e,z'.sameBut hs ?_⟩;rintro rfl;exact hj (x_ hN e1 (I.ok.inj _ _ _ e hc▸hi))
   . by_cases hcc:c'=c
     . subst hcc;exact⟨_,hc'⟩
     . obtain⟨w2,z2⟩:=I.cell y c' e;exact⟨w2,z2.sameBut hs hcc⟩
   . obtain⟨e,n,ne,nf,d⟩:=I.pin p hp;refine⟨(hs.2 p.1 ?_).trans e,n,ne,nf,d⟩;intro q;rw[q,hoc]at e;have q':oc=p.2:=Option.some.inj e;exact d w' (by rw[<-q'];exact hocd)
theorem mS{M:Model}{A:Around}{E:Value->Shared->Prop}{i:Nat}{x:Str}{v:V}{u:Value}{Q:Unit->Shared->Prop}(I:Inv X pins σ H s)(hN:X.N.Nodup)(hi:X.N[i]?=some x)(hx:Loc X.env.scope x)(r:RelV v u)
 (h:∀s',Inv X pins (σ.set i (some v)) H s'->Q () s') (hf:X.fn x=true\/X.env.scope.names.lookup x=some .local:=by first|exact .inl rfl|exact .inr rfl|assumption):wpAny M A (storeName X.env x u) Q E s:=
 vG I hN hi hx r (fun s' I' _=>h s' I') hf
theorem Inv.A_{s':Shared}{ch:List Addr}(I:Inv X pins σ H s)(ho:s'.os=s.os)(u:Un (oP X.stack) ch H H' s.heap s'.heap)(aK:gB X.prog X.w H' s'.heap)(hg:AllBare s'.gens)
 (hch:∀b∈ch,(b∈X.ex\/X.s₀.heap.objs.size<=b)/\b≠X.env.locals/\(∀x c,X.env.cells.lookup x=some c->c≠b)/\∀p∈X.pn++pins,p.1≠b):Inv X pins σ H' s':=by
 obtain⟨h',g',d',t',o'⟩:=s';have e:o'=s.os:=ho;subst e;exact I.call (g':=g') (t':=t') (d':=d') u aK hg hch
end
abbrev XK:=Value->Option Addr->Hp->Prop
abbrev St:=List (Option V)
abbrev VK:=V->Hp->Prop
abbrev TE:=St->Hp->VK->Prop
abbrev TT:=St->Hp->(Bool->Hp->Prop)->Prop
abbrev TA:=St->Hp->(List V->Hp->Prop)->Prop
structure Ends where
 nx:St->Hp->Prop
 rt:VK
 bk:St->Hp->Prop:=fun _ _=>False
 ct:St->Hp->Prop:=fun _ _=>False
abbrev TS:=Ends->St->Hp->Prop
def EP(X:Cx)(pins:List (Addr×Obj))(σ:St)(Q:VK)(u:Value)(s':Shared):Prop:=∃v H',Inv X pins σ H' s'/\RelV v u/\Q v H'
def TP(X:Cx)(pins:List (Addr×Obj))(σ:St)(Q:Bool->Hp->Prop)(b:Bool)(s':Shared):Prop:=∃H',Inv X pins σ H' s'/\Q b H'
def AP(X:Cx)(pins:List (Addr×Obj))(σ:St)(Q:List V->Hp->Prop)(us:List Value)(s':Shared):Prop:=∃vs H',Inv X pins σ H' s'/\Vals vs us/\Q vs H'
def SP(X:Cx)(pins:List (Addr×Obj))(D:Ends)(f:Flow)(s':Shared):Prop:=
 match f with
 | .next=>∃σ' H',Inv X pins σ' H' s'/\D.nx σ' H'
 | .brk=>∃σ' H',Inv X pins σ' H' s'/\D.bk σ' H'
 | .cont=>∃σ' H',Inv X pins σ' H' s'/\D.ct σ' H'
 | .ret u=>∃v σ' H',Inv X pins σ' H' s'/\RelV v u/\D.rt v H'
def PE(X:Cx)(e:Expr)(t:TE):Prop:=
 ∀(pins:List (Addr×Obj)) (s:Shared) (σ:St) (H:Hp) (Q:VK),Inv X pins σ H s->t σ H Q->wpAny (model X.prog X.w) X.A (eval e X.env) (EP X pins σ Q) X.xe s
def PT(X:Cx)(e:Expr)(t:TT):Prop:=
 ∀(pins:List (Addr×Obj)) (s:Shared) (σ:St) (H:Hp) (Q:Bool->Hp->Prop),Inv X pins σ H s->t σ H Q->wpAny (model X.prog X.w) X.A (isTrue e X.env (eval e X.env)) (TP X pins σ Q) X.xe s
def PW(X:Cx)(e:Expr)(t:TT):Prop:=
 ∀(whole:Sem Value) (pins:List (Addr×Obj)) (s:Shared) (σ:St) (H:Hp) (Q:Bool->Hp->Prop),Inv X pins σ H s->t σ H Q->wpAny (model X.prog X.w) X.A (isTrue e X.env whole) (TP X pins σ Q) X.xe s
theorem PW.pt{X:Cx}{e:Expr}{t:TT}(h:PW X e t):PT X e t:=h _
def PA(X:Cx)(es:List Expr)(t:TA):Prop:=
 ∀(pos:Pos) (pins:List (Addr×Obj)) (s:Shared) (σ:St) (H:Hp) (Q:List V->Hp->Prop),Inv X pins σ H s->t σ H Q->wpAny (model X.prog X.w) X.A (spliced (backTo pos (starEach es X.env))) (AP X pins σ Q) X.xe s
def PS(X:Cx)(st:Stmt)(t:TS):Prop:=
 ∀(pins:List (Addr×Obj)) (s:Shared) (σ:St) (H:Hp) (D:Ends),Inv X pins σ H s->t D σ H->wpAny (model X.prog X.w) X.A (exec st X.env) (SP X pins D) X.xe s
def gd(X:Cx)(st:List Stmt)(t:TS):Prop:=
 ∀(pins:List (Addr×Obj)) (s:Shared) (σ:St) (H:Hp) (D:Ends),Inv X pins σ H s->t D σ H->wpAny (model X.prog X.w) X.A (execs st X.env) (SP X pins D) X.xe s
theorem bL{α:Type}{t:Sem α}{Q Q':α->Shared->Prop}{M:Model}{A:Around}{E:Value->Shared->Prop}{s:Shared}(h:wpAny M A t Q E s)(hQ:∀a s,Q a s->Q' a s):wpAny M A t Q' E s:=wpAny_mono h hQ fun _ _ x=>x
section
variable {X:Cx}
def Kb(i:Nat):TE:=fun σ H Q=>∃v,σ[i]?=some (some v)/\Q v H
def tC(v:V):TE:=fun _ H Q=>Q v H
theorem J4{i:Nat}{x:Str}{pos:Pos}(hN:X.N[i]?=some x)(hv:ye X.env.scope x)(hd:(x==("__debug__":Str))=false:=by decide)(hcd:(x==("__classdict__":Str))=false:=by decide):PE X (.Name x pos) (Kb i):=by
 intro pins s σ H Q I h;obtain⟨v,e,h⟩:=h;obtain⟨m,hn,hl⟩:=I.loc;obtain⟨u,r,l⟩:=hl i x v hN e hv;have fin:EP X pins σ Q u s:=⟨v,H,I,r,h⟩
 rcases l with⟨hk,hm⟩|⟨hk,c,hc,hcell⟩
 . exact wpAny_Name (wpAny_loadName_local I.ok.kind hk hn hm fin) hd
 . rcases hk with hk|hk
   . exact wpAny_Name (wpAny_loadName_cell I.ok.kind hk hc hcell fin) hd
   . exact wpAny_Name (wpAny_loadName_free I.ok.kind hk hc hcell fin hcd) hd
theorem JD{i j pos}:PE X (.Constant (.int i) j pos) (tC (.int i)):=fun _ _ _ H _ I h=>wpAny_Constant_int ⟨.int i,H,I.tok _,⟨_,rfl⟩,h⟩
theorem Lu{b j pos}:PE X (.Constant (.bool b) j pos) (tC (.bl b)):=fun _ _ _ H _ I h=>Constant_bool ⟨.bl b,H,I,rfl,h⟩
theorem IB{j pos}:PE X (.Constant .none j pos) (tC .aE):=fun _ _ _ H _ I h=>Constant_none ⟨.aE,H,I,rfl,h⟩
theorem IG{x j pos}:PE X (.Constant (.str x) j pos) (tC (.str x)):=fun _ _ _ H _ I h=>Calls.Constant_str ⟨.str x,H,I.tok _,⟨_,rfl⟩,h⟩
def Gl(X:Cx)(x:Str):Prop:=X.env.kindOf x=some .globalImplicit
theorem zS{E:Value->Shared->Prop}{pins:List (Addr×Obj)}{s:Shared}{σ:St}{H:Hp}{x:Str}{u:Value}{pos:Pos}{Q:Value->Shared->Prop}(I:Inv X pins σ H s)(hg:Gl X x)(hm:X.mg x=some u)(h:Q u s)
 (hd:(x==("__debug__":Str))=false:=by decide):wpAny (model X.prog X.w) X.A (eval (.Name x pos) X.env) Q E s:=
 Calls.Name_function_global I.ok.kind hg (Calls.loadGlobal_global (by rw[I.ok.glob];exact I.mod.glob.keeps I.bk) hm h) hd
theorem jN{E:Value->Shared->Prop}{pins:List (Addr×Obj)}{s:Shared}{σ:St}{H:Hp}{x:Str}{u:Value}{pos:Pos}{Q:Value->Shared->Prop}(I:Inv X pins σ H s)(hg:Gl X x)(hm:X.mg x=none)(hv:bootBuiltins x=some u)(h:Q u s)
 (hn:x≠"__name__":=by decide) (hd:(x==("__debug__":Str))=false:=by decide):wpAny (model X.prog X.w) X.A (eval (.Name x pos) X.env) Q E s:=by
 obtain⟨mb,h1,h2⟩:=I.mod.blt;exact Calls.Name_function_global I.ok.kind hg (Calls.loadGlobal_builtin (by rw[I.ok.glob];exact I.mod.glob.keeps I.bk) hm (by rw[I.ok.blt];exact h1.keeps I.bk) ((h2 x hn).trans hv) h) hd
theorem Gm{x:Str}{v:V}{u:Value}{pos:Pos}(hg:Gl X x)(hm:X.mg x=none)(hv:bootBuiltins x=some u)(r:RelV v u)(hn:x≠"__name__":=by decide)(hd:(x==("__debug__":Str))=false:=by decide):PE X (.Name x pos) (tC v):=
 fun _ _ _ H _ I h=>jN I hg hm hv ⟨v,H,I,r,h⟩ hn hd
variable {a b:Expr}{ta tb:TE}{pos:Pos}
def tB(t:TE):TT:=fun σ H Q=>t σ H fun x H1=>∃c,x= .bl c/\Q c H1
theorem Ie{e:Expr}{t:TE}(h:PE X e t)(he:∀whole,isTrue e X.env whole=(do let v <-whole;standAt e.pos;holding [v] (truthy v)):=by intro _;rfl):PT X e (tB t):=by
 intro pins s σ H Q I hw;refine isTrue_plain (bL (h pins s σ H _ I hw) fun v s1 ⟨x,H1,I1,r1,q1⟩=>?_) (he _);obtain⟨d,rfl,q⟩:=q1;cases r1;exact wpAny_truthy_bool ⟨H1,I1,q⟩
variable {tA tB':TT}{rest:List Expr}
def JH(t u:TT):TT:=fun σ H Q=>t σ H fun c H1=>if c=true then u σ H1 Q else Q false H1
def MS(t u:TT):TT:=fun σ H Q=>t σ H fun c H1=>if c=true then Q true H1 else u σ H1 Q
def MX(t:TT):TT:=fun σ H Q=>t σ H fun c H1=>Q (!c) H1
theorem pw_and1(ha:PT X a tA):PW X (.BoolOp .And [a] pos) tA:=by
 intro wh pins s σ H Q I h;refine isTrue_and (bL (ha pins s σ H Q I h) fun c s1 e=>?_);cases c with
 |true=>exact isTrue_and_nil e
 |false=>exact e
theorem pw_or1(ha:PT X a tA):PW X (.BoolOp .Or [a] pos) tA:=by
 intro wh pins s σ H Q I h;refine isTrue_or (bL (ha pins s σ H Q I h) fun c s1 e=>?_);cases c with
 |false=>exact isTrue_or_nil e
 |true=>exact e
theorem pw_and(ha:PT X a tA)(hb:PW X (.BoolOp .And (b::rest) pos) tB'):PW X (.BoolOp .And (a::b::rest) pos) (JH tA tB'):=by
 intro wh pins s σ H Q I h;refine isTrue_and (bL (ha pins s σ H _ I h) fun c s1 ⟨H1,I1,q1⟩=>?_);cases c with
 |true=>exact hb wh pins s1 σ H1 Q I1 q1
 |false=>exact⟨H1,I1,q1⟩
theorem pw_or(ha:PT X a tA)(hb:PW X (.BoolOp .Or (b::rest) pos) tB'):PW X (.BoolOp .Or (a::b::rest) pos) (MS tA tB'):=by
 intro wh pins s σ H Q I h;refine isTrue_or (bL (ha pins s σ H _ I h) fun c s1 ⟨H1,I1,q1⟩=>?_);cases c with
 |true=>exact⟨H1,I1,q1⟩
 |false=>exact hb wh pins s1 σ H1 Q I1 q1
theorem J3(ha:PT X a tA):PT X (.UnaryOp .Not a pos) (MX tA):=by
 intro pins s σ H Q I h;exact isTrue_not (ha pins s σ H (fun c H1=>Q (!c) H1) I h)
def K2(ta tb:TE):TE:=fun σ H Q=>ta σ H fun x H1=>∃c,x= .bl c/\if c=true then tb σ H1 Q else Q (.bl false) H1
def Mf(ta:TE):TE:=fun σ H Q=>ta σ H fun x H1=>∃c,x= .bl c/\Q (.bl (!c)) H1
theorem Ia{op}{t:TE}(h:PE X a t):PE X (.BoolOp op [a] pos) t:=fun pins s σ H Q I hw=>BoolOp_one (h pins s σ H Q I hw)
theorem Kf(ha:PE X a ta)(hb:PE X (.BoolOp .And (b::rest) pos) tb):PE X (.BoolOp .And (a::b::rest) pos) (K2 ta tb):=by
 intro pins s σ H Q I h;refine BoolOp_and (bL (ha pins s σ H _ I h) fun v s1 ⟨x,H1,I1,r1,q1⟩=>?_);obtain⟨c,rfl,q1⟩:=q1;cases r1;refine wpAny_truthy_bool ?_;cases c with
 |true=>exact hb pins s1 σ H1 Q I1 q1
 |false=>exact⟨.bl false,H1,I1,rfl,q1⟩
theorem Jg(ha:PE X a ta):PE X (.UnaryOp .Not a pos) (Mf ta):=by
 intro pins s σ H Q I h;refine UnaryOp_ (bL (ha pins s σ H _ I h) fun v s1 ⟨x,H1,I1,r1,q1⟩=>?_);obtain⟨c,rfl,q1⟩:=q1;cases r1;exact not_of (wpAny_truthy_bool ⟨.bl (!c),H1,I1,rfl,q1⟩)
def NX(t:TT)(ta tb:TE):TE:=fun σ H Q=>t σ H fun c H1=>if c=true then ta σ H1 Q else tb σ H1 Q
theorem Eo{c:Expr}(hc:PT X c tA)(ha:PE X a ta)(hb:PE X b tb):PE X (.IfExp c a b pos) (NX tA ta tb):=by
 intro pins s σ H Q I h;refine wpAny_IfExp (bL (hc pins s σ H _ I h) fun d s1 ⟨H1,I1,q1⟩=>?_);cases d with
 |true=>exact ha pins s1 σ H1 Q I1 q1
 |false=>exact hb pins s1 σ H1 Q I1 q1
end
def lI(K:PySem.W.Frag)(H:Hp)(a:Addr)(xs:List V):Prop:=
 Rd H a (.lst xs)\/
  ∃(o:Obj) (aq:Array Value) (n:Nat),K.lookup a=some o/\o.cls= .type "list"/\o.dict=none/\o.data= .seq aq n/\aq.size<=sizeLine/\Vals xs aq.toList
def hJ(K:PySem.W.Frag)(H:Hp)(a:Addr)(xs:List V):Prop:=
 Rd H a (.tup xs)\/
  ∃(o:Obj) (aq:Array Value) (n:Nat),K.lookup a=some o/\o.cls= .type "tuple"/\o.data= .seq aq n/\aq.size<=sizeLine/\Vals xs aq.toList
def MY:Value->Option V
 | .none=>some .aE
 | .bool b=>some (.bl b)
 | .int i _=>some (.int i)
 | .str x _=>some (.str x)
 | .bytes b _=>some (.sA b)
 | .float b _=>some (.sh b)
 | .ref a=>some (.ref a)
 | .type n=>some (.ty n)
 |_=>none
theorem RelV.abs{x:V}{u:Value}(r:RelV x u):MY u=some x:=by
 cases x with
 |aE=>cases r;rfl
 |bl _=>cases r;rfl
 |int _=>obtain⟨t,rfl⟩:=r;rfl
 |str _=>obtain⟨t,rfl⟩:=r;rfl
 |sA _=>obtain⟨t,rfl⟩:=r;rfl
 |sh _=>obtain⟨t,rfl⟩:=r;rfl
 |ref _=>cases r;rfl
 |ty _=>cases r;rfl
theorem RelV.inj{x y:V}{u:Value}(r:RelV x u)(q:RelV y u):x=y:=Option.some.inj (r.abs.symm.trans q.abs)
theorem Vals.inj:∀ {xs ys:List V} {us:List Value},Vals xs us->Vals ys us->xs=ys
 |_,_,_,.nil,.nil=>rfl
 |_,_,_,.cons r t,.cons r' t'=>by rw[r.inj r',Vals.inj t t']
section
variable {X:Cx}{pins:List (Addr×Obj)}{σ:St}{H:Hp}{s:Shared}{a:Addr}{xs ys:List V}
theorem lI.of{K:PySem.W.Frag}(h:H a=some (.lst xs)):lI K H a xs:= .inl (.inl h)
theorem hJ.of{K:PySem.W.Frag}(h:H a=some (.tup xs)):hJ K H a xs:= .inl (.inl h)
theorem Inv.list(I:Inv X pins σ H s)(h:lI X.K H a xs):∃aq:List Value,Vals xs aq/\PlainL s.heap a aq.toArray/\xs.length<=sizeLine:=by
 rcases h with h|⟨o,aq,n,hk,hc,hd,hs,hz,r⟩
 . obtain⟨z,aq,n,r,e⟩:=h.ok I.aK;exact⟨aq,r,⟨_,n,e,rfl,rfl,rfl⟩,z⟩
 . refine⟨aq.toList,r,⟨o,n,I.gc a o hk,hc,hd,by simpa using hs⟩,?_⟩;have e:=r.length;simp only[Array.length_toList]at e;omega
theorem Inv.tuple(I:Inv X pins σ H s)(h:hJ X.K H a xs):∃aq:List Value,Vals xs aq/\IsTup s.heap a aq.toArray/\xs.length<=sizeLine:=by
 rcases h with h|⟨o,aq,n,hk,hc,hs,hz,r⟩
 . obtain⟨z,aq,r,p⟩:=h.ok I.aK;exact⟨aq,r,p,z⟩
 . refine⟨aq.toList,r,⟨o,I.gc a o hk,hc,n,by simpa using hs⟩,?_⟩;have e:=r.length;simp only[Array.length_toList]at e;omega
theorem Inv.x9(I:Inv X pins σ H s)(h:lI X.K H a xs)(h':lI X.K H a ys):xs=ys:=by
 obtain⟨aq,r,⟨o,n,e,_,_,d⟩,_⟩:=I.list h;obtain⟨its',r',⟨o',n',e',_,_,d'⟩,_⟩:=I.list h';rw[e]at e';cases e';rw[d]at d';injection d' with d1 _;have:aq=its':=by simpa using congrArg Array.toList d1
 subst this;exact r.inj r'
theorem Inv.vW(I:Inv X pins σ H s)(h:hJ X.K H a xs)(h':hJ X.K H a ys):xs=ys:=by
 obtain⟨aq,r,⟨o,e,_,n,d⟩,_⟩:=I.tuple h;obtain⟨its',r',⟨o',e',_,n',d'⟩,_⟩:=I.tuple h';rw[e]at e';cases e';rw[d]at d';injection d' with d1 _;have:aq=its':=by simpa using congrArg Array.toList d1
 subst this;exact r.inj r'
end
abbrev Cx.oo(X:Cx)(E:Value->Shared->Prop):Cx:={X with xe:=E}
abbrev Cx.uw(X:Cx):Cx:=X.oo fun _ _=>False
theorem Cx.Ok.oo{X:Cx}(ok:X.Ok)(E:Value->Shared->Prop):(X.oo E).Ok:=
 ⟨ok.mod,ok.kind,ok.glob,ok.blt,ok.above,ok.inj,ok.has,ok.yg,ok.hd,ok.frames,ok.zD,ok.Cs,ok.bs,ok.qz,ok.tE,ok.sR,ok.jD,ok.tY,ok.gt⟩
theorem Cx.Ok.lu{X:Cx}{E:Value->Shared->Prop}(ok:(X.oo E).Ok):X.Ok:=
 ⟨ok.mod,ok.kind,ok.glob,ok.blt,ok.above,ok.inj,ok.has,ok.yg,ok.hd,ok.frames,ok.zD,ok.Cs,ok.bs,ok.qz,ok.tE,ok.sR,ok.jD,ok.tY,ok.gt⟩
section
variable {X:Cx}{pins:List (Addr×Obj)}{σ:St}{H:Hp}{s:Shared}{E:Value->Shared->Prop}
theorem Inv.oo(I:Inv X pins σ H s)(E:Value->Shared->Prop):Inv (X.oo E) pins σ H s:=⟨I.ok.oo E,I.os,I.bare,I.base,I.loc,I.cell,I.free,I.gY,I.pin,I.aK,I.len⟩
theorem Inv.lu(I:Inv (X.oo E) pins σ H s):Inv X pins σ H s:=⟨I.ok.lu,I.os,I.bare,I.base,I.loc,I.cell,I.free,I.gY,I.pin,I.aK,I.len⟩
theorem SP.lu{D:Ends}{f:Flow}{s':Shared}(h:SP (X.oo E) pins D f s'):SP X pins D f s':=by
 cases f with
 |next=>obtain⟨σ',H',I,q⟩:=h;exact⟨σ',H',I.lu,q⟩
 |brk=>obtain⟨σ',H',I,q⟩:=h;exact⟨σ',H',I.lu,q⟩
 |cont=>obtain⟨σ',H',I,q⟩:=h;exact⟨σ',H',I.lu,q⟩
 |ret u=>obtain⟨v,σ',H',I,r,q⟩:=h;exact⟨v,σ',H',I.lu,r,q⟩
theorem gd.uw{st:List Stmt}{t:TS}(h:gd X.uw st t):gd X st t:=fun pins s σ H D I hw=>
 wpAny_mono (h pins s σ H D (I.oo _) hw) (fun _ _ q=>q.lu) fun _ _ z=>False.elim z
end
section
variable {X:Cx}{st:Stmt}{rest:List Stmt}{t u:TS}{e:Expr}{te:TE}{pos:Pos}
def Lj:TS:=fun D σ H=>D.nx σ H
def MU(t u:TS):TS:=fun D σ H=>t {D with nx:=u D} σ H
theorem Gz:gd X [] Lj:=fun _ _ σ H _ I h=>wpAny_execs_nil ⟨σ,H,I,h⟩
theorem EH(h1:PS X st t)(h2:gd X rest u):gd X (st::rest) (MU t u):=by
 intro pins s σ H D I h;refine wpAny_execs_cons (bL (h1 pins s σ H {D with nx:=u D} I h) fun f s1 q=>?_);cases f with
 |next=>
  obtain⟨σ',H',I',q⟩:=q;exact h2 pins s1 σ' H' D I' q
 |ret v=>exact q
 |brk=>exact q
 |cont=>exact q
theorem He(h1:PS X st t):gd X [st] t:=by
 intro pins s σ H D I h;refine wpAny_execs_cons (bL (h1 pins s σ H D I h) fun f s1 q=>?_);cases f with
 |next=>exact wpAny_execs_nil q
 |ret v=>exact q
 |brk=>exact q
 |cont=>exact q
theorem Inv.quiet{pins:List (Addr×Obj)}{σ:St}{H:Hp}{s:Shared}(I:Inv X pins σ H s):interactive X.env=false:=by simp[interactive,I.ok.kind]
def LM(te:TE):TS:=fun D σ H=>te σ H fun _ H1=>D.nx σ H1
theorem Gb(he:PE X e te)(hs:swapsWith e none pos.line X.env=pure false:=by rfl):PS X (.Expr e pos) (LM te):=by
 intro pins s σ H D I h;exact wpAny_Expr_any (bL (he pins s σ H _ I h) fun v s1 ⟨x,H1,I1,r1,q1⟩=>⟨σ,H1,I1,q1⟩) I.quiet hs
def NA(te:TE):TS:=fun D σ H=>te σ H D.rt
theorem Ks(he:PE X e te):PS X (.Return (some e) pos) (NA te):=by
 intro pins s σ H D I h;exact wpAny_Return_some (bL (he pins s σ H _ I h) fun v s1 ⟨x,H1,I1,r1,q1⟩=>⟨x,σ,H1,I1,r1,q1⟩)
def Nd(c:TT)(t u:TS):TS:=fun D σ H=>c σ H fun b H1=>if b=true then t D σ H1 else u D σ H1
theorem Le{c:Expr}{a b:List Stmt}{tc:TT}(hc:PT X c tc)(ha:gd X a t)(hb:gd X b u):PS X (.If c a b pos) (Nd tc t u):=by
 intro pins s σ H D I h;refine wpAny_If (bL (hc pins s σ H _ I h) fun d s1 ⟨H1,I1,q1⟩=>?_);cases d with
 |true=>exact ha pins s1 σ H1 D I1 q1
 |false=>exact hb pins s1 σ H1 D I1 q1
end
abbrev TG:=V->St->Hp->(St->Hp->Prop)->Prop
abbrev xR:=List V->St->Hp->(St->Hp->Prop)->Prop
def PG(X:Cx)(target:Expr)(t:TG):Prop:=
 ∀(pins:List (Addr×Obj)) (s:Shared) (σ:St) (H:Hp) (v:V) (u:Value) (Q:St->Hp->Prop),Inv X pins σ H s->RelV v u->t v σ H Q->
  wpAny (model X.prog X.w) X.A (assign target X.env u) (fun _ s'=>∃σ' H',Inv X pins σ' H' s'/\Q σ' H') X.xe s
def FG(X:Cx)(ts:List Expr)(t:xR):Prop:=
 ∀(pins:List (Addr×Obj)) (s:Shared) (σ:St) (H:Hp) (vs:List V) (us:List Value) (Q:St->Hp->Prop),Inv X pins σ H s->Vals vs us->t vs σ H Q->
  wpAny (model X.prog X.w) X.A (assignInOrder ((assignEach ts X.env).map (·.2)) us) (fun _ s'=>∃σ' H',Inv X pins σ' H' s'/\Q σ' H') X.xe s
abbrev DP:=V->V->V->Hp->(Hp->Prop)->Prop
def Kh(X:Cx)(t:DP):Prop:=
 ∀(pins:List (Addr×Obj)) (s:Shared) (σ:St) (H:Hp) (o i v:V) (ov iv u:Value) (Q:Hp->Prop),Inv X pins σ H s->RelV o ov->RelV i iv->RelV v u->t o i v H Q->
  wpAny (model X.prog X.w) X.A (setItem ov iv u) (fun _ s'=>∃H',Inv X pins σ H' s'/\Q H') X.xe s
abbrev Fv:=V->V->Hp->VK->Prop
def Ij(X:Cx)(op:Operator)(t:Fv):Prop:=
 ∀(pins:List (Addr×Obj)) (s:Shared) (σ:St) (H:Hp) (x y:V) (v u:Value) (Q:VK),Inv X pins σ H s->RelV x v->RelV y u->t x y H Q->
  wpAny (model X.prog X.w) X.A (inplaceOp op v u) (EP X pins σ Q) X.xe s
section
variable {X:Cx}{pos:Pos}
def mi(i:Nat):TG:=fun v σ H Q=>Q (σ.set i (some v)) H
theorem uV{i:Nat}{x:Str}(hN:X.N.Nodup)(hi:X.N[i]?=some x)(hx:Loc X.env.scope x)(hf:X.fn x=true\/X.env.scope.names.lookup x=some .local:=by first|exact .inl rfl|exact .inr rfl|assumption):PG X (.Name x pos) (mi i):=by
 intro pins s σ H v u Q I r h;exact wpAny_assign_Name (mS I hN hi hx r (fun s' I'=>⟨_,H,I',h⟩) hf)
def J8:xR:=fun vs σ H Q=>vs=[]/\Q σ H
def AO(t:TG)(u:xR):xR:=fun vs σ H Q=>∃v r,vs=v::r/\t v σ H fun σ' H'=>u r σ' H' Q
theorem GW:FG X [] J8:=by
 intro pins s σ H vs us Q I r h;obtain⟨e,h⟩:=h;subst e;cases r;exact assignInOrder_nil ⟨σ,H,I,h⟩
theorem w_{e:Expr}{es:List Expr}{t:TG}{u:xR}(h1:PG X e t)(h2:FG X es u)
 (hs:(assignEach (e::es) X.env).map (·.2)=assign e X.env::(assignEach es X.env).map (·.2):=by rfl):FG X (e::es) (AO t u):=by
 intro pins s σ H vs us Q I r h;obtain⟨v,vr,e1,h⟩:=h;subst e1;cases r with
 |cons r rr=>
  rw[hs];refine assignInOrder_cons (bL (h1 pins s σ H _ _ _ I r h) fun _ s1 ⟨σ1,H1,I1,q1⟩=>?_);exact h2 pins s1 σ1 H1 _ _ Q I1 rr q1
def Jk(K:PySem.W.Frag)(n:Nat)(t:xR):TG:=fun v σ H Q=>∃a xs,v= .ref a/\hJ K H a xs/\xs.length=n/\t xs σ H Q
theorem Ju{es:List Expr}{k:Nat}{t:xR}{n:Nat}(hc:X.calm=true)(h:FG X es t)
 (hn:(assignEach es X.env).length=n:=by rfl) (hst:(assignEach es X.env).findIdx? (·.1)=none:=by rfl):PG X (.Tuple es k pos) (Jk X.K n t):=by
 intro pins s σ H v u Q I r hw;obtain⟨a,xs,e1,hq,hl,hw⟩:=hw;subst e1;cases r;obtain⟨aq,rv,ht,hz⟩:=I.tuple hq;refine assign_Tuple_tuple (I.ok.hd hc) ht (by simp[hn,<-hl,rv.length]) hst fun h' hx=>?_;have I1:Inv X pins σ H {s with heap:=h'}:=I.kept (t':=s.toks) fun b o e=>hx b o (Nat.ne_of_lt (Heap.lt_size e)) e;exact h pins _ σ H xs _ Q I1 (by simpa using rv) hw
def AX(to ti:TE)(t:DP):TG:=fun v σ H Q=>to σ H fun o H1=>ti σ H1 fun i H2=>t o i v H2 fun H3=>Q σ H3
theorem Jr{o i:Expr}{to ti:TE}{t:DP}(ho:PE X o to)(hi:PE X i ti)(hs:Kh X t)
 (ha:∀v,assign (.Subscript o i pos) X.env v=(do
   let ov <-holding [v] (eval o X.env)
   let iv <-holding [v,ov] (eval i X.env)
   standAt pos
   holding [v,ov,iv] (setItem ov iv v)
   release [v,ov,iv] []):=by intro _;rfl):PG X (.Subscript o i pos) (AX to ti t):=by
 intro pins s σ H v u Q I r h;rw[ha];refine wpAny_bind (wpAny_holding (bL (ho pins s σ H _ I h) fun ov s1 ⟨x,H1,I1,r1,q1⟩=>?_));refine wpAny_bind (wpAny_holding (bL (hi pins s1 σ H1 _ I1 q1) fun iv s2 ⟨y,H2,I2,r2,q2⟩=>?_));refine wpAny_bind (wpAny_standAt (wpAny_bind (wpAny_holding (bL (hs pins s2 σ H2 x y v ov iv u _ I2 r1 r2 r q2) fun _ s3 ⟨H3,I3,q3⟩=>?_))));exact wpAny_release ⟨σ,H3,I3,q3⟩
def pq(te:TE)(g:TG):TS:=fun D σ H=>te σ H fun x H1=>g x σ H1 D.nx
theorem IE{tg e:Expr}{te:TE}{g:TG}(he:PE X e te)(hg:PG X tg g)(hs:swapsWithSole [tg] e pos.line X.env=pure false:=by rfl)(hw:swappedStores [tg] e X.env=pure none:=by rfl)
 (h1:(assignEach [tg] X.env).map (·.2)=[assign tg X.env]:=by rfl):PS X (.Assign [tg] e pos) (pq te g):=by
 intro pins s σ H D I h;refine wpAny_Assign_stores (bL (he pins s σ H _ I h) fun v s1 ⟨x,H1,I1,r1,q1⟩=>?_) hs hw;rw[h1];exact bL (hg pins s1 σ H1 x v _ I1 r1 q1) fun _ s2 q=>q
theorem Je{i:Nat}{x:Str}{e:Expr}{te:TE}{pos':Pos}(hN:X.N.Nodup)(hi:X.N[i]?=some x)(hx:Loc X.env.scope x)(he:PE X e te)(hs:swapsWith e (some (.Name x pos')) pos.line X.env=pure false:=by rfl)(hf:X.fn x=true\/X.env.scope.names.lookup x=some .local:=by first|exact .inl rfl|exact .inr rfl|assumption):
 PS X (.Assign [.Name x pos'] e pos) (pq te (mi i)):=by
 intro pins s σ H D I h;refine wpAny_Assign_Name (bL (he pins s σ H _ I h) fun v s1 ⟨y,H1,I1,r1,q1⟩=>?_) hs;exact mS I1 hN hi hx r1 (fun s2 I2=>⟨_,H1,I2,q1⟩) hf
def IM(i j:Nat)(ta:TA):TS:=fun D σ H=>ta σ H fun vs H1=>∃v w,vs=[v,w]/\D.nx ((σ.set i (some v)).set j (some w)) H1
theorem Jo{i j:Nat}{x y:Str}{a b:Expr}{ta:TA}{px py pt:Pos}{kt k2 pt2}(hc:X.calm=true)(hN:X.N.Nodup)(hi:X.N[i]?=some x)(hj:X.N[j]?=some y)(hij:i≠j)
 (hx:X.env.scope.names.lookup x=some .local) (hy:X.env.scope.names.lookup y=some .local) (ha:PA X [a,b] ta)
 (hw:swappedStores [.Tuple [.Name x px,.Name y py] kt pt] (.Tuple [a,b] k2 pt2) X.env=pure (some [x,y]))
 (hs:swapsWithSole [.Tuple [.Name x px,.Name y py] kt pt] (.Tuple [a,b] k2 pt2) pos.line X.env=pure false:=by rfl):
 PS X (.Assign [.Tuple [.Name x px,.Name y py] kt pt] (.Tuple [a,b] k2 pt2) pos) (IM i j ta):=by
 intro pins s σ H D I h;rw[exec_Assign_arm];refine wpAny_bind (wpAny_standAt ?_);rw[hs];refine wpAny_bind (wpAny_pure ?_);rw[if_neg (by decide)];refine wpAny_bind (Tuple_ (bL (ha _ pins s σ H _ I h) fun us s1 ⟨vs,H1,I1,r1,q1⟩=>?_));obtain⟨v,w,e1,q1⟩:=q1;subst e1
 obtain⟨u1,u2,rfl,rv,rw'⟩:∃u1 u2,us=[u1,u2]/\RelV v u1/\RelV w u2:=by
  cases r1 with
  |cons p q=>
   cases q with
   |cons p' q'=>
    cases q';exact⟨_,_,rfl,p,p'⟩
 refine wpAny_newObj_type ?_ (by show 2<=sizeLine;decide);have I2:Inv X pins σ H1 {s1 with heap:=s1.heap.push {cls:= .type "tuple",data:= .seq [u1,u2].toArray}}:=I1.kept (t':=s1.toks) fun b o e=>Heap.get?_push_of_some _ e;rw[hw];refine wpAny_bind (wpAny_pure ?_);show wpAny (model X.prog X.w) X.A (do rule "assign.swapped-stores";let items <-unpackItems (.ref s1.heap.objs.size) 2 none;assignInOrder [fun v=>bindName X.env y v,fun v=>bindName X.env x v] items.reverse;pure Flow.next) _ _ _;refine wpAny_bind (wpAny_rule (wpAny_bind (unpackItems_tuple (items:= #[u1,u2]) (I.ok.hd hc) (IsTup.new s1.heap _) fun h' hx'=>?_)));have I3:=I2.kept (h':=h') (t':=s1.toks) fun b o e=>hx' b o (Nat.ne_of_lt (Heap.lt_size e)) e;show wpAny _ _ (assignInOrder [fun v=>bindName X.env y v,fun v=>bindName X.env x v] [u2,u1] >>= fun _=>pure Flow.next) _ _ _;refine wpAny_bind (assignInOrder_cons (wpAny_bindName (mS I3 hN hj (.inl hy) rw' (fun s2 I4=>?_) (.inr hy))));refine assignInOrder_cons (wpAny_bindName (mS I4 hN hi (.inl hx) rv (fun s3 I5=>assignInOrder_nil (wpAny_pure ?_)) (.inr hx)));rw[List.set_comm _ _ (Ne.symm hij)]at I5;exact⟨_,H1,I5,q1⟩
def ID(i:Nat)(te:TE)(ti:Fv):TS:=fun D σ H=>∃x,σ[i]?=some (some x)/\te σ H fun y H1=>ti x y H1 fun z H2=>D.nx (σ.set i (some z)) H2
theorem HY{i:Nat}{x:Str}{e:Expr}{te:TE}{op:Operator}{ti:Fv}{pos':Pos}(hN:X.N.Nodup)(hi:X.N[i]?=some x)(hx:Loc X.env.scope x)(he:PE X e te)(ho:Ij X op ti)(hf:X.fn x=true\/X.env.scope.names.lookup x=some .local:=by first|exact .inl rfl|exact .inr rfl|assumption):
 PS X (.AugAssign (.Name x pos') op e pos) (ID i te ti):=by
 intro pins s σ H D I h;obtain⟨v,e1,h⟩:=h;obtain⟨m,hn,hl⟩:=I.loc;have vis:ye X.env.scope x:=by rcases hx with k|k;exact .inl k;exact .inr (.inl k)
 obtain⟨u,r,l⟩:=hl i x v hi e1 vis;refine wpAny_AugAssign_Name ?_
 have go:wpAny (model X.prog X.w) X.A (eval e X.env) (fun w s₂=>wpAny (model X.prog X.w) X.A (inplaceOp op u w) (fun r s₃=>wpAny (model X.prog X.w) X.A (storeName X.env x r) (fun _=>SP X pins D .next) X.xe s₃) X.xe s₂) X.xe s:=by
  refine bL (he pins s σ H _ I h) fun w s1 ⟨y,H1,I1,r1,q1⟩=>?_;refine bL (ho pins s1 σ H1 v y u w _ I1 r r1 q1) fun z s2 ⟨zv,H2,I2,r2,q2⟩=>?_;exact mS I2 hN hi hx r2 (fun s3 I3=>⟨_,H2,I3,q2⟩) hf
 rcases l with⟨hk,hm⟩|⟨hk,c,hc,hcell⟩
 . exact wpAny_loadName_local I.ok.kind hk hn hm go
 . rcases hk with hk|hk
   . exact wpAny_loadName_cell I.ok.kind hk hc hcell go
   . rcases hx with k|k
     . have:X.env.scope.names.lookup x=some .free:=hk;rw[k]at this;cases this
     . have:X.env.scope.names.lookup x=some .free:=hk;rw[k]at this;cases this
def Jy(f:Int->Int->Int):Fv:=fun x y H Q=>∃i j,x= .int i/\y= .int j/\Q (.int (f i j)) H
theorem H0:Ij X .Add (Jy fun i j=>i+j):=by
 intro pins s σ H x y v u Q I r1 r2 h;obtain⟨i,j,e1,e2,q⟩:=h;subst e1;subst e2;obtain⟨t,rfl⟩:=r1;obtain⟨t',rfl⟩:=r2;exact iadd_int ⟨.int _,H,I.tok _,⟨_,rfl⟩,q⟩
def Cc(c:TT)(tb:TS):TS:=fun D σ H=>∃W:Nat->St->Hp->Prop,(∃m,W m σ H)/\∀m σ H,W m σ H->
 c σ H fun b H1=>if b=true then∃N:St->Hp->Prop,(∀σ' H',N σ' H'->∃m',m'<m/\W m' σ' H')/\tb {D with nx:=N,ct:=N,bk:=D.nx} σ H1 else D.nx σ H1
theorem Er{c:Expr}{body:List Stmt}{tc:TT}{tb:TS}(hp:PassesOwn (model X.prog X.w) X.A X.env X.xe)(hc:PT X c tc)(hb:gd X body tb):PS X (.While c body [] pos) (Cc tc tb):=by
 intro pins s σ H D I h;obtain⟨W,⟨m0,w0⟩,turn⟩:=h;refine wpAny_While (codeAny_whileLoop (fun n s'=>∃σ' H',Inv X pins σ' H' s'/\W n σ' H') ?_ m0 ⟨σ,H,I,w0⟩);rintro n s1 ⟨σ1,H1,I1,w1⟩;refine wpAny_passesOwn hp (bL (hc pins s1 σ1 H1 _ I1 (turn n σ1 H1 w1)) fun b s2 ⟨H2,I2,q2⟩=>?_);cases b with
 |true=>
  obtain⟨N,hN,q2⟩:=q2;rw[if_pos rfl];refine wpAny_passesOwn hp (bL (hb pins s2 σ1 H2 _ I2 q2) fun f s3 q3=>?_);cases f with
  |next=>
   obtain⟨σ3,H3,I3,n3⟩:=q3;obtain⟨m',hm,w3⟩:=hN σ3 H3 n3;exact⟨m',hm,σ3,H3,I3,w3⟩
  |cont=>
   obtain⟨σ3,H3,I3,n3⟩:=q3;obtain⟨m',hm,w3⟩:=hN σ3 H3 n3;exact⟨m',hm,σ3,H3,I3,w3⟩
  |brk=>exact q3
  |ret v=>exact q3
 |false=>
  rw[if_neg Bool.false_ne_true];exact wpAny_execs_nil ⟨σ1,H2,I2,q2⟩
end
structure It where
 go:Nat->Hp->Prop
 nN:Nat->Hp->V->Hp->Prop
 stop:Nat->Hp->Prop
def kI(X:Cx)(pins:List (Addr×Obj))(H:Hp)(b:Addr):Prop:=
 H b=none/\b≠X.env.locals/\b∉X.fs/\(b∈X.ex\/X.s₀.heap.objs.size<=b)/\(∀x c,X.env.cells.lookup x=some c->c≠b)/\∀p∈X.pn++pins,p.1≠b
theorem Inv.sM{X:Cx}{pins:List (Addr×Obj)}{σ:St}{H H':Hp}{s:Shared}{b:Addr}(I:Inv X pins σ H s)(hb:s.heap.objs.size<=b)(hn:H' b=none):kI X pins H' b:=by
 refine⟨hn,Nat.ne_of_gt (Nat.lt_of_lt_of_le I.lt hb),I.KH hb,.inr (Nat.le_trans I.sz hb),fun x c e z=>?_,fun p hp z=>?_⟩
 . obtain⟨v,q⟩:=I.cell x c e;exact absurd (Nat.lt_of_lt_of_le q.lt (by rw[z];exact hb)) (Nat.lt_irrefl _)
 . exact absurd (Nat.lt_of_lt_of_le (Heap.lt_size (I.pin p hp).1) (by rw[z];exact hb)) (Nat.lt_irrefl _)
structure Turn(P:Program)(w:World)(K:PySem.W.Frag)(tg:Expr)(J:It)(fp:List Addr)(it:Addr)(tn:Nat->Heap->Prop):Prop where
 mem:it∈fp
 obj:∀i h,tn i h->∀b∈fp,∃o,h.get? b=some o/\∀v,o.data≠ .cell v
 keep:∀i h h',tn i h->(∀b∈fp,∀o,h.get? b=some o->h'.get? b=some o)->tn i h'
 item:∀(X:Cx),X.prog=P->X.w=w->X.K=K->X.calm=true->∀(i:Nat) (pins:List (Addr×Obj)) (s:Shared) (σ:St) (H:Hp) (E:Value->Shared->Prop),Inv X pins σ H s->(∀b∈fp,kI X pins H b)->tn i s.heap->J.go i H->
  wpAny (model P w) X.A (pyNext (.ref it)) (fun r s1=>∃u,r=some u/\
   wpAny (model P w) X.A (letOwnedTupleGo tg (.ref it) u) (fun _ s2=>∃x H',Inv X pins σ H' s2/\RelV x u/\J.nN i H x H'/\tn (i+1) s2.heap/\∀b∈fp,H' b=none) E s1) E s
 done:∀(X:Cx),X.prog=P->X.w=w->X.K=K->X.calm=true->∀(i:Nat) (pins:List (Addr×Obj)) (s:Shared) (σ:St) (H:Hp) (E:Value->Shared->Prop),Inv X pins σ H s->(∀b∈fp,kI X pins H b)->tn i s.heap->J.stop i H->
  wpAny (model P w) X.A (pyNext (.ref it)) (fun r s1=>r=none/\Inv X pins σ H s1) E s
 self:∀(A:Around) (i:Nat) (s:Shared) (Q:Value->Shared->Prop) (E:Value->Shared->Prop),tn i s.heap->Q (.ref it) s->wpAny (model P w) A (pyIter (.ref it)) Q E s
abbrev TI:=St->Hp->(It->Hp->Prop)->Prop
def FV(X:Cx)(pins:List (Addr×Obj))(σ:St)(tg:Expr)(R:It->Hp->Prop)(itv:Value)(s2:Shared):Prop:=
 ∃(it:Addr) (fp:List Addr) (tn:Nat->Heap->Prop) (J:It) (H':Hp),itv= .ref it/\Inv X pins σ H' s2/\Turn X.prog X.w X.K tg J fp it tn/\tn 0 s2.heap/\(∀b∈fp,kI X pins H' b)/\R J H'
def PI(X:Cx)(tg iter:Expr)(wi:TI):Prop:=
 ∀(pins:List (Addr×Obj)) (s:Shared) (σ:St) (H:Hp) (R:It->Hp->Prop),Inv X pins σ H s->wi σ H R->
  wpAny (model X.prog X.w) X.A (eval iter X.env) (fun v s1=>wpAny (model X.prog X.w) X.A (pyIter v) (FV X pins σ tg R) X.xe s1) X.xe s
theorem wV{M:Model}{A:Around}{E:Value->Shared->Prop}{s:Shared}{tg:Expr}{it:Addr}{u:Value}{o:Obj}{n:String}{vs:Array Value}{Q:Unit->Shared->Prop}(ho:s.heap.get? it=some o)(hc:o.cls= .type n)(hd:o.data= .fields vs)
 (hn: ["enumerate","zip","dict_itemiterator","dict_reverseitemiterator","odict_iterator","itertools.zip_longest","itertools.pairwise"].contains n=false) (hQ:Q () s):wpAny M A (letOwnedTupleGo tg (.ref it) u) Q E s:=by
 unfold letOwnedTupleGo
 cases tg<;>first
  |exact wpAny_pure hQ
  |(cases u<;>first
     |exact wpAny_pure hQ
     |(refine wpAny_bind (wpAny_load ho ?_)
       rw[hc,hd];show wpAny M A (if(["enumerate","zip","dict_itemiterator","dict_reverseitemiterator","odict_iterator","itertools.zip_longest","itertools.pairwise"].contains n&&vs[0]?==some (rawInt _))=true then _ else _) Q E s;rw[if_neg (by intro h;rw[hn,Bool.false_and]at h;cases h)];exact wpAny_pure hQ))
def Js(K:PySem.W.Frag)(a:Addr):It:=
 ⟨fun i H=>∃xs x,lI K H a xs/\xs[i]?=some x,fun i H x H'=>H'=H/\∀xs,lI K H a xs->xs[i]?=some x,fun i H=>∃xs,lI K H a xs/\xs.length<=i⟩
def Il(K:PySem.W.Frag)(a:Addr):It:=
 ⟨fun i H=>∃xs x,hJ K H a xs/\xs[i]?=some x,fun i H x H'=>H'=H/\∀xs,hJ K H a xs->xs[i]?=some x,fun i H=>∃xs,hJ K H a xs/\xs.length<=i⟩
def vI(lo:Int)(n:Nat):It:=⟨fun i _=>i<n,fun i H x H'=>H'=H/\x= .int (lo+i),fun i _=>n<=i⟩
theorem Ck{P:Program}{w:World}{K:PySem.W.Frag}{tg:Expr}(a it:Addr):Turn P w K tg (Js K a) [it] it (fun i h=>h.IsListIter it a i) where
 mem:=by simp
 obj:=fun i h st b hb=>by
  have e:b=it:=by simpa using hb
  subst e;obtain⟨o,e,c,d⟩:=st;exact⟨o,e,fun v z=>by rw[d]at z;cases z⟩
 keep:=fun i h h' st k=>st.at fun o e=>k it (by simp) o e
 item:=by
  intro X hP hw hK hc i pins s σ H E I hf st hg;subst hP hw hK;obtain⟨xs,x,hq,hx⟩:=hg;obtain⟨aq,rv,p,hz⟩:=I.list hq;obtain⟨u,hu,ru⟩:=rv.get hx;obtain⟨f0,f1,f2,f3,f4,f5⟩:=hf it (by simp);refine wpAny_pyNext_list_item st p.isList (x:=u) (by simpa using hu) fun h' st' sb=>?_;have I1:Inv X pins σ H {s with heap:=h'}:=I.turned (t':=s.toks) (fun b o hb e=>(sb.2 b hb).trans e) f0 f1 f3 f4 f5;obtain⟨o,e,c,d⟩:=id st';exact⟨u,rfl,wV (s:={s with heap:=h'}) e c d (by decide) ⟨x,H,I1,ru,⟨rfl,fun ys hy=>by rw[I.x9 hy hq];exact hx⟩,st',fun b hb=>(hf b hb).1⟩⟩
 done:=by
  intro X hP hw hK hc i pins s σ H E I hf st hg;subst hP hw hK;obtain⟨xs,hq,hx⟩:=hg;obtain⟨aq,rv,p,hz⟩:=I.list hq;obtain⟨f0,f1,f2,f3,f4,f5⟩:=hf it (by simp);have hl:=rv.length;exact wpAny_pyNext_list_end (I.ok.hd hc) st p.isList (by simp;omega) fun h' eb=>⟨rfl,I.turned (t':=s.toks) (fun b o hb e=>eb b o hb e) f0 f1 f3 f4 f5⟩
 self:=fun _ _ _ _ _ st h=>wpAny_pyIter_listiter st h
theorem AB{P:Program}{w:World}{K:PySem.W.Frag}{tg:Expr}(a it:Addr):Turn P w K tg (Il K a) [it] it (fun i h=>h.IsTupleIter it a i) where
 mem:=by simp
 obj:=fun i h st b hb=>by
  have e:b=it:=by simpa using hb
  subst e;obtain⟨o,e,c,d⟩:=st;exact⟨o,e,fun v z=>by rw[d]at z;cases z⟩
 keep:=fun i h h' st k=>st.at fun o e=>k it (by simp) o e
 item:=by
  intro X hP hw hK hc i pins s σ H E I hf st hg;subst hP hw hK;obtain⟨xs,x,hq,hx⟩:=hg;obtain⟨aq,rv,p,hz⟩:=I.tuple hq;obtain⟨u,hu,ru⟩:=rv.get hx;obtain⟨f0,f1,f2,f3,f4,f5⟩:=hf it (by simp);refine wpAny_pyNext_tuple_item st (show s.heap.IsTuple a aq.toArray from p) (x:=u) (by simpa using hu) fun h' st' sb=>?_;have I1:Inv X pins σ H {s with heap:=h'}:=I.turned (t':=s.toks) (fun b o hb e=>(sb.2 b hb).trans e) f0 f1 f3 f4 f5;obtain⟨o,e,c,d⟩:=id st';exact⟨u,rfl,wV (s:={s with heap:=h'}) e c d (by decide) ⟨x,H,I1,ru,⟨rfl,fun ys hy=>by rw[I.vW hy hq];exact hx⟩,st',fun b hb=>(hf b hb).1⟩⟩
 done:=by
  intro X hP hw hK hc i pins s σ H E I hf st hg;subst hP hw hK;obtain⟨xs,hq,hx⟩:=hg;obtain⟨aq,rv,p,hz⟩:=I.tuple hq;obtain⟨f0,f1,f2,f3,f4,f5⟩:=hf it (by simp);have hl:=rv.length;exact wpAny_pyNext_tuple_end (I.ok.hd hc) st (show s.heap.IsTuple a aq.toArray from p) (by simp;omega) fun h' eb=>⟨rfl,I.turned (t':=s.toks) (fun b o hb e=>eb b o hb e) f0 f1 f3 f4 f5⟩
 self:=fun _ _ _ _ _ st h=>wpAny_pyIter_tupleiter st h
theorem Ap{P:Program}{w:World}{K:PySem.W.Frag}{tg:Expr}(it:Addr)(lo:Int)(n:Nat):Turn P w K tg (vI lo n) [it] it (fun i h=>IsRangeIter h it (lo+(i:Nat)*1) ((n:Int)-(i:Nat)) 1) where
 mem:=by simp
 obj:=fun i h st b hb=>by
  have e:b=it:=by simpa using hb
  subst e
  exact⟨_,st,fun v z=>by
   have z':Data.fields _=Data.cell v:=z;cases z'⟩
 keep:=fun i h h' st k=>k it (by simp) _ st
 item:=by
  intro X hP hw hK hc i pins s σ H E I hf st hg;subst hP hw hK;obtain⟨f0,f1,f2,f3,f4,f5⟩:=hf it (by simp);have W:=Walks.range (prog:=X.prog) (w:=X.w) (I.ok.hd hc) it lo 1 n;refine W.item i s _ _ hg st fun v h' tk hv st' kk=>?_;obtain⟨t,rfl⟩:=hv;have I1:Inv X pins σ H {s with heap:=h',toks:=tk}:=I.turned (fun b o hb e=>kk b o (by simpa using hb) e) f0 f1 f3 f4 f5;refine⟨_,rfl,wV (s:={s with heap:=h',toks:=tk}) (n:="range_iterator") st' rfl rfl (by decide) ⟨.int (lo+i),H,I1,⟨t,?_⟩,⟨rfl,rfl⟩,st',fun b hb=>(hf b hb).1⟩⟩;rw[Int.mul_one]
 done:=by
  intro X hP hw hK hc i pins s σ H E I hf st hg;subst hP hw hK;obtain⟨f0,f1,f2,f3,f4,f5⟩:=hf it (by simp);exact wpAny_pyNext_range_end (I.ok.hd hc) st (by have:n<=i:=hg;omega) fun h' eb=>⟨rfl,I.turned (t':=s.toks) (fun b o hb e=>eb b o hb e) f0 f1 f3 f4 f5⟩
 self:=fun _ _ _ _ _ st h=>wpAny_pyIter_rangeiter st h
section
variable {X:Cx}{tg:Expr}
theorem yn{pins:List (Addr×Obj)}{σ:St}{H:Hp}{s:Shared}{R:It->Hp->Prop}{E:Value->Shared->Prop}{lo hi:Int}{t u v:Tok}{tk:Nat}(I:Inv X pins σ H s)(h1: -(2^62)<=lo)(h2:lo<2^62)(h3: -(2^62)<=hi)(h4:hi<2^62)
 (q:R (vI lo (hi-lo).toNat) H):wpAny (model X.prog X.w) X.A (pyIter (.ref s.heap.objs.size)) (FV X pins σ tg R) E {s with heap:=s.heap.push {cls:= .type "range",data:= .fields #[.int lo t,.int hi u,.int 1 v]},toks:=tk}:=by
 refine wpAny_pyIter_range (IsRange.new ..) (small_one h1 h2 h3 h4) ?_;have I1:Inv X pins σ H {s with heap:=s.heap.push {cls:= .type "range",data:= .fields #[.int lo t,.int hi u,.int 1 v]},toks:=tk}:=I.kept fun b o e=>Heap.get?_push_of_some _ e
 refine⟨(s.heap.push {cls:= .type "range",data:= .fields #[.int lo t,.int hi u,.int 1 v]}).objs.size,[(s.heap.push {cls:= .type "range",data:= .fields #[.int lo t,.int hi u,.int 1 v]}).objs.size],_,_,H,rfl,
  I1.kept (t':=tk) fun b o e=>Heap.get?_push_of_some _ e,Ap _ lo (hi-lo).toNat,?_,fun b hb=>?_,q⟩
 . have e1:lo+((0:Nat):Int)*1=lo:=by simp
   have e2:(((hi-lo).toNat:Nat):Int)-((0:Nat):Int)=Builtin.Range.rangeSize lo hi 1:=by rw[rangeSize_one];split<;>omega
   show IsRangeIter _ _ (lo+((0:Nat):Int)*1) ((((hi-lo).toNat:Nat):Int)-((0:Nat):Int)) 1;rw[e1,e2];exact Heap.get?_push_size _ rfl
 . have e:b=(s.heap.push {cls:= .type "range",data:= .fields #[.int lo t,.int hi u,.int 1 v]}).objs.size:=by simpa using hb
   subst e;exact I1.sM (Nat.le_refl _) (I1.aK.fresh (Nat.le_refl _))
def Az(ta:TA):TI:=fun σ H R=>ta σ H fun vs H1=>∃j:Int,vs=[.int j]/\ -(2^62)<=j/\j<2^62/\R (vI 0 j.toNat) H1
def Bq(ta:TA):TI:=fun σ H R=>ta σ H fun vs H1=>∃i j:Int,vs=[.int i,.int j]/\(-(2^62)<=i/\i<2^62/\ -(2^62)<=j/\j<2^62)/\R (vI i (j-i).toNat) H1
theorem CA{a:Expr}{ta:TA}{p pos:Pos}(hg:Gl X "range")(hm:X.mg "range"=none)(ha:PA X [a] ta)(hs:starEach [a] X.env=[(false,eval a X.env)]:=by rfl):PI X tg (.Call (.Name "range" p) [a] [] pos) (Az ta):=by
 intro pins s σ H R I h;refine Call_ (jN I hg hm boot_range (PyProof.Rows.callWith_type1 (bL (ha pos pins s σ H _ I h) fun us s1 ⟨vs,H1,I1,r1,q1⟩=>?_) hs rfl));obtain⟨j,e,q1,q2,q⟩:=q1;subst e;cases r1 with
 |cons r rr=>
  cases rr;obtain⟨t,rfl⟩:=r;exact call_range_1 (yn I1 (by omega) (by omega) q1 q2 (by simpa using q))
theorem DG{a b:Expr}{ta:TA}{p pos:Pos}(hg:Gl X "range")(hm:X.mg "range"=none)(ha:PA X [a,b] ta)(hs:starEach [a,b] X.env=[(false,eval a X.env),(false,eval b X.env)]:=by rfl)(hs2:starEach [b] X.env=[(false,eval b X.env)]:=by rfl):
 PI X tg (.Call (.Name "range" p) [a,b] [] pos) (Bq ta):=by
 intro pins s σ H R I h;refine Call_ (jN I hg hm boot_range (PyProof.Rows.callWith_type1 (bL (ha pos pins s σ H _ I h) fun us s1 ⟨vs,H1,I1,r1,q1⟩=>?_) (by rw[hs,hs2]) (by rw[hs2];rfl)));obtain⟨i,j,e,⟨q1,q2,q3,q4⟩,q⟩:=q1;subst e;cases r1 with
 |cons r rr=>
  cases rr with
  |cons r' rr=>
   cases rr;obtain⟨t,rfl⟩:=r;obtain⟨t',rfl⟩:=r';exact call_range_2 (yn I1 q1 q2 q3 q4 q)
def Ja(wi:TI)(g:TG)(tb:TS):TS:=fun D σ H=>wi σ H fun J H1=>∃W:Nat->Nat->St->Hp->Prop,(∃m,W 0 m σ H1)/\∀i m σ H,W i m σ H->
 (J.stop i H/\D.nx σ H)\/(J.go i H/\∃N:St->Hp->Prop,(∀σ' H',N σ' H'->∃m',m'<m/\W (i+1) m' σ' H')/\∀x H',J.nN i H x H'->g x σ H' fun σ2 H2=>tb {D with nx:=N,ct:=N,bk:=D.nx} σ2 H2)
def qZ(fp:List Addr)(h:Heap):List (Addr×Obj):=fp.filterMap fun b=>(h.get? b).map fun o=>(b,o)
theorem mh{fp:List Addr}{h:Heap}{b:Addr}{o:Obj}(hb:b∈fp)(e:h.get? b=some o):(b,o)∈qZ fp h:=List.mem_filterMap.mpr ⟨b,hb,by rw[e];rfl⟩
theorem C3{fp:List Addr}{h:Heap}{p:Addr×Obj}(hp:p∈qZ fp h):p.1∈fp/\h.get? p.1=some p.2:=by
 obtain⟨b,hb,e⟩:=List.mem_filterMap.mp hp;cases q:h.get? b with
 |none=>rw[q]at e;cases e
 |some o=>
  rw[q]at e;have e':(b,o)=p:=Option.some.inj e;subst e';exact⟨hb,q⟩
theorem Inv.pinned{pins:List (Addr×Obj)}{σ:St}{H:Hp}{s:Shared}{fp:List Addr}(I:Inv X pins σ H s)(hf:∀b∈fp,kI X pins H b)(ho:∀b∈fp,∃o,s.heap.get? b=some o/\∀v,o.data≠ .cell v):Inv X (pins++qZ fp s.heap) σ H s:=
 I.rF fun p hp=>(List.mem_append.mp hp).elim (fun z=>I.pin p (List.mem_append_right _ z)) fun z=>by
  obtain⟨hb,e⟩:=C3 z;obtain⟨f0,f1,f2,_⟩:=hf p.1 hb;obtain⟨o,e',d⟩:=ho p.1 hb;rw[e]at e';cases e';exact⟨e,f0,f1,f2,d⟩
theorem Inv.gh{pins pl:List (Addr×Obj)}{σ:St}{H:Hp}{s:Shared}(I:Inv X (pins++pl) σ H s):Inv X pins σ H s:=I.rF fun p hp=>I.pin p (List.mem_append_right _ (List.mem_append_left _ hp))
theorem Jw{iter:Expr}{body:List Stmt}{wi:TI}{g:TG}{tb:TS}{pos:Pos}(hp:PassesOwn (model X.prog X.w) X.A X.env X.xe)(hc:X.calm=true)(hi:PI X tg iter wi)(hg:PG X tg g)(hb:gd X body tb)
 (hs:∀x,foldedSetIterable iter X.env x=pure x:=by intro _;rfl):PS X (.For tg iter body [] pos) (Ja wi g tb):=by
 intro pins s σ H D I h;refine wpAny_For (bL (hi pins s σ H _ I h) fun v s1 h1=>bL h1 fun itv s2 h2=>?_) hs;obtain⟨it,fp,tn,J,H2,e,I2,T,st2,f2,W,⟨m0,w0⟩,turn⟩:=h2;subst e;have stat:∀ {H':Hp},(∀b∈fp,H' b=none)->∀b∈fp,kI X pins H' b:=fun hn b hb=>⟨hn b hb,(f2 b hb).2⟩
 refine codeAny_forLoop_any (fun n s'=>∃i σ' H',Inv X pins σ' H' s'/\tn i s'.heap/\(∀b∈fp,H' b=none)/\W i n σ' H') ?_ m0 ⟨0,σ,H2,I2,st2,fun b hb=>(f2 b hb).1,w0⟩;rintro n s3 ⟨i,σ3,H3,I3,st3,fr3,w3⟩;rcases turn i n σ3 H3 w3 with⟨stop,qn⟩|⟨go,N,hN,step⟩
 . refine wpAny_passesOwn hp (bL (T.done X rfl rfl rfl hc i pins s3 σ3 H3 X.xe I3 (stat fr3) st3 stop) fun r s4 ⟨hr,I4⟩=>?_);subst hr;exact wpAny_execs_nil ⟨σ3,H3,I4,qn⟩
 . refine wpAny_passesOwn hp (bL (T.item X rfl rfl rfl hc i pins s3 σ3 H3 X.xe I3 (stat fr3) st3 go) fun r s4 ⟨u,hr,h4⟩=>?_);subst hr;refine wpAny_passesOwn hp (bL h4 fun _ s5 ⟨x,H5,I5,r5,y5,st5,fr5⟩=>?_);have I5':=I5.pinned (stat fr5) (T.obj _ _ st5);refine wpAny_passesOwn hp (bL (hg _ s5 σ3 H5 x u _ I5' r5 (step x H5 y5)) fun _ s6 ⟨σ6,H6,I6,q6⟩=>?_);refine wpAny_passesOwn hp (bL (hb _ s6 σ6 H6 _ I6 q6) fun f s7 q7=>?_)
   have again:∀ {σ7:St} {H7:Hp},Inv X (pins++qZ fp s5.heap) σ7 H7 s7->N σ7 H7->∃m,m<n/\∃i σ' H',Inv X pins σ' H' s7/\tn i s7.heap/\(∀b∈fp,H' b=none)/\W i m σ' H':=fun{σ7 H7} I7 n7=>by
    obtain⟨m',hm,w7⟩:=hN σ7 H7 n7;refine⟨m',hm,i+1,σ7,H7,I7.gh,T.keep _ _ _ st5 fun b hb o e=>(I7.pin (b,o) (List.mem_append_right _ (List.mem_append_right _ (mh hb e)))).1,fun b hb=>?_,w7⟩;obtain⟨o,e,d⟩:=T.obj _ _ st5 b hb;exact(I7.pin (b,o) (List.mem_append_right _ (List.mem_append_right _ (mh hb e)))).2.1
   cases f with
   |next=>obtain⟨σ7,H7,I7,n7⟩:=q7;exact again I7 n7
   |cont=>obtain⟨σ7,H7,I7,n7⟩:=q7;exact again I7 n7
   |brk=>obtain⟨σ7,H7,I7,q7⟩:=q7;exact⟨σ7,H7,I7.gh,q7⟩
   |ret v=>obtain⟨x7,σ7,H7,I7,r7,q7⟩:=q7;exact⟨x7,σ7,H7,I7.gh,r7,q7⟩
end
theorem nR{lo:Int}{n:Nat}{g:TG}{tb:TS}{D:Ends}{σ:St}{H:Hp}(Pv:Nat->St->Hp->Prop)(h0:Pv 0 σ H)
 (hs:∀i σ H,i<n->Pv i σ H->g (.int (lo+i)) σ H fun σ2 H2=>tb {D with nx:=Pv (i+1),ct:=Pv (i+1),bk:=D.nx} σ2 H2) (hd:∀σ H,Pv n σ H->D.nx σ H):
 ∃W:Nat->Nat->St->Hp->Prop,(∃m,W 0 m σ H)/\∀i m σ H,W i m σ H->
  ((vI lo n).stop i H/\D.nx σ H)\/((vI lo n).go i H/\∃N:St->Hp->Prop,(∀σ' H',N σ' H'->∃m',m'<m/\W (i+1) m' σ' H')/\∀x H',(vI lo n).nN i H x H'->g x σ H' fun σ2 H2=>tb {D with nx:=N,ct:=N,bk:=D.nx} σ2 H2):=by
 refine⟨fun i m σ H=>m=n-i/\i<=n/\Pv i σ H,⟨n,by simp,Nat.zero_le _,h0⟩,?_⟩;rintro i m σ H ⟨rfl,hi,p⟩;by_cases hlt:i<n
 . refine .inr ⟨hlt,Pv (i+1),fun σ' H' p'=>⟨n-(i+1),by omega,rfl,hlt,p'⟩,fun x H' y=>?_⟩;obtain⟨e,y⟩:=y;subst e y;exact hs i σ _ hlt p
 . have e:i=n:=by omega
   subst e;exact .inl ⟨Nat.le_refl _,hd σ H p⟩
abbrev R2:=V->V->Hp->VK->Prop
def bS(X:Cx)(f:Value->Value->Sem Value)(r:R2):Prop:=
 ∀(pins:List (Addr×Obj)) (s:Shared) (σ:St) (H:Hp) (x y:V) (v u:Value) (Q:VK),Inv X pins σ H s->RelV x v->RelV y u->r x y H Q->
  wpAny (model X.prog X.w) X.A (f v u) (EP X pins σ Q) X.xe s
def zU(X:Cx)(f:Value->Sem Value)(r:V->Hp->VK->Prop):Prop:=
 ∀(pins:List (Addr×Obj)) (s:Shared) (σ:St) (H:Hp) (x:V) (v:Value) (Q:VK),Inv X pins σ H s->RelV x v->r x H Q->
  wpAny (model X.prog X.w) X.A (f v) (EP X pins σ Q) X.xe s
def cf(X:Cx)(f:Value)(r:List V->Hp->VK->Prop):Prop:=
 ∀(pins:List (Addr×Obj)) (s:Shared) (σ:St) (H:Hp) (xs:List V) (us:List Value) (Q:VK),Inv X pins σ H s->Vals xs us->r xs H Q->
  wpAny (model X.prog X.w) X.A (call f us) (EP X pins σ Q) X.xe s
def Cu(r:R2)(ta tb:TE):TE:=fun σ H Q=>ta σ H fun x H1=>tb σ H1 fun y H2=>r x y H2 Q
def Ms(r:V->Hp->VK->Prop)(ta:TE):TE:=fun σ H Q=>ta σ H fun x H1=>r x H1 Q
def rI(C:Int->Int->Prop)(g:Int->Int->V):R2:=fun x y H Q=>∃i j,x= .int i/\y= .int j/\C i j/\Q (g i j) H
def vx(g:Int->Int->V):R2:=fun x y H Q=>∃i j,x= .int i/\y= .int j/\Q (g i j) H
def rU(g:Int->V):V->Hp->VK->Prop:=fun x H Q=>∃i,x= .int i/\Q (g i) H
section
variable {X:Cx}{a b c:Expr}{ta tb tc:TE}{pos:Pos}
theorem Eb(ha:PE X a ta)(hb:PE X b tb){pins:List (Addr×Obj)}{s:Shared}{σ:St}{H:Hp}{R:V->V->Hp->Prop}(I:Inv X pins σ H s)
 (h:ta σ H fun x H1=>tb σ H1 fun y H2=>R x y H2) {Q:Value->Shared->Prop} {f:Value->Value->Sem Value}
 (hf:∀v u s2 x y H2,Inv X pins σ H2 s2->RelV x v->RelV y u->R x y H2->wpAny (model X.prog X.w) X.A (f v u) Q X.xe s2):
 wpAny (model X.prog X.w) X.A (eval a X.env) (fun v s₁=>wpAny (model X.prog X.w) X.A (eval b X.env) (fun u s₂=>wpAny (model X.prog X.w) X.A (f v u) Q X.xe s₂) X.xe s₁) X.xe s:=by
 refine bL (ha pins s σ H _ I h) fun v s1 ⟨x,H1,I1,r1,q1⟩=>?_;refine bL (hb pins s1 σ H1 _ I1 q1) fun u s2 ⟨y,H2,I2,r2,q2⟩=>?_;exact hf v u s2 x y H2 I2 r1 r2 q2
theorem L8{op:Operator}{r:R2}(ho:bS X (binaryOp op) r)(ha:PE X a ta)(hb:PE X b tb):PE X (.BinOp a op b pos) (Cu r ta tb):=by
 intro pins s σ H Q I h;exact wpAny_BinOp (Eb ha hb I h fun v u s2 x y H2 I2 rx ry q=>ho pins s2 σ H2 x y v u Q I2 rx ry q)
theorem Ll{op:UnaryOp}{r:V->Hp->VK->Prop}(ho:zU X (unaryOp op) r)(ha:PE X a ta):PE X (.UnaryOp op a pos) (Ms r ta):=by
 intro pins s σ H Q I h;exact UnaryOp_ (bL (ha pins s σ H _ I h) fun v s1 ⟨x,H1,I1,r1,q1⟩=>ho pins s1 σ H1 x v Q I1 r1 q1)
theorem Fz{f:Value->Value->Sem Value}{C:Int->Int->Prop}{g:Int->Int->Int}
 (rule:∀(i j:Int) (t u:Tok) (s:Shared) (Q:Value->Shared->Prop) (E:Value->Shared->Prop),C i j->Q (.int (g i j) s.toks) {s with toks:=s.toks+1}->wpAny (model X.prog X.w) X.A (f (.int i t) (.int j u)) Q E s):
 bS X f (rI C fun i j=> .int (g i j)):=by
 intro pins s σ H x y v u Q I rx ry h;obtain⟨i,j,rfl,rfl,hc,q⟩:=h;obtain⟨t,rfl⟩:=rx;obtain⟨t',rfl⟩:=ry;exact rule i j t t' s _ _ hc ⟨.int (g i j),H,I.tok _,⟨_,rfl⟩,q⟩
theorem Iy{f:Value->Value->Sem Value}{g:Int->Int->Int}
 (rule:∀(i j:Int) (t u:Tok) (s:Shared) (Q:Value->Shared->Prop) (E:Value->Shared->Prop),Q (.int (g i j) s.toks) {s with toks:=s.toks+1}->wpAny (model X.prog X.w) X.A (f (.int i t) (.int j u)) Q E s):
 bS X f (vx fun i j=> .int (g i j)):=by
 intro pins s σ H x y v u Q I rx ry h;obtain⟨i,j,rfl,rfl,q⟩:=h;obtain⟨t,rfl⟩:=rx;obtain⟨t',rfl⟩:=ry;exact rule i j t t' s _ _ ⟨.int (g i j),H,I.tok _,⟨_,rfl⟩,q⟩
theorem ER{f:Value->Value->Sem Value}{g:Int->Int->Bool}
 (rule:∀(i j:Int) (t u:Tok) (s:Shared) (Q:Value->Shared->Prop) (E:Value->Shared->Prop),Q (.bool (g i j)) s->wpAny (model X.prog X.w) X.A (f (.int i t) (.int j u)) Q E s):
 bS X f (vx fun i j=> .bl (g i j)):=by
 intro pins s σ H x y v u Q I rx ry h;obtain⟨i,j,rfl,rfl,q⟩:=h;obtain⟨t,rfl⟩:=rx;obtain⟨t',rfl⟩:=ry;exact rule i j t t' s _ _ ⟨.bl (g i j),H,I,rfl,q⟩
def EM(i j:Int):Prop:=0<=j/\j<=1000000/\i.natAbs<2^64
theorem JR:bS X (binaryOp .Add) (vx fun i j=> .int (i+j)):=Iy fun _ _ _ _ _ _ _ q=>add_int q
theorem IF:bS X (binaryOp .Sub) (vx fun i j=> .int (i-j)):=Iy fun _ _ _ _ _ _ _ q=>sub_int q
theorem HD:bS X (binaryOp .Mod) (rI (fun _ j=>j≠0) fun i j=> .int (i.fmod j)):=Fz fun _ _ _ _ _ _ _ hc q=>mod_int' hc q
theorem IW:bS X (binaryOp .Pow) (rI EM fun i j=> .int (i^j.toNat)):=Fz fun _ _ _ _ _ _ _ hc q=>pow_int_small hc.1 hc.2.1 hc.2.2 q
theorem N4{f:Value->Sem Value}{g:Int->Int}
 (rule:∀(i:Int) (t:Tok) (s:Shared) (Q:Value->Shared->Prop) (E:Value->Shared->Prop),Q (.int (g i) s.toks) {s with toks:=s.toks+1}->wpAny (model X.prog X.w) X.A (f (.int i t)) Q E s):
 zU X f (rU fun i=> .int (g i)):=by
 intro pins s σ H x v Q I rx h;obtain⟨i,rfl,q⟩:=h;obtain⟨t,rfl⟩:=rx;exact rule i t s _ _ ⟨.int (g i),H,I.tok _,⟨_,rfl⟩,q⟩
theorem Iq:zU X (unaryOp .USub) (rU fun i=> .int (-i)):=N4 fun _ _ _ _ _ q=>neg_int q
end
def Nh:V->V->Bool
 | .aE,.aE=>true| .aE,.int _=>true| .int _,.aE=>true| .aE,.bl _=>true| .bl _,.aE=>true| .aE,.str _=>true| .str _,.aE=>true
 | .int _,.int _=>true| .bl _,.bl _=>true| .str _,.str _=>true| .sA _,.sA _=>true
 | .int _,.str _=>true| .str _,.int _=>true| .bl _,.str _=>true| .str _,.bl _=>true
 |_,_=>false
def NK:R2:=fun x y H Q=>Nh x y=true/\Q (.bl (!decide (x=y))) H
theorem HG{i j:Int}:decide (V.int i=V.int j)=(i==j):=by
 rw[Bool.eq_iff_iff];simp
theorem Kr{i j:Bool}:decide (V.bl i=V.bl j)=(i==j):=by
 rw[Bool.eq_iff_iff];simp
theorem G0{i j:Str}:decide (V.str i=V.str j)=(i==j):=by
 rw[Bool.eq_iff_iff];simp
theorem Gw{i j:Array UInt8}:decide (V.sA i=V.sA j)=(i.toList==j.toList):=by
 rw[Bool.eq_iff_iff];cases i;cases j;simp
section
variable {X:Cx}{a b c:Expr}{ta tb tc:TE}{pos:Pos}
theorem eH{pins:List (Addr×Obj)}{σ:St}{H:Hp}{s:Shared}{Q:VK}{k k':Bool}(I:Inv X pins σ H s)(q:Q (.bl k) H)(e:k=k'):EP X pins σ Q (.bool k') s:=by
 subst e;exact⟨.bl k,H,I,rfl,q⟩
theorem L0:bS X (compareOp .NotEq) NK:=by
 intro pins s σ H x y v u Q I rx ry h;obtain⟨hs,q⟩:=h;cases x with
 |aE=>
  cases rx;cases y with
  |aE=>cases ry;exact PySem.EqNone.ne_none_none (eH I q (by simp))
  |bl j=>cases ry;exact PySem.EqNone.ne_none_bool (eH I q (by simp))
  |int j=>obtain⟨t',rfl⟩:=ry;exact PySem.EqNone.ne_none_int (eH I q (by simp))
  |str j=>obtain⟨t',rfl⟩:=ry;exact PySem.EqNone.ne_none_str (eH I q (by simp))
  |_=>exact absurd (show false=true from hs) Bool.false_ne_true
 |bl i=>
  cases rx;cases y with
  |aE=>cases ry;exact PySem.EqNone.ne_bool_none (eH I q (by simp))
  |bl j=>cases ry;exact ne_bool (eH I q (congrArg not Kr))
  |str j=>obtain⟨t',rfl⟩:=ry;exact PySem.EqMixed.ne_bool_str (eH I q (by simp))
  |_=>exact absurd (show false=true from hs) Bool.false_ne_true
 |int i=>
  obtain⟨t,rfl⟩:=rx;cases y with
  |aE=>cases ry;exact PySem.EqNone.ne_int_none (eH I q (by simp))
  |int j=>obtain⟨t',rfl⟩:=ry;exact ne_int (eH I q (congrArg not HG))
  |str j=>obtain⟨t',rfl⟩:=ry;exact PySem.EqMixed.ne_int_str (eH I q (by simp))
  |_=>exact absurd (show false=true from hs) Bool.false_ne_true
 |str i=>
  obtain⟨t,rfl⟩:=rx;cases y with
  |aE=>cases ry;exact PySem.EqNone.ne_str_none (eH I q (by simp))
  |bl j=>cases ry;exact PySem.EqMixed.ne_str_bool (eH I q (by simp))
  |int j=>obtain⟨t',rfl⟩:=ry;exact PySem.EqMixed.ne_str_int (eH I q (by simp))
  |str j=>obtain⟨t',rfl⟩:=ry;exact ne_str (eH I q (congrArg not G0))
  |_=>exact absurd (show false=true from hs) Bool.false_ne_true
 |sA i=>
  obtain⟨t,rfl⟩:=rx;cases y with
  |sA j=>obtain⟨t',rfl⟩:=ry;exact PySem.W.ne_bytes (eH I q (congrArg not Gw))
  |_=>exact absurd (show false=true from hs) Bool.false_ne_true
 |_=>cases y<;>exact absurd (show false=true from hs) Bool.false_ne_true
theorem Mj:bS X (compareOp .Lt) (vx fun i j=> .bl (decide (i<j))):=ER fun _ _ _ _ _ _ _ q=>lt_int q
theorem Ld:bS X (compareOp .Gt) (vx fun i j=> .bl (decide (j<i))):=ER fun _ _ _ _ _ _ _ q=>gt_int q
theorem Md:bS X (compareOp .GtE) (vx fun i j=> .bl (decide (j<=i))):=ER fun _ _ _ _ _ _ _ q=>ge_int q
theorem HX:bS X (compareOp .IsNot) (fun x y H Q=>y= .aE/\Q (.bl (!decide (x= .aE))) H):=by
 intro pins s σ H x y v u Q I rx ry h;obtain⟨rfl,q⟩:=h;cases ry;refine isnot_none_gen (eH I q ?_)
 cases x<;>first
  |(cases rx;rfl)
  |(obtain⟨t,rfl⟩:=rx;rfl)
theorem bT(b:Expr){op:CmpOp}(h:op≠ .In:=by decide)(h2:op≠ .NotIn:=by decide):behindInMarks op b=false:=by
 have e1:(op==CmpOp.In)=false:=by cases op<;>first|rfl|exact absurd rfl h
 have e2:(op==CmpOp.NotIn)=false:=by cases op<;>first|rfl|exact absurd rfl h2
 cases b<;>simp[behindInMarks,e1,e2]
theorem G_{op:CmpOp}{r:R2}(ho:bS X (compareOp op) r)(ha:PE X a ta)(hb:PE X b tb)(hm:behindInMarks op b=false):PE X (.Compare a [op] [b] pos) (Cu r ta tb):=by
 intro pins s σ H Q I h;exact wpAny_Compare1 (Eb ha hb I h fun v u s2 x y H2 I2 rx ry q=>ho pins s2 σ H2 x y v u Q I2 rx ry q) hm
def LX(t:TE):TT:=fun σ H Q=>t σ H fun x H'=>∃k,x= .bl k/\Q k H'
theorem Gu{op:CmpOp}{r:R2}(ho:bS X (compareOp op) r)(ha:PE X a ta)(hb:PE X b tb)(hm:behindInMarks op b=false):PT X (.Compare a [op] [b] pos) (LX (Cu r ta tb)):=by
 intro pins s σ H Q I h
 refine wpAny_isTrue_Compare1 (bL (ha pins s σ H _ I h) fun v s1 ⟨x,H1,I1,r1,q1⟩=>bL (hb pins s1 σ H1 _ I1 q1) fun u s2 ⟨y,H2,I2,r2,q2⟩=>
  bL (ho pins s2 σ H2 x y v u _ I2 r1 r2 q2) fun c s3 ⟨z,H3,I3,r3,k,e,q3⟩=>?_) hm
 subst e;cases r3;exact wpAny_truthy_bool ⟨H3,I3,q3⟩
theorem qj:(sizeLine:Nat)<2^63:=by rw[sizeLine_eq];decide
theorem AG:bS X (binaryOp .Add) (fun x y H Q=>∃i j,x= .str i/\y= .str j/\i.length+j.length<=sizeLine/\Q (.str (i++j)) H):=by
 intro pins s σ H x y v u Q I rx ry h;obtain⟨i,j,rfl,rfl,hz,q⟩:=h;obtain⟨t,rfl⟩:=rx;obtain⟨t',rfl⟩:=ry;exact add_str (fun t' tk=>⟨.str (i++j),H,I.tok _,⟨_,rfl⟩,q⟩) hz
theorem vals1{x:V}{us:List Value}(r:Vals [x] us):∃u,us=[u]/\RelV x u:=by
 cases r with
 |cons r1 r2=>cases r2;exact⟨_,rfl,r1⟩
theorem vals2{x y:V}{us:List Value}(r:Vals [x,y] us):∃u w',us=[u,w']/\RelV x u/\RelV y w':=by
 cases r with
 |cons r1 r2=>
  cases r2 with
  |cons r3 r4=>cases r4;exact⟨_,_,rfl,r1,r3⟩
theorem E1:cf X (.builtin "abs") (fun xs H Q=>∃i,xs=[.int i]/\Q (.int (if i<0 then-i else i)) H):=by
 intro pins s σ H xs us Q I r h;obtain⟨i,rfl,q⟩:=h;obtain⟨u,rfl,t,rfl⟩:=vals1 r;exact call_abs_int fun u tk=>⟨.int (if i<0 then-i else i),H,I.tok _,⟨_,rfl⟩,q⟩
theorem DB:cf X (.type "int") (fun xs H Q=>(∃i,xs=[.int i]/\Q (.int i) H)\/∃k,xs=[.bl k]/\Q (.int (if k then 1 else 0)) H):=by
 intro pins s σ H xs us Q I r h;rcases h with⟨i,rfl,q⟩|⟨k,rfl,q⟩
 . obtain⟨u,rfl,t,rfl⟩:=vals1 r;exact call_int_int ⟨.int i,H,I,⟨_,rfl⟩,q⟩
 . obtain⟨u,rfl,r1⟩:=vals1 r;cases r1;exact call_int_bool ⟨.int (if k then 1 else 0),H,I.tok _,⟨_,rfl⟩,q⟩
end
structure s_(h:Heap)(x dx C:Addr)(mA:Str->Option Value):Prop where
 obj:h.get? x=some (PySem.W.instObj C dx)
 ns:h.Ns1 dx mA
 ne:dx≠x
theorem Dd{h:Heap}{dx:Addr}{mA:Str->Option Value}(n:h.Ns1 dx mA):∃od,h.get? dx=some od/\∀name,PySem.W.lookIn name od=some (mA name):=by
 obtain⟨o,es,ep,ho,hd,hk,_,hm⟩:=n;refine⟨o,ho,fun name=>?_⟩;have e:=hm name;unfold nsFind findBy at e;rw[<-Array.find?_toList]at e;unfold PySem.W.lookIn;rw[hd];dsimp only;split
 . rename_i y q;rw[q]at e;exact congrArg some e
 . rename_i q;rw[q]at e
   have a:es.toList.any (·.refKey)=false:=by
    rw[List.any_eq_false];intro y hy;obtain⟨z,t,hkey⟩:=hk y (Array.mem_toList_iff.mp hy);simp[DictEntry.refKey,hkey]
   have a':¬es.toList.any (·.refKey)=true:=by rw[a];exact Bool.false_ne_true
   rw[if_neg a'];exact congrArg some e
theorem s_.look{h:Heap}{x dx C:Addr}{mA:Str->Option Value}(I:s_ h x dx C mA):∃od,PySem.W.InstAt h x (PySem.W.instObj C dx) C (some od)/\∀name,PySem.W.lookIn name od=some (mA name):=
 let⟨od,ho,hl⟩:=Dd I.ns
 ⟨od,⟨I.obj,rfl,rfl,ho⟩,hl⟩
section
variable {prog:Program}{w:World}{A:Around}{E:Value->Shared->Prop}{s:Shared}{K:PySem.W.Frag}{x dx C f:Addr}{mA:Str->Option Value}{name:Str}{v:Value}
theorem get_map{expr:Bool}{Q:Value->Shared->Prop}(X:K.In s.heap)(I:s_ s.heap x dx C mA)(hg:PySem.W.plainGet K C name=true)(hh:PySem.W.hasDictIn K C=true)
 (ha:PySem.W.findIn K (.ref C) name=some none) (hv:mA name=some v) (hv':PySem.W.handedIn v=true) (h:Q v {s with toks:=s.toks+1}):
 wpAny (model prog w) A (getAttr (.ref x) name expr) Q E s:=by
 obtain⟨od,J,hl⟩:=I.look;exact PySem.W.get_value X J (PySem.W.plainGet_of hg).1 (PySem.W.findObj_own hh ha rfl (by rw[hl,hv])) hv' h
theorem D3{pl:Sem Bool}{Q:Value×List Value->Shared->Prop}(X:K.In s.heap)(I:s_ s.heap x dx C mA)(hg:PySem.W.plainGet K C name=true)
 (hf:PySem.W.findIn K (.ref C) name=some (some (.ref f))) (ht:PySem.W.isFn K (.ref f)=true) (hv:mA name=none) (h:Q (.ref f,[.ref x]) s):
 wpAny (model prog w) A (getMethod (.ref x) name pl) Q E s:=by
 obtain⟨od,J,hl⟩:=I.look;exact PySem.W.method_fn X J (PySem.W.plainGet_of hg).1 (PySem.W.plainGet_of hg).2 hf (beq_iff_eq.mp ht) (by show(PySem.W.lookIn name od).map (·.isSome)=some false;rw[hl,hv];rfl) h
theorem gF{ns:List Str}{Q:Unit->Shared->Prop}(X:K.In s.heap)(I:s_ s.heap x dx C mA)
 (hs:PySem.W.findIn K (.ref C) "__setattr__"=some (some (.builtin "object.__setattr__"))) (hp:PySem.W.plainOver K C=true) (ht:PySem.W.takerIn K C name=some none) (hh:PySem.W.hasDictIn K C=true)
 (hw:PySem.Within mA ns) (hsz:ns.length<=sizeLine)
 (h:∀h',s_ h' x dx C (fun y=>if y=name then some v else mA y)->Heap.SameBut dx s.heap h'->Q () {s with heap:=h',toks:=s.toks+2}):
 wpAny (model prog w) A (setAttr (.ref x) name v) Q E s:=by
 obtain⟨od,J,hl⟩:=I.look;refine PySem.W.set_plain X J hs (PySem.W.osa_open (s:={s with toks:=s.toks+1}) (r:=none) X J hp ht fun b=>?_);obtain⟨cd,hc,hd'⟩:=PySem.W.any_some hh;have hx:s.heap.get? x=some ⟨.ref C,some dx,.plain,#[]⟩:=I.obj;refine wpAny_bind (wpAny_pure (wpAny_bind (wpAny_bind (wpAny_loadPart hx (wpAny_bind (PySem.W.Looks.here (s:={s with toks:=s.toks+1}) (PySem.W.looks_clsIn X hc) ?_))))));rw[hd'];refine wpAny_pure (a:=some dx) (wpAny_bind (wpAny_pure (wpAny_bind ?_)));refine wpAny_nsSet1 (s:={s with toks:=s.toks+1}) I.ns fun h' hn2 hs2=>?_;obtain⟨oD,esD,epD,hoD,hdD,hcD⟩:=hn2.count (PySem.Within.cons name v hw);refine wpAny_bind (wpAny_lookBehind hoD (by rw[hdD];exact pastItsLine_dict (Nat.le_trans hcD (by rw[List.length_cons];omega))) ?_);exact wpAny_pure (h _ ⟨(hs2.2 _ (Ne.symm I.ne)).trans I.obj,hn2,I.ne⟩ hs2)
theorem EG{R:Result->Shared->Prop}{vs:List Value}{kw:List (Str×Value)}(X:K.In s.heap)(hm:PySem.W.makesIn K C=true)
 (hi:PySem.W.findIn K (.ref C) "__init__"=some (some (.ref f))) (hf:PySem.W.typeIn K (.ref f)=some (.type "function"))
 (h:codeAny (model prog w) (A.under (.builtin "type.__call__" ⟨.ref C::vs,kw⟩)) (.call (.ref f) ⟨.ref (s.heap.objs.size+1)::vs,kw⟩) (PySem.W.InitBack (s.heap.objs.size+1) R)
   {s with heap:=(s.heap.push PySem.W.emptyDict).push (PySem.W.instObj C s.heap.objs.size)}):
 codeAny (model prog w) A (.call (.ref C) ⟨vs,kw⟩) R s:=by
 obtain⟨hh,g,d,t,os⟩:=s;exact PySem.W.make_core (PySem.W.makes_of X hm) (PySem.W.looks_findIn X hi) (fun self=>PySem.W.bind_fn X self hf) (.inl rfl) h
end
def fX(f:Str)(v:V):List (Str×V)->List (Str×V)
 | []=>[(f,v)]
 |(g,x)::r=>if g=f then(g,v)::r else(g,x)::fX f v r
theorem sH(f g:Str)(v:V):∀fs:List (Str×V),(fX f v fs).lookup g=if g=f then some v else fs.lookup g
 | []=>by
   show List.lookup g [(f,v)]=_;by_cases h:g=f
   . have hb:(g==f)=true:=beq_iff_eq.mpr h;simp only[List.lookup,hb,if_pos h]
   . have hb:(g==f)=false:=beq_eq_false_iff_ne.mpr h;simp only[List.lookup,hb,if_neg h]
 |(k,x)::r=>by
  have ih:=sH f g v r;rw[show fX f v ((k,x)::r)=(if k=f then(k,v)::r else(k,x)::fX f v r)from rfl];by_cases hk:k=f
  . rw[if_pos hk];by_cases h:g=k
    . have hb:(g==k)=true:=beq_iff_eq.mpr h;simp only[List.lookup,hb,if_pos (h.trans hk)]
    . have hb:(g==k)=false:=beq_eq_false_iff_ne.mpr h;simp only[List.lookup,hb,if_neg (fun e:g=f=>h (e.trans hk.symm))]
  . rw[if_neg hk];by_cases h:g=k
    . have hb:(g==k)=true:=beq_iff_eq.mpr h;simp only[List.lookup,hb,if_neg (fun e:g=f=>hk (h.symm.trans e))]
    . have hb:(g==k)=false:=beq_eq_false_iff_ne.mpr h;simp only[List.lookup,hb];exact ih
theorem qx(f:Str)(v:V):∀fs:List (Str×V),f∈(fX f v fs).map (·.1)/\∀g,g∈fs.map (·.1)->g∈(fX f v fs).map (·.1)
 | []=>⟨by simp[fX],fun g h=>by simp at h⟩
 |(k,x)::r=>by
  obtain⟨i1,i2⟩:=qx f v r;rw[show fX f v ((k,x)::r)=(if k=f then(k,v)::r else(k,x)::fX f v r)from rfl];by_cases hk:k=f
  . rw[if_pos hk];subst hk;exact⟨by simp,fun g h=>by simpa using h⟩
  . rw[if_neg hk];refine⟨?_,fun g h=>?_⟩
    . rw[List.map_cons];exact List.mem_cons_of_mem _ i1
    . rw[List.map_cons]at h⊢;rcases List.mem_cons.mp h with e|e
      . exact List.mem_cons.mpr (.inl e)
      . exact List.mem_cons_of_mem _ (i2 g e)
theorem sf(f:Str)(v:V):∀fs:List (Str×V),(fX f v fs).length<=fs.length+1
 | []=>by simp[fX]
 |(k,x)::r=>by
  have ih:=sf f v r;rw[show fX f v ((k,x)::r)=(if k=f then(k,v)::r else(k,x)::fX f v r)from rfl];by_cases hk:k=f
  . rw[if_pos hk,List.length_cons,List.length_cons];omega
  . rw[if_neg hk,List.length_cons,List.length_cons];omega
theorem og.some_of{v:V}{o:Option Value}(r:og (some v) o):∃u,o=some u/\RelV v u:=by
 cases o with
 |none=>exact(show False from r).elim
 |some u=>exact⟨u,rfl,r⟩
theorem og.none_of{o:Option Value}(r:og none o):o=none:=by
 cases o with
 |none=>rfl
 |some u=>exact(show False from r).elim
theorem DJ{v:V}{u:Value}(r:RelV v u):PySem.W.handedIn u=true:=by
 cases v with
 |aE=>cases (show u=Value.none from r);rfl
 |bl b=>cases (show u=Value.bool b from r);rfl
 |int i=>obtain⟨t,e⟩:=(show∃t,u=Value.int i t from r);cases e;rfl
 |str x=>obtain⟨t,e⟩:=(show∃t,u=Value.str x t from r);cases e;rfl
 |sA b=>obtain⟨t,e⟩:=(show∃t,u=Value.bytes b t from r);cases e;rfl
 |sh b=>obtain⟨t,e⟩:=(show∃t,u=Value.float b t from r);cases e;rfl
 |ref a=>cases (show u=Value.ref a from r);rfl
 |ty n=>cases (show u=Value.type n from r);rfl
section
variable {P:Program}{w:World}{H H':Hp}{h h':Heap}{a C dx:Addr}{fs fs':List (Str×V)}
theorem ot(aK:gB P w H h)(e:H a=some (.ins C dx fs)):∃mA,s_ h a dx C mA/\(∀f,og (fs.lookup f) (mA f))/\PySem.Within mA (fs.map (·.1))/\fs.length<=1000/\H dx=some (.own a):=by
 obtain⟨d,z,ne,ob,mA,n,r,q⟩:=(show cW P w H h a (.ins C dx fs)from aK a _ e)
 exact⟨mA,⟨ob,n,ne⟩,r,q,z,d⟩
end
structure nh(K:PySem.W.Frag)(C:Addr):Prop where
 pg:PySem.W.plainGet K C Str.empty=true
 hd:PySem.W.hasDictIn K C=true
 po:PySem.W.plainOver K C=true
 sa:PySem.W.findIn K (.ref C) "__setattr__"=some (some (.builtin "object.__setattr__"))
theorem nh.get{K:PySem.W.Frag}{C:Addr}(c:nh K C)(f:Str):PySem.W.plainGet K C f=true:=c.pg
def fB(K:PySem.W.Frag)(C:Addr)(f:Str):Prop:=PySem.W.findIn K (.ref C) f=some none
theorem fB.LP{K:PySem.W.Frag}{C:Addr}{f:Str}(n:fB K C f):PySem.W.takerIn K C f=some none:=by
 unfold PySem.W.takerIn;rw[show PySem.W.findIn K (.ref C) f=some none from n];rfl
structure Meth(K:PySem.W.Frag)(C:Addr)(m:Str)(f:Addr):Prop where
 at_:PySem.W.findIn K (.ref C) m=some (some (.ref f))
 fn:PySem.W.isFn K (.ref f)=true
 kp:PySem.W.keepIn K (.ref f)=true
section
variable {X:Cx}{pins:List (Addr×Obj)}{σ:St}{H:Hp}{s:Shared}{a C dx:Addr}{fs:List (Str×V)}{f:Str}{v:V}{A:Around}{E:Value->Shared->Prop}
theorem Ae{b:Bool}{Q:Value->Shared->Prop}(I:Inv X pins σ H s)(e:H a=some (.ins C dx fs))(c:nh X.K C)(n:fB X.K C f)(l:fs.lookup f=some v)
 (h:∀u s',Inv X pins σ H s'->RelV v u->Q u s'):wpAny (model X.prog X.w) A (getAttr (.ref a) f b) Q E s:=by
 obtain⟨mA,O,r,_,_,_⟩:=ot I.aK e;obtain⟨u,hu,ru⟩:=og.some_of (v:=v) (o:=mA f) (by rw[<-l];exact r f);exact get_map I.gc O (c.get f) c.hd n hu (DJ ru) (h u _ (I.tok _) ru)
theorem AF{m:Str}{g:Addr}{pl:Sem Bool}{Q:Value×List Value->Shared->Prop}(I:Inv X pins σ H s)(e:H a=some (.ins C dx fs))(c:nh X.K C)(k:Meth X.K C m g)(l:fs.lookup m=none)
 (h:Q (.ref g,[.ref a]) s):wpAny (model X.prog X.w) A (getMethod (.ref a) m pl) Q E s:=by
 obtain⟨mA,O,r,_,_,_⟩:=ot I.aK e;have hn:mA m=none:=og.none_of (by rw[<-l];exact r m);exact D3 I.gc O (c.get m) k.at_ k.fn hn h
theorem A3{y:V}{u:Value}{Q:Unit->Shared->Prop}(I:Inv X pins σ H s)(e:H a=some (.ins C dx fs))(c:nh X.K C)(n:fB X.K C f)(hl:fs.length<1000)(ry:RelV y u)
 (h:∀s',Inv X pins σ (upd H a (.ins C dx (fX f y fs))) s'->Q () s'):wpAny (model X.prog X.w) A (setAttr (.ref a) f u) Q E s:=by
 obtain⟨mA,O,r,wi,_,ho⟩:=ot I.aK e;have hz:(fs.map (·.1)).length<=sizeLine:=by rw[List.length_map,sizeLine_eq];omega
 refine gF I.gc O c.sa c.po n.LP c.hd wi hz fun h' O' sb=>h _ ?_;have hd:∃o,h'.get? dx=some o:=let⟨o,_,_,e',_⟩:=O'.ns;⟨o,e'⟩
 refine I.write (x:=a) (e:=dx) (by rw[e];exact True.intro) (.inr ho) (fun b q hb z=>(sb.2 b hb).trans z) hd ?_;refine⟨by rw[ax O.ne];exact ho,?_,O.ne,O'.obj,_,O'.ns,fun g=>?_,fun g hg=>?_⟩
 . have:=sf f y fs;omega
 . show og ((fX f y fs).lookup g) (if g=f then some u else mA g);rw[sH];by_cases q:g=f
   . rw[if_pos q,if_pos q];exact ry
   . rw[if_neg q,if_neg q];exact r g
 . by_cases q:g=f
   . rw[q];exact(qx f y fs).1
   . refine(qx f y fs).2 g (wi g fun z=>hg ?_);show(if g=f then some u else mA g)=none;rw[if_neg q];exact z
theorem Inv.made(I:Inv X pins σ H s):Inv X pins σ (upd (upd H s.heap.objs.size (.own (s.heap.objs.size+1))) (s.heap.objs.size+1) (.ins C s.heap.objs.size []))
 {s with heap:=(s.heap.push PySem.W.emptyDict).push (PySem.W.instObj C s.heap.objs.size)}:=by
 have e1:(s.heap.push PySem.W.emptyDict).get? s.heap.objs.size=some PySem.W.emptyDict:=Heap.get?_push_size s.heap rfl
 have e2:((s.heap.push PySem.W.emptyDict).push (PySem.W.instObj C s.heap.objs.size)).get? (s.heap.objs.size+1)=some (PySem.W.instObj C s.heap.objs.size):=by
  have:=Heap.get?_push_size (s.heap.push PySem.W.emptyDict) (o:=PySem.W.instObj C s.heap.objs.size) rfl;rwa [Heap.size_push]at this
 have e3:(s.heap.push PySem.W.emptyDict).Ns s.heap.objs.size (fun _=>none):=⟨PySem.W.emptyDict,#[],_,e1,rfl,(fun e he=>absurd he (by simp)),fun _=>rfl⟩
 have I1:=I.laid (a:=s.heap.objs.size) (o:= .own (s.heap.objs.size+1)) (h':=s.heap.push PySem.W.emptyDict) (t':=s.toks) (fun b u q=>Heap.get?_push_of_some _ q) (Nat.le_refl _) ⟨_,e1⟩;refine I1.laid (a:=s.heap.objs.size+1) (o:= .ins C s.heap.objs.size []) (t':=s.toks) (fun b u q=>Heap.get?_push_of_some _ q) (Nat.le_of_eq (Heap.size_push _ _)) ?_;have ne:s.heap.objs.size≠s.heap.objs.size+1:=Nat.ne_of_lt (Nat.lt_succ_self _);refine⟨by rw[ax ne,aY],Nat.zero_le _,ne,e2,fun _=>none,(Heap.Ns1.of_empty e3).at fun o q=>Heap.get?_push_of_some _ q,fun _=>True.intro,fun y hy=>absurd rfl hy⟩
theorem GI{prog:Program}{w:World}{env:Env}{e:Expr}{f:Str}{pos:Pos}{s:Shared}{Q:Value->Shared->Prop}(hb:attributeBase e f env (eval e env)=eval e env)
 (h:wpAny (model prog w) A (eval e env) (fun o s₁=>wpAny (model prog w) A (getAttr o f true) Q E s₁) E s):wpAny (model prog w) A (eval (.Attribute e f pos) env) Q E s:=
 Attribute_any_ h (by rw[arm_eval_Attribute,hb])
end
def MT(K:PySem.W.Frag)(ta:TE)(f:Str):TE:=fun σ H Q=>ta σ H fun x H1=>∃a C dx fs v,x= .ref a/\H1 a=some (.ins C dx fs)/\nh K C/\fB K C f/\fs.lookup f=some v/\Q v H1
def M3(K:PySem.W.Frag)(ta tv:TE)(f:Str):TS:=fun D σ H=>tv σ H fun y H1=>ta σ H1 fun x H2=>∃a C dx fs,x= .ref a/\H2 a=some (.ins C dx fs)/\nh K C/\fB K C f/\fs.length<1000/\
 D.nx σ (upd H2 a (.ins C dx (fX f y fs)))
section
variable {X:Cx}{o e value:Expr}{f:Str}{pos pos' tpos:Pos}{ta tv:TE}
theorem Ku(he:PE X e ta)(hb:attributeBase e f X.env (eval e X.env)=eval e X.env):PE X (.Attribute e f pos) (MT X.K ta f):=by
 intro pins s σ H Q I h;refine GI hb (bL (he pins s σ H _ I h) fun u s1 ⟨x,H1,I1,rx,a,C,dx,fs,v,ex,ea,c,n,l,q⟩=>?_);subst ex;obtain rfl:u=Value.ref a:=rx;exact Ae I1 ea c n l fun u' s2 I2 ru=>⟨v,H1,I2,ru,q⟩
theorem IV(ha:PE X o ta)(hv:PE X value tv)(hs:swapsWith value (some (.Attribute o f pos')) pos.line X.env=pure false):PS X (.Assign [.Attribute o f pos'] value pos) (M3 X.K ta tv f):=by
 intro pins s σ H D I h;refine plainObj_wpAny_Assign_Attribute (bL (hv pins s σ H _ I h) fun u s1 ⟨y,H1,I1,ry,q⟩=>bL (ha pins s1 σ H1 _ I1 q) fun ov s2 ⟨x,H2,I2,rx,a,C,dx,fs,ex,ea,c,n,l,q2⟩=>?_) hs;subst ex;obtain rfl:ov=Value.ref a:=rx;exact A3 I2 ea c n l ry fun s3 I3=>⟨σ,_,I3,q2⟩
end
section
variable {X:Cx}{pins:List (Addr×Obj)}{σ:St}{H:Hp}{s:Shared}{A:Around}{E:Value->Shared->Prop}{Q:Value->Shared->Prop}{c:Value}{b:Bool}
inductive iM(K:PySem.W.Frag)(H:Hp):V->Value->Prop where
 |aE:iM K H .aE (.type "NoneType")
 |bl (x:Bool):iM K H (.bl x) (.type "bool")
 |int (i:Int):iM K H (.int i) (.type "int")
 |str (x:Str):iM K H (.str x) (.type "str")
 |sh (x:UInt64):iM K H (.sh x) (.type "float")
 |lst {a:Addr} {xs:List V} (e:H a=some (.lst xs)):iM K H (.ref a) (.type "list")
 |fP {a:Addr} {o:Obj} {xs:List V} (e:H a=some (.fP o (.lst xs))):iM K H (.ref a) (.type "list")
 |tup {a:Addr} {xs:List V} (e:H a=some (.tup xs)):iM K H (.ref a) (.type "tuple")
 |dK {a:Addr} {kvs:List (Key×V)} (e:H a=some (.dK kvs)):iM K H (.ref a) (.type "dict")
 |dT {a:Addr} {kvs:List (List Key×V)} (e:H a=some (.dT kvs)):iM K H (.ref a) (.type "dict")
 |ins {a C dx:Addr} {fs:List (Str×V)} (e:H a=some (.ins C dx fs)) (cl:nh K C) (ha:PySem.W.findIn K (.ref C) "__class__"=some (some (.builtin "object.__class__")))
   (hn:PySem.W.specialIn K (.builtin "object.__class__") "__get__"=some (some (.builtin "getset_descriptor.__get__"))) (htk:PySem.W.takesIn K (.builtin "object.__class__")=some true)
   (hm:PySem.W.mroIn K C (.type "object")=some true):iM K H (.ref a) (.ref C)
theorem BB{x:V}{u t:Value}(I:Inv X pins σ H s)(rx:RelV x u)(ty:iM X.K H x t)(e:PySem.W.kitOne X.K t c=some b)(h:∀tk,Q (.bool b) {s with toks:=tk}):
 wpAny (model X.prog X.w) A (call (.builtin "isinstance") [u,c]) Q E s:=by
 cases ty with
 |aE=>cases (show u=Value.none from rx);exact PySem.W.kia_one PySem.W.kitx_none I.gc True.intro e (fun z=>nomatch z) h
 |bl y=>cases (show u=Value.bool y from rx);exact PySem.W.kia_one PySem.W.kitx_bool I.gc True.intro e (fun z=>nomatch z) h
 |int i=>obtain⟨t,q⟩:=(show∃t,u=Value.int i t from rx);cases q;exact PySem.W.kia_one PySem.W.kitx_int I.gc True.intro e (fun z=>nomatch z) h
 |str y=>obtain⟨t,q⟩:=(show∃t,u=Value.str y t from rx);cases q;exact PySem.W.kia_one PySem.W.kitx_str I.gc True.intro e (fun z=>nomatch z) h
 |sh y=>obtain⟨t,q⟩:=(show∃t,u=Value.float y t from rx);cases q;exact PySem.W.kia_one PySem.W.kitx_float I.gc True.intro e (fun z=>nomatch z) h
 | @lst a xs ea=>
   cases (show u=Value.ref a from rx);obtain⟨_,_,n,_,h1⟩:=(show cW X.prog X.w H s.heap a (.lst xs)from I.aK a _ ea)
   exact PySem.W.kia_one PySem.W.kitx_list I.gc ⟨_,h1,rfl⟩ e (fun z=>nomatch z) h
 | @fP a ob xs ea=>
   cases (show u=Value.ref a from rx);obtain⟨_,_,_,n,_,h1⟩:=(show cW X.prog X.w H s.heap a (.fP ob (.lst xs))from I.aK a _ ea)
   exact PySem.W.kia_one PySem.W.kitx_list I.gc ⟨_,h1,rfl⟩ e (fun z=>nomatch z) h
 | @tup a xs ea=>
   cases (show u=Value.ref a from rx);obtain⟨_,_,_,p⟩:=(show cW X.prog X.w H s.heap a (.tup xs)from I.aK a _ ea)
   obtain⟨o,h1,h2,_⟩:=p;exact PySem.W.kia_one PySem.W.kitx_tuple I.gc ⟨o,h1,h2⟩ e (fun z=>nomatch z) h
 | @dK a kvs ea=>
   cases (show u=Value.ref a from rx);obtain⟨_,_,vs,_,p⟩:=(show cW X.prog X.w H s.heap a (.dK kvs)from I.aK a _ ea)
   obtain⟨o,es,ep,h1,h2,_⟩:=p;exact PySem.W.kia_one PySem.W.kitx_dict I.gc ⟨o,h1,h2.1⟩ e (fun z=>nomatch z) h
 | @dT a kvs ea=>
   cases (show u=Value.ref a from rx);obtain⟨_,_,xs,_,o,es,ep,h1,h2,_⟩:=(show cW X.prog X.w H s.heap a (.dT kvs)from I.aK a _ ea)
   exact PySem.W.kia_one PySem.W.kitx_dict I.gc ⟨o,h1,h2.1⟩ e (fun z=>nomatch z) h
 | @ins a C dx fs ea cl ha hn htk hm=>
   cases (show u=Value.ref a from rx);obtain⟨mA,O,_⟩:=ot I.aK ea;obtain⟨od,J,_⟩:=O.look;exact PySem.W.kia_one (PySem.W.kitx_own (cl.get _) cl.hd ha hn htk hm) I.gc J e (fun z=>nomatch z) h
end
structure cC(k:Nat)(A:Around):Prop where
 hd:A.handled=none
 dp:A.depth+3*k+105<recursionLimit
 un:A.units+16*k+200<cLine
theorem cC.mono{j k:Nat}{A:Around}(r:cC k A)(h:j<=k):cC j A:=⟨r.hd,by have:=r.dp;omega,by have:=r.un;omega⟩
theorem cC.deeper{k:Nat}{A:Around}(r:cC (k+1) A)(env:Env):cC k (A.deeper env):=
 ⟨r.hd,by have:=r.dp;show A.depth+1+3*k+105<_;omega,by have:=r.un;show A.units+3+16*k+200<_;omega⟩
theorem Bf{A:Around}{C:Addr}{us:List Value}{kw:List (Str×Value)}:(A.under (.builtin "type.__call__" ⟨.ref C::us,kw⟩)).depth=A.depth+1:=by
 first|rfl|simp[Around.under,Code.weight,Code.isCreation,Code.isGuard,Code.isCaller,Code.frames,Code.isFrame,guardIds]
theorem AZ{A:Around}{C:Addr}{us:List Value}{kw:List (Str×Value)}:(A.under (.builtin "type.__call__" ⟨.ref C::us,kw⟩)).units=A.units+1:=by
 first|rfl|simp[Around.under,Code.cUnits,Code.frames,Code.isFrame]
theorem cC.make{k:Nat}{A:Around}(r:cC (k+1) A)(C:Addr)(us:List Value)(kw:List (Str×Value)):cC k (A.under (.builtin "type.__call__" ⟨.ref C::us,kw⟩)):=
 ⟨r.hd,by have:=r.dp;rw[Bf];omega,by have:=r.un;rw[AZ];omega⟩
theorem cC.depth{k:Nat}{A:Around}(r:cC k A):A.depth<recursionLimit:=by have:=r.dp;omega
theorem cC.units{k:Nat}{A:Around}(r:cC k A):A.units+64<cLine:=by have:=r.un;omega
def M0:TA:=fun _ H Q=>Q [] H
def Lr(ta:TE)(tr:TA):TA:=fun σ H Q=>ta σ H fun x H1=>tr σ H1 fun xs H2=>Q (x::xs) H2
section
variable {X:Cx}{e:Expr}{es:List Expr}{te:TE}{t:TA}{pos:Pos}
theorem KP:PA X [] M0:=fun _ _ _ _ H Q I h=>Calls.spliced_nil ⟨[],H,I,.nil,h⟩
theorem GP(ha:PE X e te)(hr:PA X es t)(hs:starEach (e::es) X.env=(false,eval e X.env)::starEach es X.env:=by rfl):PA X (e::es) (Lr te t):=by
 intro pos pins s σ H Q I h;rw[hs];show wpAny _ _ (spliced ((false,eval e X.env)::backTo pos (starEach es X.env))) _ _ s;refine Calls.spliced_cons (bL (ha pins s σ H _ I h) fun u s1 ⟨x,H1,I1,r1,q1⟩=>?_);exact bL (hr pos pins s1 σ H1 _ I1 q1) fun us s2 ⟨xs,H2,I2,r2,q2⟩=>⟨x::xs,H2,I2,.cons r1 r2,q2⟩
def Nv(t:TA):TE:=fun σ H Q=>t σ H fun xs H1=>xs.length<=sizeLine/\∀p,H1 p=none->Q (.ref p) (upd H1 p (.tup xs))
def MZ(t:TA):TE:=fun σ H Q=>t σ H fun xs H1=>xs.length<=sizeLine/\∀p,H1 p=none->Q (.ref p) (upd H1 p (.lst xs))
theorem Ki{x1}(h:PA X es t):PE X (.Tuple es x1 pos) (Nv t):=by
 intro pins s σ H Q I hq;refine wpAny_Tuple_spliced (bL (h pos pins s σ H _ I hq) fun us s1 ⟨xs,H1,I1,r,z,q⟩=>⟨by rw[<-r.length];exact z,?_⟩);have hf:H1 s1.heap.objs.size=none:=I1.aK.fresh (Nat.le_refl _);refine⟨.ref s1.heap.objs.size,upd H1 s1.heap.objs.size (.tup xs),I1.laid (t':=s1.toks) (fun b u e=>Heap.get?_push_of_some _ e) (Nat.le_refl _) ?_,rfl,q _ hf⟩;exact⟨z,us,r,⟨_,Heap.get?_push_size _ rfl,rfl,_,rfl⟩⟩
theorem CF(h:PA X es t):PE X (.List es pos) (MZ t):=by
 intro pins s σ H Q I hq;refine wpAny_List_spliced (bL (h pos pins s σ H _ I hq) fun us s1 ⟨xs,H1,I1,r,z,q⟩=>⟨by rw[<-r.length];exact z,?_⟩);have hf:H1 s1.heap.objs.size=none:=I1.aK.fresh (Nat.le_refl _);refine⟨.ref s1.heap.objs.size,upd H1 s1.heap.objs.size (.lst xs),I1.laid (t':=s1.toks) (fun b u e=>Heap.get?_push_of_some _ e) (Nat.le_refl _) ?_,rfl,q _ hf⟩;exact⟨z,us,0,r,Heap.get?_push_size _ rfl⟩
end
abbrev Sp:=List V->Hp->VK->XK->Prop
abbrev sj:=List Env->Hp->Shared->XK->Value->Shared->Prop
structure tj(P:Program)(w:World)(K:PySem.W.Frag)(mg:Str->Option Value)(base:Heap)(A:Around)(outer:List Env)(s:Shared)(H:Hp):Prop where
 frames:A.frames=some outer
 mod:Mod K mg base
 bs:∀b o,base.get? b=some o->s.heap.get? b=some o/\H b=none
 qz:base.objs.size<=s.heap.objs.size
 jD:s.heap.FunFrames base outer
 tY:∀b∈oP outer,H b=none
 aK:gB P w H s.heap
 bare:AllBare s.gens
 gt:P.given.tree=none
def CE(outer:List Env)(P:Program)(w:World)(H:Hp)(s:Shared)(Q:VK)(u:Value)(s':Shared):Prop:=
 ∃v H',s'.os=s.os/\AllBare s'.gens/\Un (oP outer) [] H H' s.heap s'.heap/\gB P w H' s'.heap/\RelV v u/\Q v H'
def CR(CX:sj)(outer:List Env)(P:Program)(w:World)(H:Hp)(s:Shared)(Q:VK)(E:XK)(r:Result)(s':Shared):Prop:=
 match r with
 | .ok (.ret u)=>CE outer P w H s Q u s'
 | .ok _=>False
 | .error e=>CX outer H s E e s'
structure a9(P:Program)(w:World)(K:PySem.W.Frag)(mg:Str->Option Value)(base:Heap)(CX:sj)(k:Nat)(f:Addr)(fd:FuncData)(ps:List Str)(sp:Sp):Prop where
 len:∀vs H Q E,sp vs H Q E->vs.length=ps.length
 run:∀(A:Around) (outer:List Env) (s:Shared) (H:Hp) (args:Args) (us:List Value) (vs:List V) (Q:VK) (E:XK),cC k A->tj P w K mg base A outer s H->BindsTo s fd args (ps.zip us)->Vals vs us->sp vs H Q E->
  codeAny (model P w) A (.call (.ref f) args) (CR CX outer P w H s Q E) s
theorem a9.imp{P:Program}{w:World}{K:PySem.W.Frag}{mg:Str->Option Value}{base:Heap}{CX:sj}{k:Nat}{f:Addr}{fd:FuncData}{ps:List Str}{sp sp':Sp}(F:a9 P w K mg base CX k f fd ps sp)
 (h:∀vs H Q E,sp' vs H Q E->sp vs H Q E):a9 P w K mg base CX k f fd ps sp':=
 ⟨fun vs H Q E q=>F.len vs H Q E (h _ _ _ _ q),fun A outer s H args us vs Q E hr he hb hv hs=>F.run A outer s H args us vs Q E hr he hb hv (h _ _ _ _ hs)⟩
theorem tj.make{P:Program}{w:World}{K:PySem.W.Frag}{mg:Str->Option Value}{base:Heap}{A:Around}{outer:List Env}{s:Shared}{H:Hp}(e:tj P w K mg base A outer s H)(C:Addr)(us:List Value)(kw:List (Str×Value)):
 tj P w K mg base (A.under (.builtin "type.__call__" ⟨.ref C::us,kw⟩)) outer s H:=⟨by first|exact e.frames|(simpa[Around.under,Code.envs,Code.isFrame,pushEnvs]using e.frames),e.mod,e.bs,e.qz,e.jD,e.tY,e.aK,e.bare,e.gt⟩
section
variable {X:Cx}{pins:List (Addr×Obj)}{σ:St}{H:Hp}{s s':Shared}
theorem Inv.Jb(I:Inv X pins σ H s):tj X.prog X.w X.K X.mg X.base X.A X.stack s H:=
 ⟨I.ok.frames,I.ok.mod,I.bs,Nat.le_trans I.ok.qz I.sz,I.stack,I.vt,I.aK,I.bare,I.ok.gt⟩
theorem Inv.after{Q:VK}{u:Value}(I:Inv X pins σ H s)(h:CE X.stack X.prog X.w H s Q u s'):EP X pins σ Q u s':=by
 obtain⟨v,H',os,bare,un,aK,r,q⟩:=h;obtain⟨hh,g,d,t,os'⟩:=s';obtain rfl:os'=s.os:=os;exact⟨v,H',I.call (h':=hh) (g':=g) (d':=d) (t':=t) (ch:=[]) un aK bare (fun b z=>absurd z (by simp)),r,q⟩
end
def F1(sp:Sp)(dvs:List V)(E:XK)(t:TA):TE:=fun σ H Q=>t σ H fun vs H1=>sp (vs++dvs) H1 Q E
def FE(C:Addr)(m:Str)(sp:Sp)(dvs:List V)(E:XK)(ta:TE)(t:TA):TE:=fun σ H Q=>ta σ H fun x H1=>∃a dx fs,x= .ref a/\H1 a=some (.ins C dx fs)/\fs.lookup m=none/\
 t σ H1 fun vs H2=>sp (x::(vs++dvs)) H2 Q E
def FT(C:Addr)(sp:Sp)(dvs:List V)(E:XK)(t:TA):TE:=fun σ H Q=>t σ H fun vs H1=>∀x dx,H1 x=none->H1 dx=none->dx≠x->
 sp (.ref x::(vs++dvs)) (upd (upd H1 dx (.own x)) x (.ins C dx [])) (fun v H2=>v= .aE/\Q (.ref x) H2) E
def Binds(K:PySem.W.Frag)(fd:FuncData)(ps:List Str)(ds:List Value):Prop:=
 ∀(s:Shared) (us:List Value),K.In s.heap->(us++ds).length=ps.length->BindsTo s fd ⟨us,[]⟩ (ps.zip (us++ds))
theorem Binds.all{K:PySem.W.Frag}{fd:FuncData}{ps:List Str}(h:∀us:List Value,us.length=ps.length->bindArgs fd ⟨us,[]⟩=pure (ps.zip us)):Binds K fd ps []:=fun s us _ hl=>by
 rw[List.append_nil]at hl⊢;exact .of_eq (h us hl)
def Passes(CX:sj)(X:Cx)(E:XK):Prop:=∀(pins:List (Addr×Obj)) (σ:St) (H:Hp) (s:Shared) (e:Value) (s':Shared),Inv X pins σ H s->CX X.stack H s E e s'->X.xe e s'
section
variable {X:Cx}{CX:sj}{k:Nat}{f C:Addr}{fd:FuncData}{ps:List Str}{sp:Sp}{dvs:List V}{ds:List Value}{E:XK}{x m:Str}{p pos apos:Pos}{e o:Expr}{es:List Expr}{ta:TE}{t:TA}
theorem BY{pins:List (Addr×Obj)}{σ:St}{H:Hp}{s:Shared}{Q:VK}{us:List Value}{vs:List V}(F:a9 X.prog X.w X.K X.mg X.base CX k f fd ps sp)(hr:cC k X.A)(hb:Binds X.K fd ps ds)(hd:Vals dvs ds)(hx:Passes CX X E)
 (I:Inv X pins σ H s) (r:Vals vs us) (h:sp (vs++dvs) H Q E):wpAny (model X.prog X.w) X.A (call (.ref f) us) (EP X pins σ Q) X.xe s:=by
 have r2:Vals (vs++dvs) (us++ds):=r.append hd;have hl:(us++ds).length=ps.length:=by rw[<-r2.length];exact F.len _ _ _ _ h
 refine wpAny_call (codeAny_mono (F.run X.A X.stack s H ⟨us,[]⟩ (us++ds) (vs++dvs) Q E hr I.Jb (hb s us I.gc hl) r2 h) fun r s' hq=>?_);cases r with
 |error e=>exact hx pins σ H s e s' I hq
 |ok fl=>
  cases fl with
  |ret u=>exact I.after hq
  |next=>exact False.elim hq
  |brk=>exact False.elim hq
  |cont=>exact False.elim hq
theorem HN(F:a9 X.prog X.w X.K X.mg X.base CX k f fd ps sp)(hr:cC k X.A)(hg:Gl X x)(hm:X.mg x=some (.ref f))(hk:PySem.W.keepIn X.K (.ref f)=true)(hb:Binds X.K fd ps ds)(hd:Vals dvs ds)(hx:Passes CX X E)
 (ha:PA X (e::es) t) (hdb:(x==("__debug__":Str))=false:=by decide) (he:starEach (e::es) X.env=(false,eval e X.env)::starEach es X.env:=by rfl) (hpl:(backTo pos (starEach es X.env)).any (·.1)=false:=by rfl):
 PE X (.Call (.Name x p) (e::es) [] pos) (F1 sp dvs E t):=by
 intro pins s σ H Q I h;refine wpAny_Call_Name_kw (zS I hg hm ?_ hdb);refine PySem.W.callWith_K (h₀:=X.base) I.ok.mod.B0 hk (bL (ha pos pins s σ H _ I h) fun us s1 ⟨vs,H1,I1,r,q⟩=>⟨I1.gc,?_⟩) he hpl;exact BY F hr hb hd hx I1 r q
theorem GY{pl:Sem Bool}(he:PE X o ta)(c:nh X.K C)(hm:Meth X.K C m f)(F:a9 X.prog X.w X.K X.mg X.base CX k f fd ps sp)(hr:cC k X.A)(hb:Binds X.K fd ps ds)(hd:Vals dvs ds)(hx:Passes CX X E)(ha:PA X (e::es) t)
 (hst:starEach (e::es) X.env=(false,eval e X.env)::starEach es X.env:=by rfl) (hpl:(backTo pos (starEach es X.env)).any (·.1)=false:=by rfl)
 (ht:eval (.Call (.Attribute o m apos) (e::es) [] pos) X.env=(do
   let ov <-eval o X.env
   standAt apos.atName
   let(f,first) <-holding [ov] (getMethod ov m pl)
   callWith pos f first (backTo pos (starEach (e::es) X.env)) (backToKw pos (keywordEach [] X.env))):=by rfl):
 PE X (.Call (.Attribute o m apos) (e::es) [] pos) (FE C m sp dvs E ta t):=by
 intro pins s σ H Q I h;refine PySem.W.methodCall_KW (pl:=pl) (bL (he pins s σ H _ I h) fun u s1 ⟨x,H1,I1,rx,a,dx,fs,ex,ea,l,q⟩=>?_) ht;subst ex;obtain rfl:u=Value.ref a:=rx;refine AF I1 ea c hm l ?_;refine PySem.W.callWith_K (first:=[.ref a]) (h₀:=X.base) I.ok.mod.B0 hm.kp (bL (ha pos pins s1 σ H1 _ I1 q) fun us s2 ⟨vs,H2,I2,r,q2⟩=>⟨I2.gc,?_⟩) hst hpl;exact BY (us:= .ref a::us) (vs:= .ref a::vs) F hr hb hd hx I2 (.cons rfl r) q2
structure Mk(K:PySem.W.Frag)(C f:Addr):Prop where
 makes:PySem.W.makesIn K C=true
 init:PySem.W.findIn K (.ref C) "__init__"=some (some (.ref f))
 fn:PySem.W.isFn K (.ref f)=true
 kp:PySem.W.keepIn K (.ref C)=true
theorem EI{pins:List (Addr×Obj)}{σ:St}{H:Hp}{s:Shared}{Q:VK}{us:List Value}{vs:List V}(M:Mk X.K C f)(F:a9 X.prog X.w X.K X.mg X.base CX k f fd ps sp)(hr:cC (k+1) X.A)(hb:Binds X.K fd ps ds)(hd:Vals dvs ds)
 (hx:Passes CX X E) (I:Inv X pins σ H s) (r:Vals vs us)
 (h:∀x dx,H x=none->H dx=none->dx≠x->sp (.ref x::(vs++dvs)) (upd (upd H dx (.own x)) x (.ins C dx [])) (fun v H2=>v= .aE/\Q (.ref x) H2) E):
 wpAny (model X.prog X.w) X.A (call (.ref C) us) (EP X pins σ Q) X.xe s:=by
 have hq:=h (s.heap.objs.size+1) s.heap.objs.size (I.aK.fresh (Nat.le_succ _)) (I.aK.fresh (Nat.le_refl _)) (Nat.ne_of_lt (Nat.lt_succ_self _));have I2:=Inv.made (C:=C) I;have r2:Vals (V.ref (s.heap.objs.size+1)::(vs++dvs)) (Value.ref (s.heap.objs.size+1)::(us++ds)):= .cons rfl (r.append hd)
 have hl:(Value.ref (s.heap.objs.size+1)::us++ds).length=ps.length:=by
  have e:=r2.length;rw[F.len _ _ _ _ hq]at e;exact e.symm
 refine wpAny_call (EG (f:=f) I.gc M.makes M.init (beq_iff_eq.mp M.fn) (codeAny_mono (F.run _ X.stack _ _ ⟨Value.ref (s.heap.objs.size+1)::us,[]⟩ (Value.ref (s.heap.objs.size+1)::(us++ds)) _ _ E (hr.make C us [])
  (I2.Jb.make C us []) (hb _ (Value.ref (s.heap.objs.size+1)::us) I2.gc hl) r2 hq) fun r s' hq'=>?_))
 cases r with
 |error e=>exact hx pins σ _ _ e s' I2 hq'
 |ok fl=>
  cases fl with
  |ret u=>
   obtain⟨v,H',I3,rv,ev,q3⟩:=I2.after hq';subst ev;exact⟨rv,⟨V.ref (s.heap.objs.size+1),H',I3,rfl,q3⟩⟩
  |next=>exact False.elim hq'
  |brk=>exact False.elim hq'
  |cont=>exact False.elim hq'
theorem Ga(M:Mk X.K C f)(F:a9 X.prog X.w X.K X.mg X.base CX k f fd ps sp)(hr:cC (k+1) X.A)(hg:Gl X x)(hm:X.mg x=some (.ref C))(hb:Binds X.K fd ps ds)(hd:Vals dvs ds)(hx:Passes CX X E)
 (ha:PA X (e::es) t) (hdb:(x==("__debug__":Str))=false:=by decide) (he:starEach (e::es) X.env=(false,eval e X.env)::starEach es X.env:=by rfl) (hpl:(backTo pos (starEach es X.env)).any (·.1)=false:=by rfl):
 PE X (.Call (.Name x p) (e::es) [] pos) (FT C sp dvs E t):=by
 intro pins s σ H Q I h;refine wpAny_Call_Name_kw (zS I hg hm ?_ hdb);refine PySem.W.callWith_K (h₀:=X.base) I.ok.mod.B0 M.kp (bL (ha pos pins s σ H _ I h) fun us s1 ⟨vs,H1,I1,r,q⟩=>⟨I1.gc,?_⟩) he hpl;exact EI M F hr hb hd hx I1 r q
end
section
variable {X:Cx}{CX:sj}{k:Nat}{f C:Addr}{fd:FuncData}{ps ks:List Str}{sp:Sp}{E:XK}{x m:Str}{p pos apos kpos:Pos}{e o:Expr}{es:List Expr}{kws:List Keyword}{te ta:TE}{t tk:TA}{nm:Option Str}
variable {g:List Value->List Value->List Value}{gV:List V->List V->List V}
end
structure aN(N P:List Str)(sc:Scope):Prop where
 kind:sc.kind= .function
 co:sc.isCoroutine=false
 gen:sc.isGenerator=false
 nd:N.Nodup
 pre:N.take P.length=P
 par:∀x∈P,sc.names.lookup x=some .local\/sc.names.lookup x=some .cell
 Io:∀y∈sc.names,y.2≠ .free
theorem vK{kindOf:Str->Option NameKind}{x:Str}:∀ {binds:List (Str×Value)} {m:Str->Option Value},(∀v,(x,v)∉binds)->bindL kindOf binds m x=m x
 | [],_,_=>rfl
 |(n,v)::r,m,h=>by
  unfold bindL;rw[vK fun w hw=>h w (List.mem_cons_of_mem _ hw)];split
  . have:x≠n:=by rintro rfl;exact h v List.mem_cons_self
    simp[this]
  . rfl
theorem vB{kindOf:Str->Option NameKind}{x:Str}:∀ {binds:List (Str×Value)} {m:Str->Option Value},(∀v,(x,v)∉binds)->bindC kindOf binds m x=m x
 | [],_,_=>rfl
 |(n,v)::r,m,h=>by
  unfold bindC;rw[vB fun w hw=>h w (List.mem_cons_of_mem _ hw)];split
  . rfl
  . have:x≠n:=by rintro rfl;exact h v List.mem_cons_self
    simp[this]
theorem vS{kindOf:Str->Option NameKind}{x:Str}{v:Value}:∀ {P:List Str} {vs:List Value} {i:Nat} {m:Str->Option Value},P.Nodup->P[i]?=some x->vs[i]?=some v->kindOf x=some .local->
 bindL kindOf (P.zip vs) m x=some v
 | [],_,_,_,_,h,_,_=>by simp at h
 |_::_,[],_,_,_,_,h,_=>by simp at h
 |p::P,w::vs,0,m,nd,h1,h2,hk=>by
  simp at h1 h2;subst h1;subst h2;show bindL kindOf ((p,w)::P.zip vs) m p=_;unfold bindL;rw[vK fun v hv=>(List.nodup_cons.mp nd).1 (List.of_mem_zip hv).1,if_pos hk];simp
 |p::P,w::vs,i+1,m,nd,h1,h2,hk=>by
  show bindL kindOf ((p,w)::P.zip vs) m x=_;unfold bindL;exact vS (i:=i) (List.nodup_cons.mp nd).2 (by simpa using h1) (by simpa using h2) hk
theorem vY{kindOf:Str->Option NameKind}{x:Str}{v:Value}:∀ {P:List Str} {vs:List Value} {i:Nat} {m:Str->Option Value},P.Nodup->P[i]?=some x->vs[i]?=some v->kindOf x≠some .local->
 bindC kindOf (P.zip vs) m x=some v
 | [],_,_,_,_,h,_,_=>by simp at h
 |_::_,[],_,_,_,_,h,_=>by simp at h
 |p::P,w::vs,0,m,nd,h1,h2,hk=>by
  simp at h1 h2;subst h1;subst h2;show bindC kindOf ((p,w)::P.zip vs) m p=_;unfold bindC;rw[vB fun v hv=>(List.nodup_cons.mp nd).1 (List.of_mem_zip hv).1,if_neg hk];simp
 |p::P,w::vs,i+1,m,nd,h1,h2,hk=>by
  show bindC kindOf ((p,w)::P.zip vs) m x=_;unfold bindC;exact vY (i:=i) (List.nodup_cons.mp nd).2 (by simpa using h1) (by simpa using h2) hk
def start(N:List Str)(vs:List V):St:=vs.map some++List.replicate (N.length-vs.length) none
def pM(CX:sj)(P:Program)(w:World)(K:PySem.W.Frag)(mg:Str->Option Value)(base:Heap)(N:List Str)(qual:Str)(scope:Scope)(f:Addr)(cd:Value)(A:Around)(outer:List Env)(s:Shared)(H:Hp)(E:XK):Cx where
 prog:=P
 w:=w
 K:=K
 mg:=mg
 base:=base
 A:=A.deeper (envOfC qual scope s.heap.objs.size f cd)
 N:=N
 s₀:=s
 H₀:=H
 env:=envOfC qual scope s.heap.objs.size f cd
 outer:=outer
 stack:=envOfC qual scope s.heap.objs.size f cd::outer
 ex:=[]
 calm:=true
 fn:=fun _=>true
 pn:=[]
 xe:=fun e s'=>wpAny (model P w) (A.deeper (envOfC qual scope s.heap.objs.size f cd)) (leaving (envOfC qual scope s.heap.objs.size f cd) e) (fun _ s''=>CX outer H s E e s'') (fun e' s''=>CX outer H s E e' s'') s'
theorem xg{sc:Scope}{n:Nat}{x:Str}(h:sc.names.lookup x=some .cell):∃c,(cellsFrom n sc.names []).lookup x=some c:=by
 have q:=PySem.W.cellsFrom_some sc.names n [] (.inl h);exact Option.isSome_iff_exists.mp q
theorem Dl{CX:sj}{P:Program}{w:World}{K:PySem.W.Frag}{mg:Str->Option Value}{base:Heap}{N ps:List Str}{qual:Str}{scope:Scope}{f:Addr}{cd:Value}{A:Around}{outer:List Env}{s s1:Shared}{H:Hp}{E:XK}{us:List Value}{vs:List V}
 (S:aN N ps scope) (hd:A.handled=none) (e0:tj P w K mg base A outer s H) (hl:vs.length=ps.length) (r:Vals vs us)
 (x:InCallC s s.heap.objs.size (bindL (envOfC qual scope s.heap.objs.size f cd).kindOf (ps.zip us) fun _=>none) (cellsFrom (s.heap.objs.size+1) scope.names []) (bindC (envOfC qual scope s.heap.objs.size f cd).kindOf (ps.zip us) fun _=>none) s1):
 Inv (pM CX P w K mg base N qual scope f cd A outer s H E) [] (start N vs) H s1:=by
 have hpl:ps.length<=N.length:=by have:=congrArg List.length S.pre;rw[List.length_take]at this;omega
 obtain⟨h1,tk,rfl,hk⟩:=x.done;have noA:∀b:Addr,b∉(pM CX P w K mg base N qual scope f cd A outer s H E).ex:=fun b z=>absurd (show b∈([]:List Addr)from z) (by simp)
 refine⟨⟨e0.mod,S.kind,rfl,rfl,Nat.le_refl _,fun y z c h1 h2=>?_,fun y hy=>?_,fun y c _ h=>?_,fun _=>hd,Around.frames_deeper e0.frames,.inr ⟨rfl,rfl⟩,fun b z=>absurd z (noA b),e0.bs,e0.qz,fun b _ _=>noA b,fun b z=>absurd z (noA b),e0.jD,e0.tY,e0.gt⟩,
  rfl,e0.bare,Un.kept hk,⟨_,x.toInCall.ns,fun i y v h1 h2 h3=>?_⟩,fun y c h=>⟨_,x.cell y c h⟩,e0.aK.fresh (Nat.le_refl _),fun y c h=>?_,fun p hp=>absurd (show p∈([]:List (Addr×Obj))from hp) (by simp),e0.aK.kept hk,?_⟩
 . exact name_of_addr x.apart (PySem.mem_of_lookup h1) (PySem.mem_of_lookup h2)
 . have hy:scope.names.lookup y=some .cell\/scope.names.lookup y=some .free:=hy;rcases hy with hy|hy
   . exact xg hy
   . exact absurd rfl (S.Io _ (PySem.mem_of_lookup hy))
 . exact Nat.le_of_lt (x.above y c (PySem.mem_of_lookup h))
 . have hi:i<vs.length:=by
    unfold start at h2;by_cases hi:i<vs.length
    . exact hi
    . rw[List.getElem?_append_right (by simpa using hi)]at h2;rw[List.getElem?_replicate]at h2;split at h2<;>cases h2
   have ha:vs[i]?=some v:=by
    unfold start at h2;rw[List.getElem?_append_left (by simpa using hi),List.getElem?_map]at h2;cases e:vs[i]? with
    |none=>rw[e]at h2;cases h2
    |some a=>rw[e]at h2;cases h2;rfl
   obtain⟨u,hu,rv⟩:=r.get ha
   have hp:ps[i]?=some y:=by
    rw[<-S.pre,List.getElem?_take_of_lt (by omega)];exact h1
   have ndP:ps.Nodup:=by rw[<-S.pre];exact S.nd.sublist (List.take_sublist _ _)
   refine⟨u,rv,?_⟩;rcases S.par y (List.mem_of_getElem? hp)with k|k
   . exact .inl ⟨k,vS ndP hp hu k⟩
   . obtain⟨c,e⟩:=xg (n:=s.heap.objs.size+1) k;refine .inr ⟨.inl k,c,e,?_⟩;have q:=x.cell y c e;rw[vY ndP hp hu (by show scope.names.lookup y≠_;rw[k];decide)]at q;exact q
 . exact e0.aK.fresh (Nat.le_of_lt (x.above y c (PySem.mem_of_lookup h)))
 . unfold start;show _=N.length;rw[List.length_append,List.length_map,List.length_replicate];omega
theorem F0{CX:sj}{P:Program}{w:World}{K:PySem.W.Frag}{mg:Str->Option Value}{base:Heap}{k:Nat}{f:Addr}{name qual:Str}{params:Arguments}{body:List Stmt}{scope:Scope}{dV kV doc pm cdv ct oc:Value}{an od:Option Addr}
 {osl:Array (Option Value)} {N ps:List Str} {sp:Sp} (lk:K.lookup f=some ⟨oc,od,.func (PySem.W.fnOf name qual params body scope dV kV doc pm an cdv ct),osl⟩) (hcd:PySem.W.codeIn K cdv qual=true) (S:aN N ps scope)
 (len:∀vs H Q E,sp vs H Q E->vs.length=ps.length)
 (hbody:∀(A:Around) (outer:List Env) (s:Shared) (H:Hp) (vs:List V) (Q:VK) (E:XK),cC k (A.deeper (envOfC qual scope s.heap.objs.size f cdv))->sp vs H Q E->
   ∃t,gd (pM CX P w K mg base N qual scope f cdv A outer s H E) body t/\t {nx:=fun _ H'=>Q .aE H',rt:=Q} (start N vs) H):
 a9 P w K mg base CX (k+1) f (PySem.W.fnOf name qual params body scope dV kV doc pm an cdv ct) ps sp:=by
 refine⟨len,fun A outer s H args us vs Q E hr e0 hb r hsp=>?_⟩;have hl:=len _ _ _ _ hsp;have KX:K.In s.heap:=e0.mod.B0.keeps fun b o e=>(e0.bs b o e).1;have lim:s.heap.NoLimit:=e0.mod.nolimit.keeps fun b o e=>(e0.bs b o e).1
 have hkind:∀y∈ps.zip us,scope.names.lookup y.1=some .local\/(scope.names.lookup y.1=some .cell/\((cellsFrom (s.heap.objs.size+1) scope.names []).lookup y.1).isSome=true):=fun⟨n,v⟩ hy=>by
  rcases S.par n (List.of_mem_zip hy).1 with q|q
  . exact .inl q
  . exact .inr ⟨q,PySem.W.cellsFrom_some _ _ _ (.inl q)⟩
 refine codeAny_call_function hr.depth (KX _ _ lk) rfl S.co S.gen rfl (PySem.W.codeRec_of KX hcd) (hb _ _ _ _ ?_);refine wpAny_newFunctionEnv_cells S.kind hkind fun env he s1 x=>?_;subst he;refine⟨lim.keeps x.toInCall.keep,codeAny_func ?_⟩;obtain⟨t,ht,hq⟩:=hbody A outer s H vs Q E (hr.deeper _) hsp;have I:Inv (pM CX P w K mg base N qual scope f cdv A outer s H E) [] (start N vs) H s1:=Dl S hr.hd e0 hl r x;refine wpAny_mono (ht [] s1 (start N vs) H _ I hq) (fun fl s' hs=>?_) fun e s' hs=>hs
 have fin:∀ {σ':St} {H':Hp} {v:V} {u:Value},Inv (pM CX P w K mg base N qual scope f cdv A outer s H E) [] σ' H' s'->RelV v u->Q v H'->CE outer P w H s Q u s':=
  fun{σ' H' v u} J rv q=>⟨v,H',J.os,J.bare,J.base,J.aK,rv,q⟩
 cases fl with
 |ret u=>
  obtain⟨v,σ',H',J,rv,q⟩:=hs;exact fin J rv q
 |next=>
  obtain⟨σ',H',J,q⟩:=hs;exact fin (v:=V.aE) (u:=Value.none) J rfl q
 |brk=>
  obtain⟨_,_,_,q⟩:=hs;exact False.elim q
 |cont=>
  obtain⟨_,_,_,q⟩:=hs;exact False.elim q
section
variable {X:Cx}{x:Str}{p pos:Pos}{e:Expr}{es:List Expr}{t:TA}{id T:String}{r:List V->Hp->VK->Prop}
def JF(r:List V->Hp->VK->Prop)(t:TA):TE:=fun σ H Q=>t σ H fun vs H1=>r vs H1 Q
theorem DY(hc:cf X (.builtin id) r)(hg:Gl X x)(hm:X.mg x=none)(hv:bootBuiltins x=some (.builtin id))(ha:PA X (e::es) t)(hn:x≠"__name__":=by decide)(hdb:(x==("__debug__":Str))=false:=by decide)
 (he:starEach (e::es) X.env=(false,eval e X.env)::starEach es X.env:=by rfl) (hpl:(backTo pos (starEach es X.env)).any (·.1)=false:=by rfl):PE X (.Call (.Name x p) (e::es) [] pos) (JF r t):=by
 intro pins s σ H Q I h;refine wpAny_Call_Name_kw (jN I hg hm hv ?_ hn hdb);exact PyProof.Rows.callWith_builtin1 (bL (ha pos pins s σ H _ I h) fun us s1 ⟨vs,H1,I1,r1,q1⟩=>hc pins s1 σ H1 vs us Q I1 r1 q1) he hpl
theorem BH(hc:cf X (.type T) r)(hg:Gl X x)(hm:X.mg x=none)(hv:bootBuiltins x=some (.type T))(ha:PA X (e::es) t)(hn:x≠"__name__":=by decide)(hdb:(x==("__debug__":Str))=false:=by decide)
 (he:starEach (e::es) X.env=(false,eval e X.env)::starEach es X.env:=by rfl) (hpl:(backTo pos (starEach es X.env)).any (·.1)=false:=by rfl):PE X (.Call (.Name x p) (e::es) [] pos) (JF r t):=by
 intro pins s σ H Q I h;refine wpAny_Call_Name_kw (jN I hg hm hv ?_ hn hdb);exact PyProof.Rows.callWith_type1 (bL (ha pos pins s σ H _ I h) fun us s1 ⟨vs,H1,I1,r1,q1⟩=>hc pins s1 σ H1 vs us Q I1 r1 q1) he hpl
end
end L2
namespace HT
open PySem PyProof.Rows
section
open PySem.SeqAt
open PySem.AutoSeq1 (wpAny_loadPart')
open PySem.MeetsSeq PySem.MeetsSeq2 PySem.MeetsSeq3
end
section
variable {prog:Program}{w:World}{A:Around}{E:Value->Shared->Prop}{s:Shared}
theorem GB{t b:Addr}{vs ws:List Value}{Q:Value->Shared->Prop}(ht:IsTup s.heap t vs.toArray)(hb:IsTup s.heap b ws.toArray)(hv:vs≠ [])
 (h1:ws=[]->Q (.ref t) s) (h2:ws≠ []->Q (.ref s.heap.objs.size) {s with heap:=s.heap.push {cls:= .type "tuple",data:= .seq (vs++ws).toArray}})
 (hsz:vs.length+ws.length<=sizeLine):wpAny (model prog w) A (binaryOp .Add (.ref t) (.ref b)) Q E s:=by
 obtain⟨⟨cls,dd,data,sl⟩,ho,hc,n,hd⟩:=id ht;obtain⟨⟨cls2,dd2,data2,sl2⟩,ho2,hc2,n2,hd2⟩:=id hb;simp only at hc hd hc2 hd2;subst hc hd hc2 hd2;have e:vs.toArray++ws.toArray=(vs++ws).toArray:=by simp
 by_cases hw:ws=[]
 . exact concat_meets ⟨_,ho,rfl⟩ ⟨_,ho2,rfl⟩ noFill_tuple_add seq_tuple_add PySem.F.slot_tuple_add PySem.F.entry_tuple_add (PySem.F.args_tuple_add_2 _ _)
    (tuple_addW1 t b vs.toArray ws.toArray n n2 dd dd2 sl sl2 (by simpa using hv) (by simp[hw])) ⟨ho,ho2,h1 hw⟩
 . refine concat_meets ⟨_,ho,rfl⟩ ⟨_,ho2,rfl⟩ noFill_tuple_add seq_tuple_add PySem.F.slot_tuple_add PySem.F.entry_tuple_add (PySem.F.args_tuple_add_2 _ _)
    (tuple_addW2 t b vs.toArray ws.toArray n n2 dd dd2 sl sl2 (by simpa using hv) (by simpa using hw) (by rw[List.size_toArray,List.size_toArray];exact hsz)) ⟨ho,ho2,?_⟩
   rw[e];exact h2 hw
def bN(n d:Nat):Option Int->Nat
 |none=>d
 |some v=>if v<0 then(v+(n:Int)).toNat else min v.toNat n
theorem yo(n d:Nat):bN n d none=d:=rfl
theorem zA(n d k:Nat):bN n d (some (k:Int))=min k n:=by
 show(if(k:Int)<0 then((k:Int)+(n:Int)).toNat else min (k:Int).toNat n)=min k n;rw[if_neg (by omega),Int.toNat_natCast]
theorem KO(n d:Nat)(hd:d<=n)(o:Option Int):bN n d o<=n:=by
 cases o with
 |none=>exact hd
 |some v=>
  show(if v<0 then(v+(n:Int)).toNat else min v.toNat n)<=n;by_cases hv:v<0
  . rw[if_pos hv];omega
  . rw[if_neg hv];exact Nat.min_le_right _ _
theorem zQ(v:Int)(n d:Nat):(if v<0 then max (v+(n:Int)) 0 else min v (n:Int))=((bN n d (some v):Nat):Int):=by
 show(if v<0 then max (v+(n:Int)) 0 else min v (n:Int))=(((if v<0 then(v+(n:Int)).toNat else min v.toNat n):Nat):Int)
 by_cases hv:v<0
 . simp only[if_pos hv];omega
 . simp only[if_neg hv];omega
theorem Aw(lo hi:Option Int)(n:Nat):Builtin.Slice.sliceAdjust lo hi 1 (n:Int)=(((bN n 0 lo:Nat):Int),((bN n n hi:Nat):Int)):=by
 have h1:¬((1:Int)<0):=by omega
 unfold Builtin.Slice.sliceAdjust;simp only[h1,if_false];refine Prod.ext ?_ ?_
 . cases lo with
   |none=>rfl
   |some v=>exact zQ v n 0
 . cases hi with
   |none=>rfl
   |some v=>exact zQ v n n
theorem Bh(i j:Nat):Builtin.Slice.slicePlaces (i:Int) (j:Int) 1=j-i:=by
 unfold Builtin.Slice.slicePlaces;have h1:(1:Int)>0:=by omega
 simp only[h1,if_true,Int.ediv_one];split<;>omega
theorem tM{v:Value}{o:Option Int}{Q:Option Int->Shared->Prop}(p:IsPart v o)(h:Q o s):wpAny (model prog w) A (Builtin.Slice.slicePartIndex v) Q E s:=by
 cases p with
 |none=>exact slicePart_none h
 |int i t=>exact slicePart_int h
theorem nq{sl:Addr}{vl vu:Value}{lo hi:Option Int}{n:Nat}{Q:Int×Int×Nat->Shared->Prop}(hs:s.heap.IsSliceOf sl vl vu .none)(pl:IsPart vl lo)(pu:IsPart vu hi)
 (h:Q (((bN n 0 lo:Nat):Int),1,bN n n hi-bN n 0 lo) s):wpAny (model prog w) A (Builtin.Slice.sliceApplied (.ref sl) (pure (n:Int))) Q E s:=by
 obtain⟨os,hos,hcs,hds⟩:=id hs;unfold Builtin.Slice.sliceApplied Builtin.Slice.sliceFields;refine wpAny_bind (wpAny_bind (wpAny_field hos hds (x:=vl) rfl (wpAny_bind (wpAny_field hos hds (x:=vu) rfl (wpAny_bind (wpAny_field hos hds (x:= .none) rfl (wpAny_pure ?_)))))));refine wpAny_bind (slicePart_none ?_);show wpAny _ _ (if((1:Int)==0)=true then _ else _) _ _ s;rw[if_neg (by decide)];refine wpAny_bind (tM pl (wpAny_bind (tM pu (wpAny_bind (wpAny_pure ?_)))));show wpAny _ _ (match Builtin.Slice.sliceAdjust lo hi 1 (n:Int)with|(lo,hi)=>pure (lo,(1:Int),Builtin.Slice.slicePlaces lo hi 1)) _ _ s;rw[Aw lo hi n];show wpAny _ _ (pure (((bN n 0 lo:Nat):Int),(1:Int),Builtin.Slice.slicePlaces ((bN n 0 lo:Nat):Int) ((bN n n hi:Nat):Int) 1)) _ _ s;rw[Bh];exact wpAny_pure h
theorem DV(xs:Array Value)(i k:Nat):((List.range k).filterMap fun(m:Nat)=>xs[((i:Int)+(m:Int)*1).toNat]?).toArray=((xs.toList.drop i).take k).toArray:=by
 have e:(fun(m:Nat)=>xs[((i:Int)+(m:Int)*1).toNat]?)=fun m=>xs[i+m]?:=by
  funext m;have:((i:Int)+(m:Int)*1).toNat=i+m:=by omega
  rw[this]
 rw[e];have:=pick_run xs i k;rw[List.filterMap_map]at this;have e2:((fun x=>xs[x]?)∘fun x=>i+x)=fun m=>xs[i+m]?:=rfl;rw[e2]at this;rw[this]
theorem rZ{t sl:Addr}{items:Array Value}{vl vu:Value}{lo hi:Option Int}{Q:Value->Shared->Prop}(ht:IsTup s.heap t items)(hs:s.heap.IsSliceOf sl vl vu .none)(pl:IsPart vl lo)(pu:IsPart vu hi)
 (hw:¬(bN items.size 0 lo=0/\bN items.size items.size hi=items.size))
 (h:Q (.ref s.heap.objs.size) {s with heap:=s.heap.push {cls:= .type "tuple",data:= .seq ((items.toList.drop (bN items.size 0 lo)).take (bN items.size items.size hi-bN items.size 0 lo)).toArray}})
 (hsz:items.size<=sizeLine):wpAny (model prog w) A (getItem (.ref t) (.ref sl)) Q E s:=by
 have htake:sizeOk (.seq ((items.toList.drop (bN items.size 0 lo)).take (bN items.size items.size hi-bN items.size 0 lo)).toArray):=by
  show((items.toList.drop (bN items.size 0 lo)).take (bN items.size items.size hi-bN items.size 0 lo)).toArray.size<=sizeLine;rw[List.size_toArray,List.length_take,List.length_drop,Array.length_toList];omega
 have hj:bN items.size items.size hi<=items.size:=KO _ _ (Nat.le_refl _) hi;obtain⟨os,hos,hcs,hds⟩:=id hs;have hTs:s.TypeIs (.ref sl) "slice":=⟨os,hos,hcs⟩
 unfold getItem;try with_reducible refine wpAny_holding ?_
 first|refine wpAny_bind (wpAny_pure ?_)|skip
 refine wpAny_bind (wpAny_sequenceKey ht.typeIs (by decide) ?_)
 refine wpAny_bind (wpAny_callSpecial?_slot (name:=Str.ofString "__getitem__") ht.typeIs PyProof.Rows.slot_tuple_getitem
  (wpAny_call_entry PyProof.Rows.slot_tuple_getitem ht.typeIs entry_tuple_getitem ?_ (args_tuple_getitem _ _)))
 show wpAny _ _ (Builtin.Tuple.tupleItemsOf (.ref t) >>= _) _ _ s;refine wpAny_bind (tupleItemsOf_ ht ?_);refine wpAny_bind (wpAny_typeOf hTs ?_);rw[if_pos (by decide)];refine wpAny_bind (nq hs pl pu ?_)
 have hno:¬((((bN items.size 0 lo:Nat):Int)==0&&(1:Int)==1&&(bN items.size items.size hi-bN items.size 0 lo)==items.size)=true):=by
  intro q;rw[Bool.and_eq_true,Bool.and_eq_true]at q;have q1:((bN items.size 0 lo:Nat):Int)=0:=eq_of_beq q.1.1;have q2:bN items.size items.size hi-bN items.size 0 lo=items.size:=eq_of_beq q.2;exact hw ⟨by omega,by omega⟩
 show wpAny _ _ (if(((bN items.size 0 lo:Nat):Int)==0&&(1:Int)==1&&(bN items.size items.size hi-bN items.size 0 lo)==items.size)=true then _ else _) _ _ s;rw[if_neg hno,DV]
 first
  |exact wpAny_bind (m:=Builtin.Tuple.tupleExact _) (wpAny_newObj_type (wpAny_pure ⟨_,rfl,wpAny_pure h⟩) htake)
  |exact wpAny_bind (m:=Builtin.Tuple.tupleExact _) (wpAny_newObj_type (wpAny_bind (wpAny_pure (wpAny_pure ⟨_,rfl,wpAny_pure h⟩))) htake)
  |exact wpAny_bind (wpAny_bind (m:=Builtin.Tuple.tupleExact _) (wpAny_newObj_type (wpAny_pure (wpAny_pure ⟨_,rfl,wpAny_pure h⟩)) htake))
  |exact wpAny_bind (wpAny_bind (m:=Builtin.Tuple.tupleExact _) (wpAny_newObj_type (wpAny_pure ⟨_,rfl,wpAny_pure h⟩) htake))
end
end HT
namespace L2
open PySem PySem.Spec PyProof.Rows
abbrev TO:=St->Hp->(Option Int->Hp->Prop)->Prop
def PO(X:Cx)(e:Option Expr)(t:TO):Prop:=
 ∀(pins:List (Addr×Obj)) (s:Shared) (σ:St) (H:Hp) (Q:Option Int->Hp->Prop),Inv X pins σ H s->t σ H Q->
  wpAny (model X.prog X.w) X.A (evalPart e X.env) (fun u s'=>∃o H',Inv X pins σ H' s'/\IsPart u o/\Q o H') X.xe s
def HQ:TO:=fun _ H Q=>Q none H
def Ma(t:TE):TO:=fun σ H Q=>t σ H fun x H1=>∃i,x= .int i/\Q (some i) H1
section
variable {X:Cx}{e:Expr}{te:TE}{lo hi:Option Expr}{tl th:TO}{pos p2:Pos}
theorem Hr:PO X none HQ:=by
 intro pins s σ H Q I h;rw[evalPart_none];exact wpAny_pure ⟨none,H,I,.none,h⟩
theorem GD(h:PE X e te):PO X (some e) (Ma te):=by
 intro pins s σ H Q I hw;rw[evalPart_some];refine bL (h pins s σ H _ I hw) fun u s1 ⟨x,H1,I1,r1,q1⟩=>?_;obtain⟨i,rfl,q⟩:=q1;obtain⟨t,rfl⟩:=r1;exact⟨some i,H1,I1,.int i t,q⟩
def CU(X:Cx)(r:V->Option Int->Option Int->Hp->VK->Prop):Prop:=
 ∀(pins:List (Addr×Obj)) (s:Shared) (σ:St) (H:Hp) (x:V) (v vl vu:Value) (lo hi:Option Int) (sl:Addr) (Q:VK),Inv X pins σ H s->RelV x v->s.heap.IsSliceOf sl vl vu .none->IsPart vl lo->IsPart vu hi->r x lo hi H Q->
  ∃T id,typeLookup (.type T) "__getitem__"=pure (some (.builtin id))/\s.TypeIs v T/\wpAny (model X.prog X.w) X.A (getItem v (.ref sl)) (EP X pins σ Q) X.xe s
def N9(r:V->Option Int->Option Int->Hp->VK->Prop)(te:TE)(tl th:TO):TE:=fun σ H Q=>te σ H fun x H1=>tl σ H1 fun l H2=>th σ H2 fun u H3=>r x l u H3 Q
theorem D8{r:V->Option Int->Option Int->Hp->VK->Prop}(hr:CU X r)(he:PE X e te)(hl:PO X lo tl)(hu:PO X hi th):PE X (.Subscript e (.Slice lo hi none p2) pos) (N9 r te tl th):=by
 intro pins s σ H Q I h;refine Subscript_ (bL (he pins s σ H _ I h) fun v s1 ⟨x,H1,I1,r1,q1⟩=>?_);refine wpAny_Slice (bL (hl pins s1 σ H1 _ I1 q1) fun vl s2 ⟨l,H2,I2,pl,q2⟩=>bL (hu pins s2 σ H2 _ I2 q2) fun vu s3 ⟨u,H3,I3,pu,q3⟩=>?_);rw[evalPart_none];refine wpAny_pure ?_;have I4:Inv X pins σ H3 {s3 with heap:=s3.heap.push {cls:= .type "slice",data:= .fields #[vl,vu,.none]}}:=I3.kept (t':=s3.toks) fun b ob q=>Heap.get?_push_of_some _ q;obtain⟨T,id,hT,ht,hg⟩:=hr pins {s3 with heap:=s3.heap.push {cls:= .type "slice",data:= .fields #[vl,vu,.none]}} σ H3 x v vl vu l u s3.heap.objs.size Q I4 r1 (Heap.IsSliceOf.new ..) pl pu q3;show wpAny (model X.prog X.w) X.A (subscriptTail e (.Slice lo hi none p2) v (.ref s3.heap.objs.size)) (EP X pins σ Q) X.xe {s3 with heap:=s3.heap.push {cls:= .type "slice",data:= .fields #[vl,vu,.none]}};exact tail_any (ops:=[.ref s3.heap.objs.size,v]) ht hT hg (by with_unfolding_all rfl)
def pB(xs:List V)(lo hi:Option Int):List V:=(xs.drop (HT.bN xs.length 0 lo)).take (HT.bN xs.length xs.length hi-HT.bN xs.length 0 lo)
theorem sE(xs:List V)(lo hi:Option Int):(pB xs lo hi).length<=xs.length:=by
 unfold pB;rw[List.length_take,List.length_drop];omega
def Nb(K:PySem.W.Frag):V->Option Int->Option Int->Hp->VK->Prop:=fun x lo hi H Q=>∃a xs,x= .ref a/\hJ K H a xs/\
 ¬(HT.bN xs.length 0 lo=0/\HT.bN xs.length xs.length hi=xs.length)/\∀p,H p=none->Q (.ref p) (upd H p (.tup (pB xs lo hi)))
theorem Ib:CU X (Nb X.K):=by
 intro pins s σ H x v vl vu lo hi sl Q I rx hs pl pu h;obtain⟨a,xs,rfl,hx,hw,q⟩:=h;cases rx;obtain⟨aq,r,ht,hz⟩:=I.tuple hx;have hlen:aq.toArray.size=xs.length:=by rw[List.size_toArray];exact r.length.symm
 refine⟨"tuple",_,PyProof.Rows.slot_tuple_getitem.lookup,ht.typeIs,?_⟩;refine HT.rZ ht hs pl pu (by rw[hlen];exact hw) ?_ (by rw[hlen];exact hz);rw[hlen];refine⟨.ref s.heap.objs.size,_,I.laid (t':=s.toks) (o:= .tup (pB xs lo hi)) (fun b ob q=>Heap.get?_push_of_some _ q) (Nat.le_refl _) ?_,rfl,q _ (I.aK.fresh (Nat.le_refl _))⟩;exact⟨Nat.le_trans (sE xs lo hi) hz,_,(r.drop (HT.bN xs.length 0 lo)).take (HT.bN xs.length xs.length hi-HT.bN xs.length 0 lo),IsTup.new _ _⟩
def Li(K:PySem.W.Frag):R2:=fun x y H Q=>∃a b xs ys,x= .ref a/\y= .ref b/\hJ K H a xs/\hJ K H b ys/\xs≠ []/\xs.length+ys.length<=sizeLine/\
 (ys=[]->Q (.ref a) H)/\(ys≠ []->∀p,H p=none->Q (.ref p) (upd H p (.tup (xs++ys))))
theorem Vals.rN{xs:List V}{us:List Value}(r:Vals xs us):us=[]↔xs=[]:=by
 cases r with
 |nil=>simp
 |cons _ _=>simp
theorem GL:bS X (binaryOp .Add) (Li X.K):=by
 intro pins s σ H x y v u Q I rx ry h;obtain⟨a,b,xs,ys,rfl,rfl,ha,hb,hx,hz,q1,q2⟩:=h;cases rx;cases ry;obtain⟨aq,r1,p1,_⟩:=I.tuple ha;obtain⟨its2,r2,p2,_⟩:=I.tuple hb;refine HT.GB p1 p2 (fun z=>hx (r1.rN.mp z)) (fun z=>⟨.ref a,H,I,rfl,q1 (r2.rN.mp z)⟩) (fun z=>?_) (by rw[<-r1.length,<-r2.length];exact hz);refine⟨.ref s.heap.objs.size,_,I.laid (t':=s.toks) (o:= .tup (xs++ys)) (fun b ob q=>Heap.get?_push_of_some _ q) (Nat.le_refl _) ?_,rfl,q2 (fun w=>z (r2.rN.mpr w)) _ (I.aK.fresh (Nat.le_refl _))⟩;exact⟨by rw[List.length_append];exact hz,_,r1.append r2,IsTup.new _ _⟩
end
def iL(n:Nat)(i:Int):Option Nat:=if 0<=i then(if i<n then some i.toNat else none)else if-(n:Int)<=i then some (i+n).toNat else none
def dP{α:Type}(xs:List α)(i:Int):Option α:=(iL xs.length i).bind fun j=>xs[j]?
theorem zo{n:Nat}{i:Int}{j:Nat}(h:iL n i=some j):seqIndex? i n=some j/\j<n/\ -(n:Int)<=i/\i<n:=by
 unfold iL at h;by_cases h0:0<=i
 . rw[if_pos h0]at h;by_cases h1:i<n
   . rw[if_pos h1]at h;have e:i.toNat=j:=Option.some.inj h;exact⟨by rw[seqIndex_of h0 h1,e],by omega,by omega,h1⟩
   . rw[if_neg h1]at h;cases h
 . rw[if_neg h0]at h;by_cases h1: -(n:Int)<=i
   . rw[if_pos h1]at h;have e:(i+n).toNat=j:=Option.some.inj h;exact⟨by rw[seqIndex_neg (by omega) h1,e],by omega,h1,by omega⟩
   . rw[if_neg h1]at h;cases h
theorem u4{α:Type}{xs:List α}{i:Int}{v:α}(h:dP xs i=some v):∃j,seqIndex? i xs.length=some j/\xs[j]?=some v/\j<xs.length/\ -(xs.length:Int)<=i/\i<xs.length:=by
 unfold dP at h;cases e:iL xs.length i with
 |none=>rw[e]at h;cases h
 |some j=>
  rw[e]at h;obtain⟨h1,h2,h3,h4⟩:=zo e;exact⟨j,h1,h,h2,h3,h4⟩
theorem mF{α:Type}{xs:List α}{j:Nat}{v:α}(h:xs[j]?=some v):dP xs (j:Int)=some v:=by
 have hj:j<xs.length:=(List.getElem?_eq_some_iff.mp h).1
 have e:iL xs.length (j:Int)=some j:=by
  unfold iL;rw[if_pos (by omega),if_pos (by omega)];simp
 unfold dP;rw[e];exact h
def rO(b:Expr):Prop:=∀o i,subscripted b false o i=operate [o,i] (getItem o i)
def FI(X:Cx)(r:R2):Prop:=
 ∀(value slice:Expr) (pins:List (Addr×Obj)) (s:Shared) (σ:St) (H:Hp) (x y:V) (v u:Value) (Q:VK),Inv X pins σ H s->RelV x v->RelV y u->r x y H Q->
  subscripted slice false v u=operate [v,u] (getItem v u)->wpAny (model X.prog X.w) X.A (subscriptTail value slice v u) (EP X pins σ Q) X.xe s
def Mr(X:Cx)(id:String)(r:V->List V->Hp->VK->Prop):Prop:=
 ∀(pins:List (Addr×Obj)) (s:Shared) (σ:St) (H:Hp) (x:V) (xs:List V) (v:Value) (us:List Value) (Q:VK),Inv X pins σ H s->RelV x v->Vals xs us->r x xs H Q->
  wpAny (model X.prog X.w) X.A (call (.builtin id) (v::us)) (EP X pins σ Q) X.xe s
section
variable {X:Cx}{a b:Expr}{ta tb:TE}{pos:Pos}
theorem Mc{r:R2}(hr:FI X r)(ha:PE X a ta)(hb:PE X b tb)(hs:rO b):PE X (.Subscript a b pos) (Cu r ta tb):=by
 intro pins s σ H Q I h;exact Subscript_ (Eb ha hb I h fun v u s2 x y H2 I2 rx ry q=>hr a b pins s2 σ H2 x y v u Q I2 rx ry q (hs _ _))
def Ng(K:PySem.W.Frag):R2:=fun x y H Q=>∃p xs i v,x= .ref p/\y= .int i/\lI K H p xs/\dP xs i=some v/\Q v H
def Ni(K:PySem.W.Frag):R2:=fun x y H Q=>∃p xs i v,x= .ref p/\y= .int i/\hJ K H p xs/\dP xs i=some v/\Q v H
theorem zE:FI X (Ng X.K):=by
 intro value slice pins s σ H x y v u Q I rx ry h hs;obtain⟨p,xs,i,z,rfl,rfl,hq,he,q⟩:=h;cases rx;obtain⟨t,rfl⟩:=ry;obtain⟨aq,r,pl,hz⟩:=I.list hq;obtain⟨j,h1,h2,h3,h4,h5⟩:=u4 he;obtain⟨w,ew,rw'⟩:=r.get h2;have hl:=r.length;have hn:=qj;have fin:EP X pins σ Q w s:=⟨z,H,I,rw',q⟩
 by_cases h0:0<=i
 . have hj:i.toNat=j:=by
    rw[seqIndex_of h0 h5]at h1;exact Option.some.inj h1
   exact item_listR pl.isList h0 (by omega) (by rw[hj];simpa using ew) fin hs
 . have hj:(i+(aq.toArray.size:Int)).toNat=j:=by
    rw[seqIndex_neg (by omega) h4]at h1;rw[List.size_toArray,<-hl];exact Option.some.inj h1
   exact subscriptTail_builtinR (x:=w) pl.isList.typeIs slot_list_getitem.lookup
    (wpAny_getItem_list_neg (Q:=fun r s'=>r=w/\EP X pins σ Q r s') pl.isList (by omega) (by rw[List.size_toArray]<;>omega) (by omega) (by rw[hj];simpa using ew) ⟨rfl,fin⟩) hs
theorem J5:FI X (Ni X.K):=by
 intro value slice pins s σ H x y v u Q I rx ry h hs;obtain⟨p,xs,i,z,rfl,rfl,hq,he,q⟩:=h;cases rx;obtain⟨t,rfl⟩:=ry;obtain⟨aq,r,pl,hz⟩:=I.tuple hq;obtain⟨j,h1,h2,h3,h4,h5⟩:=u4 he;obtain⟨w,ew,rw'⟩:=r.get h2;have hl:=r.length;have hn:=qj;have fin:EP X pins σ Q w s:=⟨z,H,I,rw',q⟩
 exact subscriptTail_builtinR (x:=w) pl.typeIs slot_tuple_getitem.lookup
  (getItem_tuple (j:=j) (Q:=fun r s'=>r=w/\EP X pins σ Q r s') pl (by omega) (by omega) (by rw[List.size_toArray,<-hl];exact h1) (by simpa using ew) ⟨rfl,fin⟩) hs
theorem AJ(aq:List Value)(n j:Nat)(u:Value):Obj.mapSeq (·.setIfInBounds j u) {cls:= .type "list",data:= .seq aq.toArray n}= {cls:= .type "list",data:= .seq (aq.set j u).toArray n}:=by
 simp[Obj.mapSeq]
theorem Inv.lst{pins:List (Addr×Obj)}{σ:St}{H:Hp}{s:Shared}{p:Addr}{xs:List V}(I:Inv X pins σ H s)(h:H p=some (.lst xs)):
 ∃(aq:List Value) (n:Nat),Vals xs aq/\s.heap.get? p=some {cls:= .type "list",data:= .seq aq.toArray n}/\xs.length<=sizeLine:=by
 obtain⟨z,aq,n,r,e⟩:=I.aK p _ h;exact⟨aq,n,r,e,z⟩
theorem Inv.IH{pins:List (Addr×Obj)}{σ:St}{H:Hp}{s:Shared}{p:Addr}{xs ys:List V}{aq its':List Value}{n n':Nat}{f:Obj->Obj}(I:Inv X pins σ H s)(h:H p=some (.lst xs))
 (ho:s.heap.get? p=some {cls:= .type "list",data:= .seq aq.toArray n}) (hf:f {cls:= .type "list",data:= .seq aq.toArray n}= {cls:= .type "list",data:= .seq its'.toArray n'}) (r:Vals ys its') (hz:ys.length<=sizeLine) (t:Nat):
 Inv X pins σ (upd H p (.lst ys)) {s with heap:=s.heap.update p f,toks:=t}:=by
 have e:(s.heap.update p f).get? p=some {cls:= .type "list",data:= .seq its'.toArray n'}:=by
  rw[Heap.get?_update_self f ho (by rw[hf]<;>rfl),hf]
 refine I.write (x:=p) (e:=p) (by rw[h];trivial) (.inl rfl) (fun b u hb q=>(Heap.get?_update_other _ _ (Ne.symm hb)).trans q) ⟨_,e⟩ ?_;exact⟨hz,its',n',r,e⟩
def wX:V->V->V->Hp->(Hp->Prop)->Prop:=fun o i v H Q=>∃p xs k j,o= .ref p/\i= .int k/\H p=some (.lst xs)/\iL xs.length k=some j/\Q (upd H p (.lst (xs.set j v)))
theorem set_list:Kh X wX:=by
 intro pins s σ H o i v ov iv u Q I ro ri rv h;obtain⟨p,xs,k,j,rfl,rfl,hp,hj,q⟩:=h;cases ro;obtain⟨t,rfl⟩:=ri;obtain⟨aq,n,r,ho,hz⟩:=I.lst hp;obtain⟨h1,h2,h3,h4⟩:=zo hj;have hl:=r.length;have hn:=qj
 have I':Inv X pins σ (upd H p (.lst (xs.set j v))) {s with heap:=s.heap.update p (Obj.mapSeq (·.setIfInBounds j u))}:=
  I.IH hp ho (AJ aq n j u) (r.set rv j) (by rw[List.length_set];exact hz) s.toks
 by_cases h0:0<=k
 . have hk:k.toNat=j:=by
    rw[seqIndex_of h0 h4]at h1;exact Option.some.inj h1
   exact PySem.W.ki_setAt ho h0 (by omega) (by rw[List.size_toArray,<-hl];exact h4) (by rw[hk];exact⟨_,I',q⟩)
 . have hk:(k+(aq.toArray.size:Int)).toNat=j:=by
    rw[seqIndex_neg (by omega) h3]at h1;rw[List.size_toArray,<-hl];exact Option.some.inj h1
   exact PySem.W.ki_setBack ho (by omega) (by rw[List.size_toArray,<-hl];exact h3) (by omega) (by rw[hk];exact⟨_,I',q⟩)
theorem yD(lo hi:Option Int)(n:Nat):(sliceBounds lo hi none n).1=((HT.bN n 0 lo:Nat):Int)/\(sliceBounds lo hi none n).2.1=((HT.bN n n hi:Nat):Int)/\(sliceBounds lo hi none n).2.2=1:=by
 refine⟨?_,?_,rfl⟩
 . cases lo with
   |none=>simp[sliceBounds,HT.bN]
   |some i=>
    simp only[sliceBounds,HT.bN,Option.getD_none,show(1:Int)>0 by decide,if_true];by_cases h:i<0
    . simp only[h,if_true]<;>omega
    . simp only[h,if_false]<;>omega
 . cases hi with
   |none=>simp[sliceBounds,HT.bN]
   |some i=>
    simp only[sliceBounds,HT.bN,Option.getD_none,show(1:Int)>0 by decide,if_true];by_cases h:i<0
    . simp only[h,if_true]<;>omega
    . simp only[h,if_false]<;>omega
theorem wu(aq:List Value)(lo hi:Option Int):slicePick aq.toArray lo hi none=((aq.drop (HT.bN aq.length 0 lo)).take (HT.bN aq.length aq.length hi-HT.bN aq.length 0 lo)).toArray:=by
 obtain⟨h1,h2,h3⟩:=yD lo hi aq.toArray.size;unfold slicePick;rw[h1,h2,h3];simp only[sliceRange_one,pick_run,List.size_toArray]<;>rfl
def Nt(K:PySem.W.Frag):V->Option Int->Option Int->Hp->VK->Prop:=fun x lo hi H Q=>∃a xs,x= .ref a/\lI K H a xs/\∀p,H p=none->Q (.ref p) (upd H p (.lst (pB xs lo hi)))
theorem zB:CU X (Nt X.K):=by
 intro pins s σ H x v vl vu lo hi sl Q I rx hs pl pu h;obtain⟨a,xs,rfl,hx,q⟩:=h;cases rx;obtain⟨aq,r,ht,hz⟩:=I.list hx;have hlen:=r.length;refine⟨"list",_,slot_list_getitem.lookup,ht.isList.typeIs,?_⟩;refine wpAny_getItem_list_slice ht.isList hs pl pu .none (by simp) ?_ (by rw[List.size_toArray]<;>omega);rw[wu,<-hlen];refine⟨.ref s.heap.objs.size,_,I.laid (t':=s.toks) (o:= .lst (pB xs lo hi)) (fun b ob q=>Heap.get?_push_of_some _ q) (Nat.le_refl _) ?_,rfl,q _ (I.aK.fresh (Nat.le_refl _))⟩;exact⟨Nat.le_trans (sE xs lo hi) hz,_,0,(r.drop (HT.bN xs.length 0 lo)).take (HT.bN xs.length xs.length hi-HT.bN xs.length 0 lo),Heap.get?_push_size _ rfl⟩
theorem yc:cf X (.builtin "len") (fun xs H Q=>∃p ys,xs=[.ref p]/\(lI X.K H p ys\/hJ X.K H p ys)/\Q (.int ys.length) H):=by
 intro pins s σ H xs us Q I r h;obtain⟨p,ys,rfl,hq,q⟩:=h;obtain⟨u,rfl,rx⟩:=vals1 r;cases rx;have hn:=qj;rcases hq with hq|hq
 . obtain⟨aq,r',pl,hz⟩:=I.list hq;have hlen:=r'.length;exact Calls.call_len_list pl.isList (by simp only[List.size_toArray]<;>omega) ⟨.int ys.length,H,I.tok _,⟨s.toks+1,by rw[List.size_toArray,hlen]⟩,q⟩
 . obtain⟨aq,r',pl,hz⟩:=I.tuple hq;have hlen:=r'.length;exact len_tuple pl (by simp only[List.size_toArray]<;>omega) ⟨.int ys.length,H,I.tok _,⟨s.toks+1,by rw[List.size_toArray,hlen]⟩,q⟩
theorem yP:cf X (.builtin "len") (fun xs H Q=>∃z,xs=[.str z]/\z.length<=sizeLine/\Q (.int z.length) H):=by
 intro pins s σ H xs us Q I r h;obtain⟨z,rfl,hz,q⟩:=h;obtain⟨u,rfl,t,rfl⟩:=vals1 r;have hn:=qj;exact len_str (by omega) ⟨.int z.length,H,I.tok _,⟨_,rfl⟩,q⟩
theorem qv:cf X (.type "list") (fun xs H Q=>∃p ys,xs=[.ref p]/\(lI X.K H p ys\/hJ X.K H p ys)/\∀l,H l=none->Q (.ref l) (upd H l (.lst ys))):=by
 intro pins s σ H xs us Q I r h;obtain⟨p,ys,rfl,hq,q⟩:=h;obtain⟨u,rfl,rx⟩:=vals1 r;cases rx
 have fin:∀(aq:List Value),Vals ys aq->ys.length<=sizeLine->∀(h':Heap) (c':Nat),(∀b o',s.heap.get? b=some o'->h'.get? b=some o')->
  h'.get? s.heap.objs.size=some {cls:= .type "list",dict:=none,data:= .seq aq.toArray c',slots:= #[]}->EP X pins σ Q (.ref s.heap.objs.size) {s with heap:=h'}:=fun aq r' hz h' c' kp e=>
  ⟨.ref s.heap.objs.size,_,I.laid (t':=s.toks) kp (Nat.le_refl _) (show cW X.prog X.w _ h' _ (.lst ys)from⟨hz,aq,c',r',e⟩),rfl,q _ (I.aK.fresh (Nat.le_refl _))⟩
 rcases hq with hq|hq
 . obtain⟨aq,r',pl,hz⟩:=I.list hq;have hlen:=r'.length;obtain⟨o,ho,hc,n,hd⟩:=pl.isList;exact call_list_seq p (.inl rfl) ho hc hd (fun h' c' kp e=>fin aq r' hz h' c' kp e) (by simp only[List.size_toArray]<;>omega)
 . obtain⟨aq,r',pl,hz⟩:=I.tuple hq;have hlen:=r'.length;obtain⟨o,ho,hc,n,hd⟩:=pl;exact call_list_seq p (.inr rfl) ho hc hd (fun h' c' kp e=>fin aq r' hz h' c' kp e) (by simp only[List.size_toArray]<;>omega)
theorem wd:cf X (.type "tuple") (fun xs H Q=>∃p ys,xs=[.ref p]/\((lI X.K H p ys/\∀l,H l=none->Q (.ref l) (upd H l (.tup ys)))\/(hJ X.K H p ys/\Q (.ref p) H))):=by
 intro pins s σ H xs us Q I r h;obtain⟨p,ys,rfl,h⟩:=h;obtain⟨u,rfl,rx⟩:=vals1 r;cases rx;rcases h with⟨hq,q⟩|⟨hq,q⟩
 . obtain⟨aq,r',pl,hz⟩:=I.list hq;have hlen:=r'.length;refine call_tuple_list pl.isList (fun h' kp=>?_) (by simp only[List.size_toArray]<;>omega);have I1:Inv X pins σ H {s with heap:=h'}:=I.kept (t':=s.toks) kp
   have I2:Inv X pins σ (upd H h'.objs.size (.tup ys)) {s with heap:=h'.push {cls:= .type "tuple",data:= .seq aq.toArray}}:=
    I1.laid (t':=s.toks) (fun b o e=>Heap.get?_push_of_some _ e) (Nat.le_refl _) (show cW X.prog X.w _ _ _ (.tup ys)from⟨hz,aq,r',IsTup.new _ _⟩)
   exact⟨.ref h'.objs.size,_,I2,rfl,q _ (I1.aK.fresh (Nat.le_refl _))⟩
 . obtain⟨aq,r',pl,hz⟩:=I.tuple hq;exact call_tuple_same pl ⟨.ref p,H,I,rfl,q⟩
def MF(K:PySem.W.Frag)(T:String)(x:V)(H:Hp):Prop:=match x with
 | .str _=>T="str"
 | .int _=>T="int"
 | .ref p=>(T="list"/\∃xs,lI K H p xs)\/(T="tuple"/\∃o,K.lookup p=some o/\o.cls= .type "tuple"/\o.dict=none)\/
    (T="dict"/\((∃kvs,H p=some (.dK kvs))\/∃kvs,H p=some (.dT kvs)))\/(T="set"/\∃S n,H p=some (.set S n))
 |_=>False
theorem JZ{pins:List (Addr×Obj)}{σ:St}{H:Hp}{s:Shared}{T:String}{x:V}{v:Value}(I:Inv X pins σ H s)(r:RelV x v)(ty:MF X.K T x H):
 s.TypeIs v T/\∀a,v= .ref a->∃ob,s.heap.get? a=some ob/\ob.dict=none:=by
 cases x with
 |str z=>
  obtain⟨t,rfl⟩:=r;cases (show T="str" from ty);exact⟨typeIs_str s z t,fun _ e=>nomatch e⟩
 |int i=>
  obtain⟨t,rfl⟩:=r;cases (show T="int" from ty);exact⟨typeIs_int s i t,fun _ e=>nomatch e⟩
 |ref p=>
  cases r;rcases ty with⟨rfl,xs,hq⟩|⟨rfl,o,hk,hc,hd⟩|⟨rfl,hk⟩|⟨rfl,S,n,hk⟩
  . obtain⟨aq,_,pl,_⟩:=I.list hq;refine⟨pl.isList.typeIs,fun a e=>?_⟩;cases e;obtain⟨o,n,e,c,hd,_⟩:=pl;exact⟨o,e,hd⟩
  . refine⟨⟨o,I.gc p o hk,hc⟩,fun a e=>?_⟩;cases e;exact⟨o,I.gc _ o hk,hd⟩
  . have z:∃o,s.heap.get? p=some o/\o.ExactDict:=by
     rcases hk with⟨kvs,hk⟩|⟨kvs,hk⟩
     . obtain⟨_,_,_,_,o,_,_,e,ex,_⟩:=I.aK p _ hk;exact⟨o,e,ex⟩
     . obtain⟨_,_,_,_,o,_,_,e,ex,_⟩:=I.aK p _ hk;exact⟨o,e,ex⟩
    obtain⟨o,e,ex⟩:=z;refine⟨⟨o,e,ex.1⟩,fun a e2=>?_⟩;cases e2;exact⟨o,e,ex.2.1⟩
  . obtain⟨o,_,_,_,e,ex,_⟩:=I.aK p _ hk;refine⟨⟨o,e,ex.1⟩,fun a e2=>?_⟩;cases e2;exact⟨o,e,ex.2.1⟩
 |_=>exact False.elim ty
def MJ(K:PySem.W.Frag)(T:String)(r:V->List V->Hp->VK->Prop)(to:TE)(t:TA):TE:=fun σ H Q=>to σ H fun x H1=>MF K T x H1/\t σ H1 fun xs H2=>r x xs H2 Q
variable {o e:Expr}{es:List Expr}{to:TE}{t:TA}{name:Str}{apos cpos:Pos}{T id:String}{r:V->List V->Hp->VK->Prop}
theorem Lf(pa:PlainAttrs T)(slot:Slot T name id)(hty:typeOf (.builtin id)=pure (.type "method_descriptor"))(hm:Mr X id r)(ho:PE X o to)(ha:PA X (e::es) t)
 (hbase:attributeBase o name X.env (eval o X.env)=eval o X.env:=by rfl)
 (hfew:((backTo cpos (starEach (e::es) X.env)).all (fun x=> !x.1)&&(backToKw cpos (keywordEach [] X.env)).all (fun x=>x.1.isSome)
   &&decide ((e::es).length+([]:List Keyword).length+(if([]:List Keyword).isEmpty then 0 else 1)<30))=true:=by rfl)
 (hline:(apos.endLine==cpos.line)=true:=by rfl) (hs:starEach (e::es) X.env=(false,eval e X.env)::starEach es X.env:=by rfl) (hplain:(backTo cpos (starEach es X.env)).any (·.1)=false:=by rfl):
 PE X (.Call (.Attribute o name apos) (e::es) [] cpos) (MJ X.K T r to t):=by
 intro pins s σ H Q I h;refine wpAny_Call_method_late hbase hfew hline rfl (bL (ho pins s σ H _ I h) fun v s1 ⟨x,H1,I1,r1,ty,q1⟩=>?_);obtain⟨h1,h2⟩:=JZ I1 r1 ty;refine⟨T,id,pa,slot,hty,h1,h2,?_⟩;have hA:=ha cpos pins s1 σ H1 _ I1 q1;rw[hs]at hA⊢;refine Calls.callWith_builtin (by show(false||(backTo cpos (starEach es X.env)).any (·.1))=false;rw[hplain]<;>rfl) (Calls.evalArgs_plain ?_);exact bL hA fun us s2 ⟨vs,H2,I2,r2,q2⟩=>hm pins s2 σ H2 x vs v us Q I2 r1 r2 q2
/-xs.append(e),list.index on a module's tuple .. are Mr facts of 06m-/
end
def NT(X:Cx)(id:String)(r:V->List V->Hp->VK->Prop):Prop:=
 ∀(pins:List (Addr×Obj)) (s:Shared) (σ:St) (H:Hp) (x:V) (xs:List V) (v:Value) (us:List Value) (Q:VK),Inv X pins σ H s->RelV x v->Vals xs us->r x xs H Q->
  wpAny (model X.prog X.w) X.A (call (.builtin id) (v::us)) (EP X pins σ Q) X.xe s
theorem Vals.one:∀ {x:V} {us:List Value},Vals [x] us->∃u,us=[u]/\RelV x u
 |_,_,.cons r .nil=>⟨_,rfl,r⟩
theorem Vals.rep{xs:List V}{us:List Value}(h:Vals xs us):∀k:Nat,Vals (List.replicate k xs).flatten (List.replicate k us).flatten
 |0=> .nil
 |k+1=>by
  rw[List.replicate_succ,List.replicate_succ,List.flatten_cons,List.flatten_cons];exact Vals.append h (Vals.rep h k)
theorem foldl_rep(aq:List Value):∀(k:Nat) (acc:List Value),
 List.foldl (fun x1 x2=>x1++x2) acc.toArray (List.replicate k aq.toArray)=(acc++(List.replicate k aq).flatten).toArray
 |0,acc=>by simp
 |k+1,acc=>by
  have e:acc.toArray++aq.toArray=(acc++aq).toArray:=by simp
  have e2:(acc++aq)++(List.replicate k aq).flatten=acc++(List.replicate (k+1) aq).flatten:=by
   rw[List.replicate_succ,List.flatten_cons,List.append_assoc]
  rw[<-e2,<-foldl_rep aq k (acc++aq),<-e,List.replicate_succ,List.foldl_cons]
section
variable {X:Cx}{pins:List (Addr×Obj)}{σ:St}{H:Hp}{s:Shared}{l b:Addr}{xs ys zs:List V}
theorem Inv.MW{aq its':List Value}{n:Nat}{f:Array Value->Array Value}{t':Nat}(I:Inv X pins σ H s)(hH:H l=some (.lst xs))
 (e:s.heap.get? l=some {cls:= .type "list",data:= .seq aq.toArray n}) (hf:f aq.toArray=its'.toArray) (hv:Vals ys its') (hz:ys.length<=sizeLine):
 Inv X pins σ (upd H l (.lst ys)) {s with heap:=s.heap.update l (Obj.mapSeq f),toks:=t'}:=by
 have q:=PySem.IsL.update e f;rw[hf]at q;refine I.write (x:=l) (e:=l) (by rw[hH];exact trivial) (.inl rfl) (fun b' u hb hu=>(Heap.get?_update_other s.heap (Obj.mapSeq f) (Ne.symm hb)).trans hu) ⟨_,q⟩ ?_;exact⟨hz,its',_,hv,q⟩
theorem Inv.Ea{aq:List Value}{t':Nat}(I:Inv X pins σ H s)(hv:Vals ys aq)(hz:ys.length<=sizeLine):
 Inv X pins σ (upd H s.heap.objs.size (.lst ys)) {s with heap:=s.heap.push {cls:= .type "list",data:= .seq aq.toArray},toks:=t'}:=
 I.laid (fun _ _ q=>Heap.get?_push_of_some _ q) (Nat.le_refl _) ⟨hz,aq,0,hv,Heap.get?_push_size _ rfl⟩
theorem Inv.fresh(I:Inv X pins σ H s):H s.heap.objs.size=none:=I.aK.fresh (Nat.le_refl _)
theorem Inv.NF(I:Inv X pins σ H s)(hH:H l=some (.lst xs)):xs.length<=sizeLine/\∃(aq:List Value) (n:Nat),Vals xs aq/\xs.length=aq.length/\s.heap.get? l=some {cls:= .type "list",data:= .seq aq.toArray n}:=by
 obtain⟨z,aq,n,r,e⟩:=I.aK l _ hH;exact⟨z,aq,n,r,r.length,e⟩
theorem EY{n:Nat}(h:n<=sizeLine):Builtin.List.listTooLong n=false:=by
 unfold Builtin.List.listTooLong;exact decide_eq_false (by omega)
end
section
variable {X:Cx}
def zO:V->List V->Hp->VK->Prop:=fun x vs H Q=>∃l xs y,x= .ref l/\vs=[y]/\H l=some (.lst xs)/\xs.length<sizeLine/\Q .aE (upd H l (.lst (xs++[y])))
theorem vX:NT X "list.append" zO:=by
 intro pins s σ H x vs v us Q I rx rv h;obtain⟨l,xs,y,rfl,rfl,hH,hz,q⟩:=h;cases rx;obtain⟨u,rfl,ru⟩:=rv.one;obtain⟨z,aq,n,r,hl,e⟩:=I.NF hH;refine call_meets F.slot_list_append ⟨_,e,rfl⟩ F.entry_list_append (F.args_list_append_2 _ _) (PySem.list_append l aq.toArray n u (by rw[List.size_toArray];omega)) ⟨e,?_⟩;refine⟨.aE,_,I.MW (its':=aq++[u]) hH e (by simp) (r.append (.cons ru .nil)) ?_,rfl,q⟩;rw[List.length_append,List.length_singleton];omega
theorem len_rep{α:Type}(xs:List α)(k:Nat):(List.replicate k xs).flatten.length=k*xs.length:=by
 induction k with
 |zero=>simp
 |succ k ih=>rw[List.replicate_succ,List.flatten_cons,List.length_append,ih,Nat.succ_mul,Nat.add_comm]
end
section
variable {prog:Program}{w:World}{A:Around}{E:Value->Shared->Prop}{s:Shared}
set_option maxRecDepth 100000 in
end
section
variable {X:Cx}
end
end L2
namespace Att
open PySem PySem.W PySem.Calls PyProof.Rows
theorem uk{P:Params}{h:Heap}:∀(ns:List Int) (vs:List Value),WellAll P h vs (ns.map WData.int)->IntsAre vs ns:=by
 intro ns;induction ns with
 |nil=>
  intro vs w;rw[List.map_nil]at w;cases w;exact .nil
 |cons n ns ih=>
  intro vs w;rw[List.map_cons]at w;cases w with
  |cons a b=>
   cases a;exact .cons _ _ (ih _ b)
theorem BS{l:OpenLaw}{n:Nat}(hn:l.most=some n){P:Params}{h:Heap}{args:List WData}{vals:List Value}
 (hpre:l.row.toRowW.claim.pre args=true) (hwl:WellAll P h vals args):
 ∃a vs ns,vals=[Value.ref a]/\args=[WData.list (ns.map WData.int)]/\h.get? a=some {cls:= .type "list",data:= .seq vs.toArray}/\IntsAre vs ns/\ns.length<=n:=by
 have hsh:WShape.hasAll [] args [.list .int]=true:=(pre_splitW hpre).1;have hc:l.pre.holds [] {args:=args}=true:=(pre_splitW hpre).2;obtain⟨d,r,rfl,h1,h2⟩:=hasAllW_cons hsh;obtain rfl:=hasAllW_nil h2;obtain⟨xs,rfl,h3⟩:=hasW_list h1;obtain⟨ns,rfl⟩:=items_int h3
 have hlen:ns.length<=n:=by
  unfold OpenLaw.pre at hc
  have h4:(WTm.not (.lt (.lit (.int (n:Int))) (.len (.arg 0)))).holds [] {args:=[.list (ns.map .int)]}=true:=by
   have h4:=(holds_andW hc).1;rw[hn]at h4;exact h4
  have h5:=condW_of h4 (w_not (w_lt w_lit (w_len_list (w_arg rfl))));rw[List.length_map]at h5;refine Nat.le_of_not_lt fun q=>?_;have q':(n:Int)<((ns.length:Nat):Int):=by omega
  first
   |(rw[decide_eq_true q']at h5;exact absurd h5 (by decide))
   |(simp at h5;omega)
 cases hwl with
 |cons w1 w2=>
  cases w2;cases w1 with
  |list ho hall=>exact⟨_,_,ns,rfl,rfl,ho,uk ns _ hall,hlen⟩
theorem Cb(l:OpenLaw)(args:List WData):l.row.toRowW.claim.post args (.bool true) args=true:=
 postW_of (r:=l.row.toRowW) (X:=(true==true))
  (show WShape.has [] (.bool true) .bool=true by first|rfl|decide|simp[WShape.has,WShape.arms,WShape.armsAll])
  (show(WTm.eq .res (.lit (.bool true))).value [] {args:=args,res:=some (.bool true),after:=args}=some (.bool (true==true))from w_eq_bool (w_res rfl) w_lit) rfl
theorem zk{l:OpenLaw}{n:Nat}{q:Program}{loose:List Str}{XP:(Str->Option Value)->Heap->Prop}{YP:World->Heap->Prop}{d:DefRec}
 (hn:l.most=some n) (hdf:d.params.defaults=[])
 (call:∀(w:World) (s₀ s₁:Shared) (mg mb:Str->Option Value) (fa:Addr) (o:Obj) (pm cd doc:Value) (a:Addr) (vs:List Value) (ns:List Int),
   Ground q loose [] XP w s₀ mg mb s₁.heap->YP w s₁.heap->
   s₁.heap.get? fa=some o->o.data= .func (docDef d.name d.params d.body d.scope pm cd doc)->s₁.heap.CodeRec cd d.name->mg d.name=some (.ref fa)->
   s₁.heap.get? a=some {cls:= .type "list",data:= .seq vs.toArray}->IntsAre vs ns->ns.length<=n->s₁.gens= #[]->
   codeAny (model l.prog w) callerA (.call (.ref fa) ⟨[.ref a],[]⟩) (fun r s'=>r= .ok (.ret (.bool true))/\OldK s₁.heap s'.heap/\s'.os=s₁.os/\AllBare s'.gens) s₁):
 WalkO q loose XP YP l.row.toRowW d [] (fun f vs=>PySem.call f vs):=by
 intro w s₀ s₁ mg mb G Y fa o pm cd doc dV kV ho hd hcd hD hmg hg args vals as hpre hlay hrd hwl hlo;obtain rfl:dV= .none:=Dflts.none hD hdf;obtain rfl:kV= .none:=Dflts.noKw hD;obtain⟨a,vs,ns,rfl,rfl,hobj,hints,hlen⟩:=BS hn hpre hwl;refine enter_call (codeAny_mono (call w s₀ s₁ mg mb fa o pm cd doc a vs ns G Y ho (fd_plain hd) hcd hmg hobj hints hlen hg) fun r s' hq=>?_);obtain⟨rfl,h2,h3,h4⟩:=hq;exact⟨.inl ⟨.bool true,.bool true,[],rfl,fun _=>rfl,.bool true,Cb l _,fun _=>⟨List.Pairwise.nil,fun _ hm=>(nomatch hm)⟩⟩,h2,h3,h4⟩
section
variable {prog:Program}{w:World}{A:Around}{E:Value->Shared->Prop}{s:Shared}{K:Frag}
end
end Att
namespace L2
open PySem PySem.Spec PyProof.Rows
end L2
/-THE LAST THEOREM (shape;LID,My.*are yours):
 My.Adr:a structure of the addresses that your layer names (classes,functions);My.Txt K t:a structure (Prop) of the equations over K;
 My.txt_mk:{K} {implicit addresses ..} (e1:nsIn K mainGlobals "law"=some (some (.ref f))) (e2:K.lookup f=some ⟨oc,od,.func (fnOf "law" "law" params body scope dV kV doc pm an cdv ct),sl⟩) (e3:codeIn K cdv "law"=true) .. :∃t,My.Txt K t
set_option maxRecDepth 100000 in
set_option maxHeartbeats 0 in
(the tactic k_is has no namespace:write k_is)-/
namespace L2
open PySem PySem.Spec PyProof.Rows
def inClass(s:Stmt)(j:Nat):Stmt:=match s with
 | .ClassDef _ _ _ body _ _ _ _ _ _ _=>body.getD j (.Pass ⟨0,0,0,0⟩)
 |_=> .Pass ⟨0,0,0,0⟩
def jy(s:Stmt):Arguments:=match s with
 | .FunctionDef _ a _ _ _ _ _ _ _ _=>a
 |_=>{posonlyargs:=[],args:=[],vararg:=none,kwonlyargs:=[],kw_defaults:=[],kwarg:=none,defaults:=[]}
def fV(s:Stmt):List Stmt:=match s with
 | .FunctionDef _ _ b _ _ _ _ _ _ _=>b
 |_=>[]
def ai(s:Stmt):Scope:=match s with
 | .FunctionDef _ _ _ _ _ _ sc _ _ _=>sc
 |_=>{kind:= .function,names:=[],isGenerator:=false,isCoroutine:=false}
abbrev ck:sj:=fun _ _ _ _ _ _=>False
abbrev E0:XK:=fun _ _ _=>False
theorem Aj{X:Cx}:Passes ck X E0:=fun _ _ _ _ _ _ _ h=>h.elim
structure mX(K:PySem.W.Frag)(x qual:Str)(st:Stmt)(f:Addr)(fd:FuncData):Prop where
 ex:∃(oc:Value) (od:Option Addr) (kV doc pm:Value) (an:Option Addr) (cdv ct:Value) (osl:Array (Option Value)),
  fd=PySem.W.fnOf x qual (jy st) (fV st) (ai st) .none kV doc pm an cdv ct/\K.lookup f=some ⟨oc,od,.func fd,osl⟩/\PySem.W.codeIn K cdv qual=true
 kp:PySem.W.keepIn K (.ref f)=true
section
variable {P:Program}{w:World}{K:PySem.W.Frag}{mg:Str->Option Value}{base:Heap}
theorem mX.ok{x qual:Str}{st:Stmt}{f:Addr}{fd:FuncData}{N ps:List Str}{k:Nat}{sp:Sp}(F:mX K x qual st f fd)(S:aN N ps (ai st))(len:∀vs H Q E,sp vs H Q E->vs.length=ps.length)
 (hbody:∀(cdv:Value) (A:Around) (outer:List Env) (s:Shared) (H:Hp) (vs:List V) (Q:VK) (E:XK),cC k (A.deeper (envOfC qual (ai st) s.heap.objs.size f cdv))->sp vs H Q E->
   ∃t,gd (pM ck P w K mg base N qual (ai st) f cdv A outer s H E).uw (fV st) t/\t {nx:=fun _ H'=>Q .aE H',rt:=Q} (start N vs) H):a9 P w K mg base ck (k+1) f fd ps sp:=by
 obtain⟨oc,od,kV,doc,pm,an,cdv,ct,osl,rfl,lk,hcd⟩:=F.ex;refine F0 lk hcd S len fun A outer s H vs Q E hr hsp=>?_;obtain⟨t,h,q⟩:=hbody cdv A outer s H vs Q E hr hsp;exact⟨t,h.uw,q⟩
theorem mX.binds{x qual:Str}{st:Stmt}{f:Addr}{fd:FuncData}{ps:List Str}(F:mX K x qual st f fd)
 (h:∀(kV doc pm:Value) (an:Option Addr) (cdv ct:Value) (us:List Value),us.length=ps.length->bindArgs (PySem.W.fnOf x qual (jy st) (fV st) (ai st) .none kV doc pm an cdv ct) ⟨us,[]⟩=pure (ps.zip us)):Binds K fd ps []:=by
 obtain⟨oc,od,kV,doc,pm,an,cdv,ct,osl,rfl,lk,hcd⟩:=F.ex;exact .all (h kV doc pm an cdv ct)
theorem DF{x qual:Str}{st:Stmt}{f:Addr}{oc:Value}{od an:Option Addr}{osl:Array (Option Value)}{kV doc pm cdv ct:Value}(l:K.lookup f=some ⟨oc,od,.func (PySem.W.fnOf x qual (jy st) (fV st) (ai st) .none kV doc pm an cdv ct),osl⟩)
 (c:PySem.W.codeIn K cdv qual=true) (k:PySem.W.keepIn K (.ref f)=true):mX K x qual st f (PySem.W.fnOf x qual (jy st) (fV st) (ai st) .none kV doc pm an cdv ct):=⟨⟨oc,od,kV,doc,pm,an,cdv,ct,osl,rfl,l,c⟩,k⟩
end
section
variable {X:Cx}
end
theorem fe{A B:Prop}(h:A):if true=true then A else B:=by
 rw[if_pos rfl];exact h
def EZ(H H':Hp):Prop:=∀b o,H b=some o->H' b=some o
end L2
set_option maxHeartbeats 4000000
namespace Hd
open PySem PySem.W PySem.Calls PyProof.Rows
noncomputable def bt (P:Params):BT:=(.node (boot_o_0 P) (.node (boot_o_1 P) (.node (boot_o_3 P) (.node (boot_o_7 P) .nil .nil) .nil) (.node (boot_o_5 P) (.node (boot_o_9 P) .nil .nil) .nil)) (.node (boot_o_2 P) (.node (boot_o_4 P) (.node (boot_o_8 P) .nil .nil) .nil) (.node (boot_o_6 P) (.node (boot_o_10 P) .nil .nil) .nil)))
theorem IK(P:Params):absHeap (bt P) 11 (boot_heap P).life=boot_heap P:=by kernel_rfl
noncomputable def run (p:Program) (w:World) (n:Nat) (ann:Option Value):Nat->SharedT->Thread->Option SharedT
 |0,_,_=>none
 |k+1,s,t=>match through t with
  |true=>some s
  |false=>match Fast.tw6613529449190102663 n ann t with
   |false=>none
   |true=>match Fast.tw10156331382660048174 (Fast.tw11892475500146522536 Fast.tw14364793385576792824) p w s t with
    |some (s',t')=>run p w n ann k s' t'
    |none=>none
theorem BZ{p:Program}{w:World}{n:Nat}{ann:Option Value}:∀ {k:Nat} {s s':SharedT} {t:Thread},run p w n ann k s t=some s'->topRun treeTable p w n ann k s.abs t=some s'.abs
 |0,_,_,_,h=>by cases h
 |k+1,s,s',t,h=>by
  unfold run at h;unfold topRun;cases he:through t with
  |true=>rw[he]at h;cases h;rfl
  |false=>
   rw[he]at h;rw[<-Fast.te6613529449190102663,<-Fast.te10156331382660048174,<-Fast.te11892475500146522536,<-Fast.te14364793385576792824]at h;cases hk:stepOk n ann t with
   |false=>simp only[hk]at h;cases h
   |true=>
    simp only[hk]at h;cases hs:stepT (denote treeTable) p w s t with
    |none=>rw[hs]at h;cases h
    |some r=>obtain⟨s2,t2⟩:=r;rw[hs]at h;rw[stepT_spec hs];exact BZ h
noncomputable def b0 (w:World) (os:OsState):SharedT:=⟨bt w.params,11,(boot_heap w.params).life,⟨[]⟩,boot_drawn,boot_toks,os⟩
theorem Ii(w:World)(os:OsState):(b0 w os).abs=⟨boot_heap w.params,⟨[]⟩,boot_drawn,boot_toks,os⟩:=by
 unfold b0 SharedT.abs;dsimp only;rw[IK]
theorem left{p q:Program}{loose:List Str}{α:Type}{Yf:Shared->α}{Ya:World->α}{N:Nat}
 (e:opening p=plainProg p.main.scope.names) (f:∀s,fenceModules? p s=some s) (hN:Nat.ble 600 N=true)
 (h:∀(w:World) (os:OsState),(run p w 11 (some (.ref 6)) N (b0 w os) (topStub p)).bind (fun s=>match staticsOk (importedModules p.main.body) (boot_heap w.params) s.abs.heap&&namesBound p s.abs.heap&&gensDone s.abs&&laidKept (boot_heap w.params) s.abs.heap with
   |true=>some (Fast.tw4187177175401517315 q loose (importedModules p.main.body) (fun _=>true) true s.abs,Yf s.abs)
   |false=>none)=some (openGood q loose,Ya w)):LeftO p q loose (fun _=>true) Yf Ya N:=fun w=>by
 obtain⟨⟨hp,gs,d,k,os⟩,e1,e2⟩:=Option.map_eq_some_iff.mp (boot_open e hN f w);obtain⟨rfl,rfl,rfl,rfl⟩:hp=boot_heap w.params/\gs=⟨[]⟩/\d=boot_drawn/\k=boot_toks:=by simpa using e2
 obtain⟨s,r1,r2⟩:=Option.bind_eq_some_iff.mp (h w os);have r3:=BZ r1;rw[Ii]at r3;rw[<-Fast.te4187177175401517315]at r2;unfold openEnds;rw[e1];show(topFrom treeTable p w N _).map _=_;unfold topFrom;rw[show((boot_heap w.params).isNs mainGlobals&&(⟨[]⟩:Array GenState).size==0)=true from by kernel_rfl];dsimp only;rw[show(boot_heap w.params).objs.size=11 from by kernel_rfl,show(boot_heap w.params).nsMap mainGlobals "__annotations__"=some (.ref 6)from by kernel_rfl,r3];show((match staticsOk (importedModules p.main.body) (boot_heap w.params) s.abs.heap&&namesBound p s.abs.heap&&gensDone s.abs&&laidKept (boot_heap w.params) s.abs.heap with|true=>some s.abs|false=>none):Option Shared).map _=_;cases z:(staticsOk (importedModules p.main.body) (boot_heap w.params) s.abs.heap&&namesBound p s.abs.heap&&gensDone s.abs&&laidKept (boot_heap w.params) s.abs.heap)with
 |false=>rw[z]at r2;cases r2
 |true=>rw[z]at r2;exact r2
abbrev e(x:Str)(t:Nat)(v:Value):Str×Nat×Value:=(x,t,v)
abbrev k(a:Addr)(o:Obj):Addr×Obj:=(a,o)
def no(P:Params)(n:Nat)(l:List (Str×Nat×Value)):Obj:=⟨.type "dict",none,.dict (l.map fun e=>⟨PyData.keyHash P e.1,.str e.1 e.2.1,e.2.2⟩).toArray n,#[]⟩
def fd(st:Stmt)(x q:Str)(pm:Value)(c:Addr):FuncData:=fnOf x q (L2.jy st) (L2.fV st) (L2.ai st) .none .none .none pm none (.ref c) .none
def fq(st:Stmt)(x q:Str)(pm:Value)(c:Addr):Obj:=⟨.type "function",none,.func (fd st x q pm c),#[]⟩
def co(x q:Str)(t:Nat)(line argc:Int)(a b:Addr)(u v:Value)(d:Addr)(i:Int)(z:Nat):Obj:=⟨.type "code",none,.fields #[.str x t,.str q (t+1),.str "/claim/cut.py" (t+2),.int line 0,.int argc 0,.int 0 0,.int 0 0,.int 3 0,.ref a,.bool true,.int 181 0,.ref b,.none,u,v,.ref d,.int i 0,.int line 0,.str "/claim/cut.py" z],#[]⟩
end Hd
namespace Row
open PySem L2
open PySem.Spec hiding items?
open PyProof.Rows hiding St
def top(i:Nat):Stmt:=PySem.Challenge.pw_latticeworks_k60_whole_weights_are_answe.main.body.getD i (.Pass ⟨0,0,0,0⟩)
abbrev PW:Program:=PySem.Challenge.pw_latticeworks_k60_whole_weights_are_answe
abbrev gM:Stmt:=top 1
abbrev gI:Stmt:=top 2
abbrev eS:Stmt:=top 3
abbrev eF:Stmt:=top 4
abbrev ke:Stmt:=top 6
abbrev oK:Stmt:=top 7
abbrev oH:Stmt:=top 8
abbrev mJ:Stmt:=top 9
abbrev mN:Stmt:=top 10
abbrev oz:Stmt:=top 11
abbrev mB:Stmt:=top 12
abbrev jo:Stmt:=top 13
abbrev ib:Stmt:=top 15
abbrev ky:Stmt:=top 16
abbrev kK:Stmt:=top 17
abbrev i_:Stmt:=top 19
abbrev eC:Stmt:=top 20
abbrev gp:Stmt:=top 21
abbrev fI:Stmt:=top 22
abbrev jm:Stmt:=top 28
abbrev dz:Stmt:=top 31
abbrev gH:Stmt:=top 32
abbrev ig:Stmt:=top 33
abbrev cB:Stmt:=inClass (top 34) 0
abbrev fU:Stmt:=inClass (top 34) 1
abbrev dS:Stmt:=inClass (top 34) 2
abbrev c_:Stmt:=inClass (top 34) 3
abbrev cG:Stmt:=inClass (top 34) 4
abbrev eZ:Stmt:=inClass (top 34) 5
abbrev de:Stmt:=inClass (top 34) 6
abbrev iy:Stmt:=top 35
abbrev jl:Stmt:=top 36
abbrev mL:Stmt:=top 37
abbrev gK:Stmt:=top 39
abbrev gL:Stmt:=top 40
abbrev ef:Stmt:=top 41
abbrev j6:Stmt:=top 42
abbrev fK:Stmt:=top 43
abbrev ir:Stmt:=top 44
abbrev fb:Stmt:=top 45
abbrev eR:Stmt:=top 47
abbrev eY:Stmt:=top 49
abbrev jq:Stmt:=top 50
abbrev d7:Stmt:=top 56
abbrev iA:Stmt:=top 58
abbrev iC:Stmt:=top 59
abbrev dj:Stmt:=top 60
abbrev kY:Stmt:=top 61
def pV:Value:=(.str "latticeworks.kinds" 187)
def gX:Value:=(.str "latticeworks.fractions" 217)
def iO:Value:=(.str "latticeworks.rows" 285)
def dm:Value:=(.str "latticeworks.standing" 371)
def gT:Value:=(.str "latticeworks.inside" 534)
def z9:Value:=(.str "latticeworks.answers" 618)
def HZ:Value:=(.str "latticeworks.answercheck" 643)
def oX:Value:=(.str "law_latticeworks_k60_whole_weights_are_answe" 682)
def KX(P:Params):PySem.W.Frag:=[Hd.k 3 (Hd.no P 63 [Hd.e "__name__" 165 (.str "law_latticeworks_k60_whole_weights_are_answe" 682),Hd.e "__doc__" 166 .none,Hd.e "__package__" 167 .none,Hd.e "__loader__" 168 (.builtin "__main__.__loader__#opaque"),Hd.e "__spec__" 169 .none,Hd.e "__annotations__" 170 (.ref 6),Hd.e "__builtins__" 171 (.ref 4),Hd.e "__file__" 173 (.str "/claim/cut.py" 172),Hd.e "__cached__" 174 .none,Hd.e "is_number" 195 (.ref 21),Hd.e "is_listed" 202 (.ref 28),Hd.e "is_listed_of" 210 (.ref 35),Hd.e "are_numbers" 216 (.ref 40),Hd.e "common" 229 (.ref 47),Hd.e "part" 238 (.ref 54),Hd.e "plus" 246 (.ref 61),Hd.e "minus" 254 (.ref 68),Hd.e "times" 262 (.ref 75),Hd.e "over" 270 (.ref 82),Hd.e "whole" 277 (.ref 89),Hd.e "is_part" 284 (.ref 96),Hd.e "as_rows" 292 (.ref 101),Hd.e "added" 298 (.ref 106),Hd.e "sum_by" 310 (.ref 113),Hd.e "product" 316 (.ref 118),Hd.e "column" 322 (.ref 123),Hd.e "turned_over" 328 (.ref 128),Hd.e "unit_row" 334 (.ref 133),Hd.e "unit_rows" 340 (.ref 138),Hd.e "dot" 346 (.ref 143),Hd.e "is_rows" 352 (.ref 148),Hd.e "are_back" 361 (.ref 155),Hd.e "is_turn_of" 370 (.ref 162),Hd.e "lead_of" 381 (.ref 169),Hd.e "is_standing" 387 (.ref 174),Hd.e "standing_head" 393 (.ref 179),Hd.e "nearest_quotient" 401 (.ref 186),Hd.e "exchanged" 411 (.ref 193),Hd.e "negated" 417 (.ref 198),Hd.e "Bench" 501 (.ref 253),Hd.e "standing" 512 (.ref 264),Hd.e "weighed" 525 (.ref 271),Hd.e "falls" 533 (.ref 278),Hd.e "parts_dot" 546 (.ref 285),Hd.e "bottom_at" 556 (.ref 292),Hd.e "parts_against" 569 (.ref 299),Hd.e "inside" 580 (.ref 306),Hd.e "are_parts" 586 (.ref 311),Hd.e "is_whole" 593 (.ref 318),Hd.e "parts_show" 599 (.ref 323),Hd.e "weights_show" 608 (.ref 330),Hd.e "shows_inside" 617 (.ref 337),Hd.e "steps_behind" 627 (.ref 344),Hd.e "answers" 642 (.ref 351),Hd.e "is_answer" 650 (.ref 356),Hd.e "steps_show" 656 (.ref 361),Hd.e "answer_shows" 666 (.ref 368),Hd.e "turn_shows" 672 (.ref 373),Hd.e "shows_answers" 681 (.ref 380),Hd.e "_law_hand" 692 (.ref 387),Hd.e "_law_take" 703 (.ref 394),Hd.e "_law_rows" 709 (.ref 399),Hd.e "law" 715 (.ref 404)]),
 Hd.k 20 (Hd.co "is_number" "is_number" 189 2 1 15 16 (.ref 17) (.ref 18) 19 193 194),
 Hd.k 21 (Hd.fq gM "is_number" "is_number" pV 20),
 Hd.k 27 (Hd.co "is_listed" "is_listed" 196 4 1 22 23 (.ref 24) (.ref 25) 26 200 201),
 Hd.k 28 (Hd.fq gI "is_listed" "is_listed" pV 27),
 Hd.k 34 (Hd.co "is_listed_of" "is_listed_of" 203 6 2 29 30 (.ref 31) (.ref 32) 33 208 209),
 Hd.k 35 (Hd.fq eS "is_listed_of" "is_listed_of" pV 34),
 Hd.k 39 (Hd.co "are_numbers" "are_numbers" 211 8 2 36 37 .none .none 38 214 215),
 Hd.k 40 (Hd.fq eF "are_numbers" "are_numbers" pV 39),
 Hd.k 46 (Hd.co "common" "common" 219 11 2 41 42 (.ref 43) (.ref 44) 45 227 228),
 Hd.k 47 (Hd.fq ke "common" "common" gX 46),
 Hd.k 53 (Hd.co "part" "part" 230 19 2 48 49 (.ref 50) (.ref 51) 52 236 237),
 Hd.k 54 (Hd.fq oK "part" "part" gX 53),
 Hd.k 60 (Hd.co "plus" "plus" 239 24 2 55 56 (.ref 57) (.ref 58) 59 244 245),
 Hd.k 61 (Hd.fq oH "plus" "plus" gX 60),
 Hd.k 67 (Hd.co "minus" "minus" 247 26 2 62 63 (.ref 64) (.ref 65) 66 252 253),
 Hd.k 68 (Hd.fq mJ "minus" "minus" gX 67),
 Hd.k 74 (Hd.co "times" "times" 255 28 2 69 70 (.ref 71) (.ref 72) 73 260 261),
 Hd.k 75 (Hd.fq mN "times" "times" gX 74),
 Hd.k 81 (Hd.co "over" "over" 263 30 2 76 77 (.ref 78) (.ref 79) 80 268 269),
 Hd.k 82 (Hd.fq oz "over" "over" gX 81),
 Hd.k 88 (Hd.co "whole" "whole" 271 32 1 83 84 (.ref 85) (.ref 86) 87 275 276),
 Hd.k 89 (Hd.fq mB "whole" "whole" gX 88),
 Hd.k 95 (Hd.co "is_part" "is_part" 278 34 1 90 91 (.ref 92) (.ref 93) 94 282 283),
 Hd.k 96 (Hd.fq jo "is_part" "is_part" gX 95),
 Hd.k 100 (Hd.co "as_rows" "as_rows" 287 37 1 97 98 .none .none 99 290 291),
 Hd.k 101 (Hd.fq ib "as_rows" "as_rows" iO 100),
 Hd.k 105 (Hd.co "added" "added" 293 39 3 102 103 .none .none 104 296 297),
 Hd.k 106 (Hd.fq ky "added" "added" iO 105),
 Hd.k 112 (Hd.co "sum_by" "sum_by" 299 41 3 107 108 (.ref 109) (.ref 110) 111 308 309),
 Hd.k 113 (Hd.fq kK "sum_by" "sum_by" iO 112),
 Hd.k 122 (Hd.co "column" "column" 317 49 2 119 120 .none .none 121 320 321),
 Hd.k 123 (Hd.fq i_ "column" "column" iO 122),
 Hd.k 127 (Hd.co "turned_over" "turned_over" 323 51 2 124 125 .none .none 126 326 327),
 Hd.k 128 (Hd.fq eC "turned_over" "turned_over" iO 127),
 Hd.k 132 (Hd.co "unit_row" "unit_row" 329 53 2 129 130 .none .none 131 332 333),
 Hd.k 133 (Hd.fq gp "unit_row" "unit_row" iO 132),
 Hd.k 137 (Hd.co "unit_rows" "unit_rows" 335 55 1 134 135 .none .none 136 338 339),
 Hd.k 138 (Hd.fq fI "unit_rows" "unit_rows" iO 137),
 Hd.k 168 (Hd.co "lead_of" "lead_of" 373 75 1 163 164 (.ref 165) (.ref 166) 167 379 380),
 Hd.k 169 (Hd.fq jm "lead_of" "lead_of" dm 168),
 Hd.k 185 (Hd.co "nearest_quotient" "nearest_quotient" 394 93 2 180 181 (.ref 182) (.ref 183) 184 399 400),
 Hd.k 186 (Hd.fq dz "nearest_quotient" "nearest_quotient" dm 185),
 Hd.k 192 (Hd.co "exchanged" "exchanged" 402 95 3 187 188 (.ref 189) (.ref 190) 191 409 410),
 Hd.k 193 (Hd.fq gH "exchanged" "exchanged" dm 192),
 Hd.k 197 (Hd.co "negated" "negated" 412 100 1 194 195 .none .none 196 415 416),
 Hd.k 198 (Hd.fq ig "negated" "negated" dm 197),
 Hd.k 209 (Hd.co "__init__" "Bench.__init__" 430 104 2 206 207 .none .none 208 433 434),
 Hd.k 210 (Hd.fq cB "__init__" "Bench.__init__" dm 209),
 Hd.k 216 (Hd.co "take" "Bench.take" 436 109 4 211 212 (.ref 213) (.ref 214) 215 443 444),
 Hd.k 217 (Hd.fq fU "take" "Bench.take" dm 216),
 Hd.k 223 (Hd.co "exchange" "Bench.exchange" 446 114 3 218 219 (.ref 220) (.ref 221) 222 452 453),
 Hd.k 224 (Hd.fq dS "exchange" "Bench.exchange" dm 223),
 Hd.k 230 (Hd.co "change_sign" "Bench.change_sign" 455 119 2 225 226 (.ref 227) (.ref 228) 229 460 461),
 Hd.k 231 (Hd.fq c_ "change_sign" "Bench.change_sign" dm 230),
 Hd.k 235 (Hd.co "live_rows" "Bench.live_rows" 463 124 3 232 233 .none .none 234 466 467),
 Hd.k 236 (Hd.fq cG "live_rows" "Bench.live_rows" dm 235),
 Hd.k 242 (Hd.co "gather" "Bench.gather" 469 128 3 237 238 (.ref 239) (.ref 240) 241 478 479),
 Hd.k 243 (Hd.fq eZ "gather" "Bench.gather" dm 242),
 Hd.k 249 (Hd.co "lower_above" "Bench.lower_above" 481 142 3 244 245 (.ref 246) (.ref 247) 248 488 489),
 Hd.k 250 (Hd.fq de "lower_above" "Bench.lower_above" dm 249),
 Hd.k 252 (Hd.no P 4 [Hd.e "__module__" 425 (.str "latticeworks.standing" 371),Hd.e "__firstlineno__" 429 (.int (102) 428),Hd.e "__init__" 435 (.ref 210),Hd.e "take" 445 (.ref 217),Hd.e "exchange" 454 (.ref 224),Hd.e "change_sign" 462 (.ref 231),Hd.e "live_rows" 468 (.ref 236),Hd.e "gather" 480 (.ref 243),Hd.e "lower_above" 490 (.ref 250),Hd.e "__static_attributes__" 494 (.ref 251),Hd.e "__dict__" 496 (.ref 254),Hd.e "__weakref__" 498 (.ref 255),Hd.e "__doc__" 499 .none]),
 Hd.k 253 (⟨(.type "type"),none,.cls {name:="Bench",bases:=[(.type "object")],mro:=[(.ref 253),(.type "object")],ns:=252,qualname:="Bench",hasDict:=true,subclasses:=[],abstract:=false,hasDel:=false},#[none,none,(some (.str "Bench" 418)),(some (.str "Bench" 426)),(some (.builtin "object.__new__")),(some (.bool true))]⟩),
 Hd.k 263 (Hd.co "standing" "standing" 502 145 1 258 259 (.ref 260) (.ref 261) 262 510 511),
 Hd.k 264 (Hd.fq iy "standing" "standing" dm 263),
 Hd.k 270 (Hd.co "weighed" "weighed" 513 154 2 265 266 (.ref 267) (.ref 268) 269 523 524),
 Hd.k 271 (Hd.fq jl "weighed" "weighed" dm 270),
 Hd.k 277 (Hd.co "falls" "falls" 526 163 2 272 273 (.ref 274) (.ref 275) 276 531 532),
 Hd.k 278 (Hd.fq mL "falls" "falls" dm 277),
 Hd.k 284 (Hd.co "parts_dot" "parts_dot" 536 166 2 279 280 (.ref 281) (.ref 282) 283 544 545),
 Hd.k 285 (Hd.fq gK "parts_dot" "parts_dot" gT 284),
 Hd.k 291 (Hd.co "bottom_at" "bottom_at" 547 171 3 286 287 (.ref 288) (.ref 289) 290 554 555),
 Hd.k 292 (Hd.fq gL "bottom_at" "bottom_at" gT 291),
 Hd.k 298 (Hd.co "parts_against" "parts_against" 557 176 2 293 294 (.ref 295) (.ref 296) 297 567 568),
 Hd.k 299 (Hd.fq ef "parts_against" "parts_against" gT 298),
 Hd.k 305 (Hd.co "inside" "inside" 570 186 2 300 301 (.ref 302) (.ref 303) 304 578 579),
 Hd.k 306 (Hd.fq j6 "inside" "inside" gT 305),
 Hd.k 310 (Hd.co "are_parts" "are_parts" 581 193 2 307 308 .none .none 309 584 585),
 Hd.k 311 (Hd.fq fK "are_parts" "are_parts" gT 310),
 Hd.k 317 (Hd.co "is_whole" "is_whole" 587 195 1 312 313 (.ref 314) (.ref 315) 316 591 592),
 Hd.k 318 (Hd.fq ir "is_whole" "is_whole" gT 317),
 Hd.k 322 (Hd.co "parts_show" "parts_show" 594 197 3 319 320 .none .none 321 597 598),
 Hd.k 323 (Hd.fq fb "parts_show" "parts_show" gT 322),
 Hd.k 336 (Hd.co "shows_inside" "shows_inside" 609 203 3 331 332 (.ref 333) (.ref 334) 335 615 616),
 Hd.k 337 (Hd.fq eR "shows_inside" "shows_inside" gT 336),
 Hd.k 343 (Hd.co "steps_behind" "steps_behind" 620 210 2 338 339 (.ref 340) (.ref 341) 342 625 626),
 Hd.k 344 (Hd.fq eY "steps_behind" "steps_behind" z9 343),
 Hd.k 350 (Hd.co "answers" "answers" 628 212 2 345 346 (.ref 347) (.ref 348) 349 640 641),
 Hd.k 351 (Hd.fq jq "answers" "answers" z9 350),
 Hd.k 379 (Hd.co "shows_answers" "shows_answers" 673 243 3 374 375 (.ref 376) (.ref 377) 378 679 680),
 Hd.k 380 (Hd.fq d7 "shows_answers" "shows_answers" HZ 379),
 Hd.k 386 (Hd.co "_law_hand" "_law_hand" 684 252 1 381 382 (.ref 383) (.ref 384) 385 690 691),
 Hd.k 387 (Hd.fq iA "_law_hand" "_law_hand" oX 386),
 Hd.k 393 (Hd.co "_law_take" "_law_take" 693 256 2 388 389 (.ref 390) (.ref 391) 392 701 702),
 Hd.k 394 (Hd.fq iC "_law_take" "_law_take" oX 393),
 Hd.k 398 (Hd.co "_law_rows" "_law_rows" 704 265 1 395 396 .none .none 397 707 708),
 Hd.k 399 (Hd.fq dj "_law_rows" "_law_rows" oX 398),
 Hd.k 403 (Hd.co "law" "law" 710 276 1 400 401 .none .none 402 713 714),
 Hd.k 404 (Hd.fq kY "law" "law" oX 403)]
def KA:List Addr:=[3,20,21,27,28,34,35,39,40,46,47,53,54,60,61,67,68,74,75,81,82,88,89,95,96,100,101,105,106,112,113,122,123,127,128,132,133,137,138,168,169,185,186,192,193,197,198,209,210,216,217,223,224,230,231,235,236,242,243,249,250,252,253,263,264,270,271,277,278,284,285,291,292,298,299,305,306,310,311,317,318,322,323,336,337,343,344,350,351,379,380,386,387,393,394,398,399,403,404]
set_option maxHeartbeats 0 in
theorem left:PySem.W.LeftO PW (PySem.W.view PW [1,2,3,4,6,7,8,9,10,11,12,13,15,16,17,18,19,20,21,22,23,24,25,26,28,29,30,31,32,33,34,35,36,37,39,40,41,42,43,44,45,46,47,49,50,52,53,54,55,56,58,59,60,61]) [] (fun _=>true) (PySem.W.kmHook Row.KX Row.KA (fun _=>rfl) [233]).obs (PySem.W.kmHook Row.KX Row.KA (fun _=>rfl) [233]).val 4214:=
 Hd.left (by kernel_rfl) (fun s=>by kernel_rfl) rfl fun w os=>by kernel_rfl
end Row
namespace L3
open PySem PySem.Spec PyProof.Rows L2
section
variable {prog:Program}{w:World}{A:Around}{R:Result->Shared->Prop}{s:Shared}
theorem yY{elt target iter:Expr}{ifs:List Expr}{scope:Scope}{pos:Pos}{it acc:Value}{env:Env}(I:Nat->Shared->Prop)
 (turn:∀n s,I n s->wpAny (model prog w) A (pyNext it) (fun r s₁=>match r with
   |none=>R (.ok .next) s₁
   |some v=>wpAny (model prog w) A (letOwnedTupleGo target it v) (fun _ s₀=>wpAny (model prog w) A (assign target env v) (fun _ s₂=>
     wpAny (model prog w) A (forIn ifs true fun c r=>if r=true then do let ok <-isTrue c env (eval c env);pure (ForInStep.yield ok)else pure (ForInStep.yield r)) (fun ok s₃=>
      if ok=true then wpAny (model prog w) A (eval elt env) (fun x s₄=>
       wpAny (model prog w) A (call (.builtin "list.append") [acc,x]) (fun _ s₅=>∃m,m<n/\I m s₅) (fun _ _=>False) s₄) (fun _ _=>False) s₃
      else∃m,m<n/\I m s₃) (fun _ _=>False) s₂) (fun _ _=>False) s₀) (fun _ _=>False) s₁) (fun _ _=>False) s)
 (n:Nat) (h:I n s):
 codeAny (model prog w) A (.compLoop (.ListComp elt [⟨target,iter,ifs,0⟩] scope pos) 0 it acc env) R s:=by
 refine codeAny_loop rfl I (fun n s hI=>?_) n h;show wpAny _ A ((compTurn (.ListComp elt [⟨target,iter,ifs,0⟩] scope pos) 0 it acc env).onRaise (fun x=>do noteFrame x env;theTreesLotGoes x)) _ _ s;refine wpAny_noted ?_;rw[compTurn_list];refine wpAny_bind (wpAny_standAt (wpAny_bind (wpAny_mono (turn n s hI) (fun r s₁ h₁=>?_) fun _ _ h'=>h'.elim)));cases r with
 |none=>exact wpAny_pure h₁
 |some v=>
  refine wpAny_bind (wpAny_mono h₁ (fun _ s₀ h₀=>?_) fun _ _ h'=>h'.elim);refine wpAny_bind (wpAny_mono h₀ (fun _ s₂ h₂=>wpAny_bind (wpAny_mono h₂ (fun ok s₃ h₃=>?_) fun _ _ h'=>h'.elim)) fun _ _ h'=>h'.elim);cases ok with
  |false=>exact wpAny_pure ⟨rfl,h₃⟩
  |true=>
   exact wpAny_bind (wpAny_bind (wpAny_mono h₃ (fun x s₄ h₄=>wpAny_bind (wpAny_mono h₄ (fun _ s₅ h₅=>wpAny_pure (wpAny_pure ⟨rfl,h₅⟩)) fun _ _ h'=>h'.elim)) fun _ _ h'=>h'.elim))
end
def cQ(cells:List (Str×Addr)):List (Str×NameKind)->List (Str×Addr)->List (Str×Addr)
 | [],acc=>acc
 |(n,k)::r,acc=>if k== .free then(match cells.lookup n with|some c=>cQ cells r ((n,c)::acc)|none=>cQ cells r acc)else cQ cells r acc
theorem cA{cells:List (Str×Addr)}:∀(names:List (Str×NameKind)) (acc:List (Str×Addr)),(∀x c,acc.lookup x=some c->cells.lookup x=some c)->
 ∀x c,(cQ cells names acc).lookup x=some c->cells.lookup x=some c
 | [],acc,h,x,c,e=>h x c e
 |(n,k)::r,acc,h,x,c,e=>by
  unfold cQ at e;split at e
  . split at e
    . rename_i d q;refine cA r _ (fun y b e'=>?_) x c e;rw[List.lookup_cons]at e';split at e'
      . rename_i z;cases e';have z':y=n:=by simpa using z
        rw[z'];exact q
      . exact h y b e'
    . exact cA r _ h x c e
  . exact cA r _ h x c e
theorem g8{cells:List (Str×Addr)}{x:Str}:∀(names:List (Str×NameKind)) (acc:List (Str×Addr)),(∃c,cells.lookup x=some c)->((x,NameKind.free)∈names\/∃c,acc.lookup x=some c)->
 ∃c,(cQ cells names acc).lookup x=some c
 | [],acc,_,h=>by
   rcases h with h|h
   . simp at h
   . exact h
 |(n,k)::r,acc,hc,h=>by
  unfold cQ;split
  . rename_i hk;split
    . rename_i d q;refine g8 r _ hc ?_;rcases h with h|⟨c,h⟩
      . rcases List.mem_cons.mp h with e|e
        . cases e;exact .inr ⟨d,by simp[List.lookup_cons]⟩
        . exact .inl e
      . refine .inr ?_;rw[List.lookup_cons];split
        . exact⟨_,rfl⟩
        . exact⟨c,h⟩
    . rename_i q;refine g8 r _ hc ?_;rcases h with h|h
      . rcases List.mem_cons.mp h with e|e
        . cases e;obtain⟨c,hc⟩:=hc;rw[hc]at q;cases q
        . exact .inl e
      . exact .inr h
  . rename_i hk;refine g8 r _ hc ?_;rcases h with h|h
    . rcases List.mem_cons.mp h with e|e
      . cases e;exact absurd rfl hk
      . exact .inl e
    . exact .inr h
theorem lS{scope:Scope}{env:Env}(h:∀x∈scope.names,x.2= .free->∃c,env.cells.lookup x.1=some c):closureFor scope env=pure (cQ env.cells scope.names []):=by
 have key:∀(names:List (Str×NameKind)) (acc:List (Str×Addr)),(∀x∈names,x.2= .free->∃c,env.cells.lookup x.1=some c)->
  (forIn names acc (fun(x:Str×NameKind) (cs:List (Str×Addr))=>if(x.2==NameKind.free)=true then(do let a <-cellOf env x.1;pure (ForInStep.yield ((x.1,a)::cs)):Sem (ForInStep (List (Str×Addr))))else pure (ForInStep.yield cs)))=(pure (cQ env.cells names acc):Sem (List (Str×Addr))):=by
  intro names;induction names with
  |nil=>intro acc _;rfl
  |cons p r ih=>
   intro acc hh;obtain⟨n,k⟩:=p;rw[List.forIn_cons];have ih':=ih;by_cases hk:(k==NameKind.free)=true
   . obtain⟨c,e⟩:=hh (n,k) List.mem_cons_self (by simpa using hk);simp only[hk,if_true]
     have e1:cellOf env n=pure c:=by
      unfold cellOf;rw[e]
     rw[e1];simp only[pure_bind];rw[ih _ fun x hx=>hh x (List.mem_cons_of_mem _ hx)];conv=>rhs;unfold cQ
     simp only[hk,if_true];rw[show env.cells.lookup n=some c from e]
   . have hk':(k==NameKind.free)=false:=by simpa using hk
     simp only[hk',Bool.false_eq_true,if_false,pure_bind];rw[ih _ fun x hx=>hh x (List.mem_cons_of_mem _ hx)];conv=>rhs;unfold cQ
     simp only[hk',Bool.false_eq_true,if_false]
 unfold closureFor;have:=key scope.names [] h;rw[bind_pure]
 first
  |exact this
  |(simp only[bind_pure]at this⊢;exact this)
end L3
namespace L3
open PySem PySem.Spec L2
open PyProof.Rows hiding St
theorem iJ(env:Env):∀(names:List (Str×NameKind)) (x:Str),
 (names.map fun(n,k)=>if(k==NameKind.free&&env.scope.kind== .function&&env.kindOf n==some .cell)then(n,NameKind.cell)else(n,k)).lookup x=
   (names.lookup x).map fun k=>if(k==NameKind.free&&env.scope.kind== .function&&env.kindOf x==some .cell)then NameKind.cell else k
 | [],_=>rfl
 |(n,k)::r,x=>by
  show List.lookup x ((if(k==NameKind.free&&env.scope.kind== .function&&env.kindOf n==some .cell)=true then(n,NameKind.cell)else(n,k))::_)=_;cases hx:x==n with
  |true=>
   have e:x=n:=by simpa using hx
   subst e;by_cases hc:(k==NameKind.free&&env.scope.kind== .function&&env.kindOf x==some .cell)=true
   . rw[if_pos hc];simp only[List.lookup_cons,beq_self_eq_true,Option.map_some];rw[if_pos hc]
   . rw[if_neg hc];simp only[List.lookup_cons,beq_self_eq_true,Option.map_some];rw[if_neg hc]
  |false=>
   by_cases hc:(k==NameKind.free&&env.scope.kind== .function&&env.kindOf n==some .cell)=true
   . rw[if_pos hc];simp only[List.lookup_cons,hx];exact iJ env r x
   . rw[if_neg hc];simp only[List.lookup_cons,hx];exact iJ env r x
theorem xr{env:Env}{scope:Scope}{x:Str}(h:scope.names.lookup x=some .free):(relabel scope env).names.lookup x=some .cell\/(relabel scope env).names.lookup x=some .free:=by
 have e:(relabel scope env).names.lookup x=_:=iJ env scope.names x;rw[e,h];simp only[Option.map_some];split
 . exact .inl rfl
 . exact .inr rfl
theorem yy{env:Env}{scope:Scope}{x:Str}(h:(relabel scope env).names.lookup x=some .cell\/(relabel scope env).names.lookup x=some .free):(x,NameKind.free)∈scope.names\/scope.names.lookup x=some .cell:=by
 have e:(relabel scope env).names.lookup x=_:=iJ env scope.names x;rw[e]at h;cases q:scope.names.lookup x with
 |none=>rw[q]at h;rcases h with h|h<;>cases h
 |some k=>
  rw[q]at h;simp only[Option.map_some]at h;have m:=PySem.mem_of_lookup q;by_cases hc:(k==NameKind.free&&env.scope.kind== .function&&env.kindOf x==some .cell)=true
  . have:k= .free:=by
     simp only[Bool.and_eq_true]at hc;simpa using hc.1.1
    subst this;exact .inl m
  . rw[if_neg hc]at h;rcases h with h|h
    . cases h;exact .inr rfl
    . cases h;exact .inl m
theorem fE:∀(names:List (Str×NameKind)) (L:Nat) (acc:List (Str×Addr)),cellsFrom L names acc=cellsFrom L names []++acc
 | [],_,_=>rfl
 |(n,k)::r,L,acc=>by
  unfold cellsFrom;by_cases hk:(k==NameKind.cell)=true
  . rw[if_pos hk,if_pos hk,fE r (L+1) ((n,L)::acc),fE r (L+1) [(n,L)],List.append_assoc];rfl
  . rw[if_neg hk,if_neg hk];exact fE r L acc
theorem qg:∀ {names:List (Str×NameKind)} {L:Nat} {x:Str} {c:Addr},(x,c)∈cellsFrom L names []->(x,NameKind.cell)∈names
 | [],_,_,_,h=>by unfold cellsFrom at h;cases h
 |(n,k)::r,L,x,c,h=>by
  unfold cellsFrom at h;by_cases hk:(k==NameKind.cell)=true
  . rw[if_pos hk,fE]at h;have hk':k= .cell:=by simpa using hk
    subst hk';rcases List.mem_append.mp h with h|h
    . exact List.mem_cons_of_mem _ (qg h)
    . have:(x,c)=(n,L):=by simpa using h
      cases this;exact List.mem_cons_self
  . rw[if_neg hk]at h;exact List.mem_cons_of_mem _ (qg h)
theorem pA:∀ {l1 l2:List (Str×Addr)} {x:Str} {c:Addr},(l1++l2).lookup x=some c->l1.lookup x=some c\/(l1.lookup x=none/\l2.lookup x=some c)
 | [],_,_,_,h=> .inr ⟨rfl,h⟩
 |(n,d)::l1,l2,x,c,h=>by
  rw[List.cons_append,List.lookup_cons]at h;rw[List.lookup_cons];cases hx:x==n with
  |true=>rw[hx]at h;exact .inl h
  |false=>rw[hx]at h;exact pA h
theorem se:∀ {l1 l2:List (Str×Addr)} {x:Str},l1.lookup x=none->(l1++l2).lookup x=l2.lookup x
 | [],_,_,_=>rfl
 |(n,d)::l1,l2,x,h=>by
  rw[List.lookup_cons]at h;rw[List.cons_append,List.lookup_cons];cases hx:x==n with
  |true=>rw[hx]at h;cases h
  |false=>rw[hx]at h;exact se h
def lq(scope:Scope)(C:Addr)(cl:List (Str×Addr)):List (Str×Addr):=cellsFrom (C+1) scope.names cl
theorem ij{scope:Scope}{C:Addr}{cl:List (Str×Addr)}{x:Str}{c:Addr}(h:(lq scope C cl).lookup x=some c):(x,c)∈cellsFrom (C+1) scope.names []\/cl.lookup x=some c:=by
 unfold lq at h;rw[fE]at h;rcases pA h with h|h
 . exact .inl (PySem.mem_of_lookup h)
 . exact .inr h.2
theorem Ip(names:List (Str×NameKind))(h:Heap){C:Addr}(e:h.objs.size=C+1):CellsOk (pushCells h names) (C+1) (cellsFrom (C+1) names []):=by
 have:=cellsFrom_ok names h (C+1) [] ⟨fun _ _ hm=>(nomatch hm),List.Pairwise.nil⟩ (by rw[e];exact Nat.le_refl _);rw[e]at this;exact this
theorem mW{names:List (Str×NameKind)}{C:Addr}{x:Str}{c:Addr}:∀ {L:Nat},C<=L->(x,c)∈cellsFrom L names []->C<=c:=by
 induction names with
 |nil=>intro L _ h;unfold cellsFrom at h;cases h
 |cons p r ih=>
  obtain⟨n,k⟩:=p;intro L hL h;unfold cellsFrom at h;by_cases hk:(k==NameKind.cell)=true
  . rw[if_pos hk,fE]at h;rcases List.mem_append.mp h with h|h
    . exact ih (Nat.le_trans hL (Nat.le_succ L)) h
    . have:(x,c)=(n,L):=by simpa using h
      cases this;exact hL
  . rw[if_neg hk]at h;exact ih hL h
theorem own_apart{names:List (Str×NameKind)}{x y:Str}{c:Addr}:∀ {L:Nat},(x,c)∈cellsFrom L names []->(y,c)∈cellsFrom L names []->x=y:=by
 induction names with
 |nil=>intro L h;unfold cellsFrom at h;cases h
 |cons p r ih=>
  obtain⟨n,k⟩:=p;intro L h1 h2;unfold cellsFrom at h1 h2;by_cases hk:(k==NameKind.cell)=true
  . rw[if_pos hk,fE]at h1 h2;rcases List.mem_append.mp h1 with g1|g1<;>rcases List.mem_append.mp h2 with g2|g2
    . exact ih g1 g2
    . have e2:(y,c)=(n,L):=by simpa using g2
      have ec:c=L:=(Prod.mk.inj e2).2;have:=mW (C:=L+1) (Nat.le_refl _) g1;rw[ec]at this;exact absurd this (Nat.not_succ_le_self _)
    . have e1:(x,c)=(n,L):=by simpa using g1
      have ec:c=L:=(Prod.mk.inj e1).2;have:=mW (C:=L+1) (Nat.le_refl _) g2;rw[ec]at this;exact absurd this (Nat.not_succ_le_self _)
    . have e1:(x,c)=(n,L):=by simpa using g1
      have e2:(y,c)=(n,L):=by simpa using g2
      exact(Prod.mk.inj e1).1.trans (Prod.mk.inj e2).1.symm
  . rw[if_neg hk]at h1 h2;exact ih h1 h2
theorem sW{M:Model}{A:Around}{E:Value->Shared->Prop}{s:Shared}{scope:Scope}{globals:Addr}{cl:List (Str×Addr)}{qual:Str}{env:Env}{Q:Env->Shared->Prop}
 (hQ:Q (newEnv scope s.heap.objs.size globals (lq scope s.heap.objs.size cl) qual none .none (some env) builtinsNs) {s with heap:=pushCells (s.heap.push {cls:= .type "dict",data:= .dict #[]}) scope.names}):
 wpAny M A (newFunctionEnv scope globals cl [] qual none .none (some env)) Q E s:=by
 simp only[newFunctionEnv,Option.isSome_some,if_true];refine wpAny_bind (wpAny_alloc ?_);refine wpAny_bind (wpAny_layCells _ (fun name kind cells=>by cases hkc:kind==NameKind.cell<;>simp[hkc]) _ _ _ _ ?_);rw[show({s with heap:=s.heap.push {cls:= .type "dict",data:= .dict #[]}}:Shared).heap.objs.size=s.heap.objs.size+1 from Heap.size_push ..];rw[List.forIn_nil];exact wpAny_bind (wpAny_pure (wpAny_pure hQ))
structure bU(X:Cx)(scope:Scope)(Nc:List Str)(fr:List (Option Nat)):Prop where
 kind:scope.kind= .function
 cells:∀x∈scope.names,x.2= .cell->scope.names.lookup x.1=some .cell
 names:∀x∈scope.names,x.2= .local->scope.names.lookup x.1=some .local
 free:∀x∈scope.names,x.2= .free->X.env.kindOf x.1=some .cell\/X.env.kindOf x.1=some .free
 len:fr.length=Nc.length
 map:∀(i j:Nat) (x:Str),Nc[i]?=some x->fr[i]?=some (some j)->X.N[j]?=some x/\scope.names.lookup x=some .free/\(X.env.kindOf x=some .cell\/X.env.kindOf x=some .free)
def σC(fr:List (Option Nat))(σ:St):St:=fr.map fun o=>o.bind fun j=>(σ[j]?).join
def fj(X:Cx)(scope:Scope)(Nc:List Str)(C:Addr)(s:Shared)(H:Hp)(ex:List Addr):Cx:=
 {X with N:=Nc,s₀:=s,H₀:=H,env:=compEnvC scope (lq scope C (cQ X.env.cells scope.names [])) C X.env,outer:=X.stack,stack:=X.stack,ex:=ex,fn:=fun x=>scope.names.lookup x==some .cell,pn:=[],xe:=fun _ _=>False}
def uA(wi:TI)(fr:List (Option Nat))(g:TG)(c:TT)(te:TE):TE:=fun σ H Q=>wi σ H fun J H1=>∀l,H1 l=none->
 ∃W:Nat->Nat->L2.St->Hp->Prop,(∃m,W 0 m (σC fr σ) (upd H1 l (.lst [])))/\∀i m σ H,W i m σ H->
  (J.stop i H/\Q (.ref l) H)\/(J.go i H/\∃N:L2.St->Hp->Prop,(∀σ' H',N σ' H'->∃m',m'<m/\W (i+1) m' σ' H')/\∀x H',J.nN i H x H'->
    g x σ H' fun σ2 H2=>c σ2 H2 fun b H3=>if b=true then te σ2 H3 fun y H4=>∃ys,H4 l=some (.lst ys)/\ys.length<sizeLine/\N σ2 (upd H4 l (.lst (ys++[y])))else N σ2 H3)
def qF(X:Cx)(ifs:List Expr)(t:TT):Prop:=
 ∀(pins:List (Addr×Obj)) (s:Shared) (σ:St) (H:Hp) (Q:Bool->Hp->Prop),Inv X pins σ H s->t σ H Q->
  wpAny (model X.prog X.w) X.A (forIn ifs true fun c r=>if r=true then do let ok <-isTrue c X.env (eval c X.env);pure (ForInStep.yield ok)else pure (ForInStep.yield r)) (TP X pins σ Q) X.xe s
def LN:TT:=fun _ H Q=>Q true H
theorem F9{X:Cx}:qF X [] LN:=fun _ _ _ H _ I h=>wpAny_tests_nil ⟨H,I,h⟩
theorem GK{X:Cx}{c:Expr}{t:TT}(h:PT X c t):qF X [c] t:=fun pins s σ H Q I q=>wpAny_tests_one (h pins s σ H Q I q)
section
variable {X:Cx}{scope:Scope}{Nc:List Str}{fr:List (Option Nat)}{pins:List (Addr×Obj)}{σ:St}{H:Hp}{s:Shared}
theorem Ky{C:Addr}{fp:List Addr}(S:bU X scope Nc fr)(I:Inv X pins σ H s)(hC:C=s.heap.objs.size)(hf:∀b∈fp,kI X pins H b)(hlt:∀b∈fp,b<s.heap.objs.size)(hnc:∀b∈fp,∀x c,X.env.cells.lookup x=some c->c≠b):
 (fj X scope Nc C s H fp).Ok where
 mod:=I.ok.mod
 kind:=S.kind
 glob:=I.ok.glob
 blt:=I.ok.blt
 above:=Nat.le_of_eq hC.symm
 inj:=fun x y c h1 h2=>by
  have low:∀ {z},(cQ X.env.cells scope.names []).lookup z=some c->c<s.heap.objs.size:=fun{z} hz=>by
   obtain⟨v,q⟩:=I.cell z c (cA _ [] (fun _ _ e=>by cases e) z c hz);exact q.lt
  rcases ij h1 with h1|h1<;>rcases ij h2 with h2|h2
  . exact own_apart h1 h2
  . have a:=mW (C:=C+1) (Nat.le_refl _) h1;have b:c<C:=by rw[hC];exact low h2
    exact absurd a (Nat.not_le_of_gt (Nat.lt_succ_of_lt b))
  . have a:=mW (C:=C+1) (Nat.le_refl _) h2;have b:c<C:=by rw[hC];exact low h1
    exact absurd a (Nat.not_le_of_gt (Nat.lt_succ_of_lt b))
  . exact I.ok.inj x y c (cA _ [] (fun _ _ e=>by cases e) x c h1) (cA _ [] (fun _ _ e=>by cases e) y c h2)
 has:=fun x hx=>by
  rcases yy hx with m|m
  . obtain⟨c,e⟩:=g8 scope.names [] (I.ok.has x (S.free _ m rfl)) (.inl m);exact Option.isSome_iff_exists.mp (PySem.W.cellsFrom_some _ _ _ (.inr (by rw[e];rfl)))
  . exact Option.isSome_iff_exists.mp (PySem.W.cellsFrom_some _ _ _ (.inl m))
 yg:=fun x c hf h=>by
  have hl:scope.names.lookup x=some .cell:=by
   have:(scope.names.lookup x==some .cell)=true:=hf;simpa using this
  obtain⟨c',e⟩:=Option.isSome_iff_exists.mp (PySem.W.cellsFrom_some (x:=x) scope.names (C+1) [] (.inl hl))
  have h':(cellsFrom (C+1) scope.names []++cQ X.env.cells scope.names []).lookup x=some c:=by
   rw[<-fE];exact h
  rcases pA h' with q|q
  . have:=mW (C:=C+1) (Nat.le_refl _) (PySem.mem_of_lookup q);show s.heap.objs.size<=c;rw[<-hC];exact Nat.le_of_succ_le this
  . rw[q.1]at e;cases e
 hd:=I.ok.hd
 frames:=I.ok.frames
 zD:= .inl rfl
 Cs:=fun b hb=>⟨by rw[show(fj X scope Nc C s H fp).env.locals=s.heap.objs.size from hC];exact Nat.ne_of_lt (hlt b hb),fun x c h=>by
  rcases ij h with h|h
  . have a:=mW (C:=C+1) (Nat.le_refl _) h;have b':b<C:=by rw[hC];exact hlt b hb
    exact Nat.ne_of_gt (Nat.lt_of_lt_of_le b' (Nat.le_of_succ_le a))
  . exact hnc b hb x c (cA _ [] (fun _ _ e=>by cases e) x c h)⟩
 bs:=I.bs
 qz:=Nat.le_trans I.ok.qz I.sz
 tE:=fun b o e hb=>by
  have hn:=(hf b hb).2.2.2.1;rcases hn with hn|hn
  . exact I.ok.tE b o e hn
  . exact absurd (Heap.lt_size (I.ok.bs b o e).1) (Nat.not_lt.mpr hn)
 sR:=fun b hb z=>by
  have q:=I.xD b z;rcases List.mem_cons.mp q with q|q
  . exact(hf b hb).2.1 q
  . exact(hf b hb).2.2.1 q
 jD:=I.stack
 tY:=fun b hb=>I.vt b hb
 gt:=I.ok.gt
theorem zT{i:Nat}{v:V}(h:(σC fr σ)[i]?=some (some v)):∃j,fr[i]?=some (some j)/\σ[j]?=some (some v):=by
 unfold σC at h;rw[List.getElem?_map]at h;cases q:fr[i]? with
 |none=>rw[q]at h;cases h
 |some o=>
  rw[q]at h;cases o with
  |none=>simp at h
  |some j=>
   simp only[Option.map_some,Option.some.injEq,Option.bind_some]at h;refine⟨j,rfl,?_⟩;cases r:σ[j]? with
   |none=>rw[r]at h;cases h
   |some u=>rw[r]at h;simp at h;rw[h]
theorem E5{s':Shared}{h':Heap}{C:Addr}{fp:List Addr}{t':Nat}(S:bU X scope Nc fr)(I:Inv X pins σ H s)(hC:C=s.heap.objs.size)(ok:(fj X scope Nc C s H fp).Ok)(hfr:∀b∈fp,H b=none)
 (k:∀b o,s.heap.get? b=some o->h'.get? b=some o) (hn:h'.Ns C (fun _=>none)) (hcs:∀x c,(x,c)∈cellsFrom (C+1) scope.names []->h'.IsCell c none):Inv (fj X scope Nc C s H fp) [] (σC fr σ) H {s with heap:=h',toks:=t'} where
 ok:=ok
 os:=rfl
 bare:=I.bare
 base:=Un.kept k
 loc:=⟨_,hn,fun i x v h1 h2 h3=>by
  obtain⟨j,q1,q2⟩:=zT h2;obtain⟨n1,n2,n3⟩:=S.map i j x h1 q1;obtain⟨m,hm,hl⟩:=I.loc
  have vis:ye X.env.scope x:=by
   rcases n3 with z|z
   . exact .inr (.inl z)
   . exact .inr (.inr z)
  obtain⟨u,r,lk⟩:=hl j x v n1 q2 vis;refine⟨u,r,?_⟩;rcases lk with⟨z,_⟩|⟨z,c,e,ic⟩
  . rcases n3 with y|y
    . rw[y]at z;cases z
    . rw[y]at z;cases z
  . refine .inr ⟨xr n2,?_⟩;obtain⟨c',e'⟩:=g8 scope.names [] ⟨c,e⟩ (.inl (PySem.mem_of_lookup n2));have e2:=cA _ [] (fun _ _ e=>by cases e) x c' e';rw[e]at e2;cases e2;refine⟨c,?_,ic.keeps k⟩;show(lq scope C (cQ X.env.cells scope.names [])).lookup x=some c;unfold lq;rw[fE,se ?_]
    . exact e'
    . cases q:(cellsFrom (C+1) scope.names []).lookup x with
      |none=>rfl
      |some c2=>
       have:=S.cells _ (qg (PySem.mem_of_lookup q)) rfl;rw[n2]at this;cases this⟩
 cell:=fun x c h=>by
  rcases ij h with h|h
  . exact⟨_,hcs x c h⟩
  obtain⟨v,q⟩:=I.cell x c (cA _ [] (fun _ _ e=>by cases e) x c h);exact⟨v,q.keeps k⟩
 free:=by show H C=none;rw[hC];exact I.aK.fresh (Nat.le_refl _)
 gY:=fun x c h=>by
  rcases ij h with h|h
  . have a:=mW (C:=C+1) (Nat.le_refl _) h;exact I.aK.fresh (by rw[<-hC];exact Nat.le_of_succ_le a)
  . exact I.gY x c (cA _ [] (fun _ _ e=>by cases e) x c h)
 pin:=fun p hp=>by cases hp
 aK:=I.aK.kept k
 len:=by unfold σC;rw[List.length_map];exact S.len
theorem Inv.forget{C:Addr}{h':Heap}(I:Inv X pins σ H s)(f:kI X pins H C)(hs:Heap.SameBut C s.heap h'):Inv X pins σ H {s with heap:=h'}:=by
 refine I.A_ (s':={s with heap:=h'}) (ch:=[C]) rfl ?_ ?_ I.bare fun b hb=>?_
 . have ne:∀b,b∉[C]->b≠C:=fun b hb z=>hb (by simp[z]);exact{keep:=fun b o q _ _ hx=>(hs.2 b (ne b hx)).trans q,slot:=fun b o q _ _ hx=>⟨o.slots,(hs.2 b (ne b hx)).trans q⟩,free:=fun b o q n _=>n,there:=fun b o q hx=>⟨o,(hs.2 b (ne b hx)).trans q⟩,oq:=fun _ _ e=>e,mV:=fun _ _ _ e=>e,mT:=fun b ps e=>⟨#[],by rw[e];simp⟩}
 . intro a o q;have na:∀b u,H b=some u->b≠C:=fun b u q z=>by rw[z,f.1]at q;cases q
   refine(I.aK a o q).kC (fun b u hb e=>?_) (fun _ q=>q) fun _ _ q=>q;rw[hs.2 b ?_]
   . exact e
   . rcases hb with rfl|hb
     . exact na _ _ q
     . exact na _ _ hb
 . have:b=C:=by simpa using hb
   subst this;exact⟨f.2.2.2.1,f.2.1,f.2.2.2.2.1,f.2.2.2.2.2⟩
theorem t_{elt tg iter:Expr}{ifs:List Expr}{wi:TI}{g:TG}{c:TT}{te:TE}{pos:Pos}{Q:VK}{RR:Value->Addr->Result->Shared->Prop}(hx:X.xe=fun _ _=>False)(hc:X.calm=true)(S:bU X scope Nc fr)(hi:PI X tg iter wi)
 (hg:∀C s H ex,PG (fj X scope Nc C s H ex) tg g) (ht:∀C s H ex,qF (fj X scope Nc C s H ex) ifs c) (he:∀C s H ex,PE (fj X scope Nc C s H ex) elt te) (I:Inv X pins σ H s) (h:uA wi fr g c te σ H Q)
 (fin:∀(l C:Addr) (s6:Shared) (H5:Hp) (m:Str->Option Value),s6.heap.Ns C m->kI X pins H5 C->Inv X pins σ H5 s6->Q (.ref l) H5->RR (.ref l) C (.ok .next) s6):
 wpAny (model X.prog X.w) X.A (eval iter X.env) (fun x s₁=>wpAny (model X.prog X.w) X.A (pyIter x) (fun it s₂=>wpAny (model X.prog X.w) X.A (newList []) (fun acc s₃=>
  wpAny (model X.prog X.w) X.A (newFunctionEnv scope X.env.globals (cQ X.env.cells scope.names []) [] X.env.qual none .none (some X.env)) (fun cenv s₄=>
   codeAny (model X.prog X.w) X.A (.compStart (.ListComp elt [⟨tg,iter,ifs,0⟩] scope pos) 0 it acc {cenv with scope:=relabel scope X.env}) (RR acc cenv.locals) s₄) X.xe s₃) X.xe s₂) X.xe s₁) X.xe s:=by
 refine bL (hi pins s σ H _ I h) fun v s1 h1=>bL h1 fun itv s2 h2=>?_;obtain⟨it,fp,tn,J,H2,e,I2,T,st2,f2,hR⟩:=h2;subst e;refine wpAny_newList ?_ (Nat.zero_le _);have I3:=I2.Ea (t':=s2.toks) (aq:=[]) (ys:=[]) .nil (Nat.zero_le _);generalize e3:({s2 with heap:=s2.heap.push {cls:= .type "list",data:= .seq ([]:List Value).toArray}}:Shared)=s3;have I3:Inv X pins σ (upd H2 s2.heap.objs.size (.lst [])) s3:=by rw[<-e3];exact I3
 have ml:s2.heap.objs.size<s3.heap.objs.size:=by rw[<-e3];show _<(s2.heap.push _).objs.size;rw[Heap.size_push];omega
 have k3:∀b o,s2.heap.get? b=some o->s3.heap.get? b=some o:=fun b o q=>by rw[<-e3];exact Heap.get?_push_of_some _ q
 obtain⟨W,⟨m0,w0⟩,turn⟩:=hR s2.heap.objs.size (I2.aK.fresh (Nat.le_refl _));refine sW ?_;have hn:(pushCells (s3.heap.push {cls:= .type "dict",data:= .dict #[]}) scope.names).Ns s3.heap.objs.size (fun _=>none):=(Heap.Ns.new s3.heap (.type "dict")).keeps (pushCells_keeps _ _);have hcs:∀x c,(x,c)∈cellsFrom (s3.heap.objs.size+1) scope.names []->(pushCells (s3.heap.push {cls:= .type "dict",data:= .dict #[]}) scope.names).IsCell c none:=fun x c h=>((Ip scope.names _ (Heap.size_push ..)).empty x c h).1;have k4:∀b o,s3.heap.get? b=some o->(pushCells (s3.heap.push {cls:= .type "dict",data:= .dict #[]}) scope.names).get? b=some o:=fun b o q=>pushCells_keeps _ _ b o (Heap.get?_push_of_some _ q);generalize(pushCells (s3.heap.push {cls:= .type "dict",data:= .dict #[]}) scope.names)=h' at hn hcs k4⊢;have hobj:∀b∈fp,∃o,s2.heap.get? b=some o/\∀v,o.data≠ .cell v:=T.obj _ _ st2;have hlt2:∀b∈fp,b<s3.heap.objs.size:=fun b hb=>let⟨o,q,_⟩:=hobj b hb;Heap.lt_size (k3 b o q)
 have hnl:∀b∈fp,b≠s2.heap.objs.size:=fun b hb=>by
  obtain⟨o,q,_⟩:=hobj b hb;exact Nat.ne_of_lt (Heap.lt_size q)
 have f3:∀b∈fp,kI X pins (upd H2 s2.heap.objs.size (.lst [])) b:=fun b hb=>⟨by rw[ax (hnl b hb)];exact(f2 b hb).1,(f2 b hb).2⟩
 have ok:=Ky (C:=s3.heap.objs.size) (fp:=fp) S I3 rfl f3 hlt2 fun b hb=>(f2 b hb).2.2.2.2.1
 have I4:Inv (fj X scope Nc s3.heap.objs.size s3 (upd H2 s2.heap.objs.size (.lst [])) fp) [] (σC fr σ) (upd H2 s2.heap.objs.size (.lst [])) {s3 with heap:=h',toks:=s3.toks}:=
  E5 (s':=s3) S I3 rfl ok (fun b hb=>(f3 b hb).1) k4 hn hcs
 have st4:tn 0 h':=T.keep _ _ _ st2 fun b _ o q=>k4 b o (k3 b o q);generalize hXc:fj X scope Nc s3.heap.objs.size s3 (upd H2 s2.heap.objs.size (.lst [])) fp=Xc at I4;have hgc:PG Xc tg g:=by rw[<-hXc];exact hg _ _ _ _
 have htc:qF Xc ifs c:=by rw[<-hXc];exact ht _ _ _ _
 have hec:PE Xc elt te:=by rw[<-hXc];exact he _ _ _ _
 have xP:Xc.prog=X.prog:=by rw[<-hXc];rfl
 have xW:Xc.w=X.w:=by rw[<-hXc];rfl
 have xK:Xc.K=X.K:=by rw[<-hXc];rfl
 have xc:Xc.calm=true:=by rw[<-hXc];exact hc
 have xA:Xc.A=X.A:=by rw[<-hXc];rfl
 have xE:Xc.env=compEnvC scope (lq scope s3.heap.objs.size (cQ X.env.cells scope.names [])) s3.heap.objs.size X.env:=by rw[<-hXc];rfl
 have xx:Xc.xe=fun _ _=>False:=by rw[<-hXc];rfl
 have fpc:∀ {H':Hp},(∀b∈fp,H' b=none)->∀b∈fp,kI Xc [] H' b:=fun{H'} hn b hb=>by
  rw[<-hXc];refine⟨hn b hb,Nat.ne_of_lt (hlt2 b hb),ok.sR b hb,.inl hb,(ok.Cs b hb).2,fun p hp=>by cases hp⟩
 have loop:codeAny (model X.prog X.w) X.A (.compLoop (.ListComp elt [⟨tg,iter,ifs,0⟩] scope pos) 0 (.ref it) (.ref s2.heap.objs.size) (compEnvC scope (lq scope s3.heap.objs.size (cQ X.env.cells scope.names [])) s3.heap.objs.size X.env))
  (RR (.ref s2.heap.objs.size) s3.heap.objs.size) {s3 with heap:=h',toks:=s3.toks}:=by
  refine yY (fun n s'=>∃i σ' H',Inv Xc [] σ' H' s'/\tn i s'.heap/\(∀b∈fp,H' b=none)/\W i n σ' H') ?_ m0 ⟨0,_,_,I4,st4,fun b hb=>(f3 b hb).1,w0⟩;rintro n s5 ⟨i,σ5,H5,I5,st5,fr5,w5⟩;rcases turn i n σ5 H5 w5 with⟨stop,qn⟩|⟨go,N,hN,step⟩
  . have q:=T.done Xc xP xW xK xc i [] s5 σ5 H5 (fun _ _=>False) I5 (fpc fr5) st5 stop;rw[xA]at q;refine bL q fun r s6 ⟨hr,I6⟩=>?_;subst hr;obtain⟨m,hm,_⟩:=I6.loc;rw[xE]at hm;have free6:H5 s3.heap.objs.size=none:=by have:=I6.free;rw[xE]at this;exact this
    have un6:Un (oP X.stack) fp (upd H2 s2.heap.objs.size (.lst [])) H5 s3.heap s6.heap:=by have:=I6.base;rw[<-hXc]at this;exact this
    have os6:s6.os=s3.os:=by have:=I6.os;rw[<-hXc]at this;exact this
    have hok6:gB X.prog X.w H5 s6.heap:=by have:=I6.aK;rw[xP,xW]at this;exact this
    have J:=I3.A_ (s':=s6) (ch:=fp) os6 un6 hok6 I6.bare fun b hb=>⟨(f3 b hb).2.2.2.1,(f3 b hb).2.1,(f3 b hb).2.2.2.2.1,(f3 b hb).2.2.2.2.2⟩
    exact fin _ _ s6 H5 m hm (I3.sM (Nat.le_refl _) free6) J qn
  . have q:=T.item Xc xP xW xK xc i [] s5 σ5 H5 (fun _ _=>False) I5 (fpc fr5) st5 go;rw[xA]at q;refine bL q fun r s6 ⟨u,hr,h6⟩=>?_;subst hr;refine bL h6 fun _ s7 ⟨x,H7,I7,r7,y7,st7,fr7⟩=>?_;have I7':=I7.pinned (fpc fr7) (T.obj _ _ st7);have q8:=hgc _ s7 σ5 H7 x u _ I7' r7 (step x H7 y7);rw[xP,xW,xA,xE,xx]at q8;refine bL q8 fun _ s8 ⟨σ8,H8,I8,q8⟩=>?_;have q9:=htc _ s8 σ8 H8 _ I8 q8;rw[xP,xW,xA,xE,xx]at q9;refine bL q9 fun b s9 ⟨H9,I9,q9⟩=>?_
    have again:∀ {H':Hp} {s':Shared},Inv Xc ([]++qZ fp s7.heap) σ8 H' s'->N σ8 H'->∃m,m<n/\∃i σ' H',Inv Xc [] σ' H' s'/\tn i s'.heap/\(∀b∈fp,H' b=none)/\W i m σ' H':=fun{H' s'} J nn=>by
     obtain⟨m',hm,w7⟩:=hN σ8 H' nn;refine⟨m',hm,i+1,σ8,H',J.gh,T.keep _ _ _ st7 fun b hb o e=>(J.pin (b,o) (List.mem_append_right _ (List.mem_append_right _ (mh hb e)))).1,fun b hb=>?_,w7⟩;obtain⟨o,e,d⟩:=T.obj _ _ st7 b hb;exact(J.pin (b,o) (List.mem_append_right _ (List.mem_append_right _ (mh hb e)))).2.1
    cases b with
    |false=>exact again I9 q9
    |true=>
     have qe:=hec _ s9 σ8 H9 _ I9 q9;rw[xP,xW,xA,xE,xx]at qe;refine bL qe fun y s10 ⟨vy,H10,I10,ry,ys,hy,hlt,qN⟩=>?_;have qa:=vX (X:=Xc) _ s10 σ8 H10 (.ref s2.heap.objs.size) [vy] (.ref s2.heap.objs.size) [y] (fun _ H'=>N σ8 H') I10 rfl (.cons ry .nil) ⟨_,ys,vy,rfl,rfl,hy,hlt,qN⟩;rw[xP,xW,xA,xx]at qa;exact bL qa fun _ s11 ⟨_,H11,I11,_,q11⟩=>again I11 q11
 refine codeAny_compStart_list ?_ ?_
 . exact loop
 . exact T.self _ 0 _ _ _ st4 loop
theorem zy{elt tg iter:Expr}{ifs:List Expr}{wi:TI}{g:TG}{c:TT}{te:TE}{pos:Pos}(hx:X.xe=fun _ _=>False)(hc:X.calm=true)(S:bU X scope Nc fr)(hi:PI X tg iter wi)
 (hg:∀C s H ex,PG (fj X scope Nc C s H ex) tg g) (ht:∀C s H ex,qF (fj X scope Nc C s H ex) ifs c) (he:∀C s H ex,PE (fj X scope Nc C s H ex) elt te)
 (hs:∀x,foldedSetIterable iter X.env x=pure x:=by intro _;rfl):PE X (.ListComp elt [⟨tg,iter,ifs,0⟩] scope pos) (uA wi fr g c te):=by
 intro pins s σ H Q I h;rw[eval_ListComp];have hcl:closureFor scope X.env=pure (cQ X.env.cells scope.names []):=lS fun x hx hk=>I.ok.has x.1 (S.free x hx hk);refine wpAny_comprehension_free rfl hs hcl S.kind S.names ?_;exact t_ (RR:=fun acc C=>compPost (model X.prog X.w) X.A X.xe none (EP X pins σ Q) acc C) hx hc S hi hg ht he I h fun l C s6 H5 m hm f J q=>⟨m,hm,fun h'' hs''=>⟨.ref l,H5,Inv.forget J f hs'',rfl,q⟩⟩
theorem HV{elt tg iter:Expr}{ifs:List Expr}{wi:TI}{g:TG}{c:TT}{te:TE}{pos pos' spos:Pos}{i:Nat}{x:Str}(hx:X.xe=fun _ _=>False)(hc:X.calm=true)(S:bU X scope Nc fr)(hi:PI X tg iter wi)
 (hg:∀C s H ex,PG (fj X scope Nc C s H ex) tg g) (ht:∀C s H ex,qF (fj X scope Nc C s H ex) ifs c) (he:∀C s H ex,PE (fj X scope Nc C s H ex) elt te) (hN:X.N.Nodup) (hni:X.N[i]?=some x) (hl:Loc X.env.scope x) (hf:X.fn x=true\/X.env.scope.names.lookup x=some .local)
 (hsw:swapsWith (.ListComp elt [⟨tg,iter,ifs,0⟩] scope pos) (some (.Name x pos')) spos.line X.env=pure true)
 (hs:∀x,foldedSetIterable iter X.env x=pure x:=by intro _;rfl):PS X (.Assign [.Name x pos'] (.ListComp elt [⟨tg,iter,ifs,0⟩] scope pos) spos) (pq (uA wi fr g c te) (mi i)):=by
 intro pins s σ H D I h;have hcl:closureFor scope X.env=pure (cQ X.env.cells scope.names []):=lS fun x hx hk=>I.ok.has x.1 (S.free x hx hk);rw[exec_Assign_Name_used _ _ _ _ hsw];refine wpAny_bind (wpAny_standAt (wpAny_bind ?_));show wpAny _ X.A (do let _ <-comprehension (.ListComp elt [⟨tg,iter,ifs,0⟩] scope pos) scope X.env _ (newList []) false (eval iter X.env) (some (assign (.Name x pos') X.env))) _ _ s
 refine wpAny_bind (wpAny_mono (wpAny_comprehension_free (use:=some (assign (.Name x pos') X.env)) (Q:=fun _ s'=>SP X pins D .next s') rfl hs hcl S.kind S.names
  (t_ (RR:=fun acc C=>compPost (model X.prog X.w) X.A X.xe (some (assign (.Name x pos') X.env)) (fun _ s'=>SP X pins D .next s') acc C) hx hc S hi hg ht he I h fun l C s6 H5 m hm f J q=>?_)) (fun _ s' hq=>wpAny_pure (wpAny_pure hq)) fun _ _ e=>e)
 show wpAny _ X.A (assign (.Name x pos') X.env (.ref l)) _ _ _;refine wpAny_assign_Name (vG J hN hni hl (show RelV (.ref l) (.ref l)from rfl) (fun s7 J7 hch=>?_) hf);obtain⟨a,hsame,ha⟩:=hch
 have hCa:C≠a:=by
  rcases ha with rfl|ha
  . exact f.2.1
  . exact fun z=>f.2.2.2.2.1 x a ha z.symm
 refine⟨m,hm.sameBut hsame hCa,fun h'' hs''=>⟨σ.set i (some (.ref l)),H5,Inv.forget J7 f hs'',q⟩⟩
end
inductive D where
 |aE|bl (b:Bool)|int (i:Int)|str (x:Str)|ty (n:String)|ref (n:Nat)|lst (xs:List D)|tup (xs:List D)
inductive Cell where
 |lst (xs:List D)|ins (C:Addr) (fs:List (Str×D))|dead
  |tab (P:Addr) (pos:Pos) (qual:Str) (b:Bool)
abbrev ag:=List Cell
abbrev bG:=List (Option D)
mutual
def Rep(α:List (Option Addr))(H:Hp):D->V->Prop
 | .aE,v=>v= .aE
 | .bl b,v=>v= .bl b
 | .int i,v=>v= .int i
 | .str x,v=>v= .str x
 | .ty n,v=>v= .ty n
 | .ref n,v=>α[n]?=some none\/∃a,α[n]?=some (some a)/\v= .ref a
 | .lst xs,v=>∃a vs,v= .ref a/\some a∉α/\Rd H a (.lst vs)/\aG α H xs vs
 | .tup xs,v=>∃a vs,v= .ref a/\some a∉α/\H a=some (.tup vs)/\aG α H xs vs
def aG(α:List (Option Addr))(H:Hp):List D->List V->Prop
 | [],vs=>vs=[]
 |d::ds,vs=>∃v r,vs=v::r/\Rep α H d v/\aG α H ds r
end
theorem a_{α:List (Option Addr)}{H:Hp}:∀ {ds:List D} {vs:List V},aG α H ds vs↔Paired (Rep α H) ds vs
 | [],vs=>by
   unfold aG;constructor
   . rintro rfl;exact .nil
   . intro h;cases h;rfl
 |d::ds,vs=>by
  unfold aG;constructor
  . rintro⟨v,r,rfl,h1,h2⟩;exact .cons h1 (a_.mp h2)
  . intro h;cases h with|cons h1 h2=>exact⟨_,_,rfl,h1,a_.mpr h2⟩
section
variable {α:List (Option Addr)}{H:Hp}
theorem aG.length{ds:List D}{vs:List V}(h:aG α H ds vs):ds.length=vs.length:=Paired.length (a_.mp h)
theorem uE{A B:Type}{F:A->B->Prop}:∀ {xs:List A} {ys:List B} {i:Nat} {x:A},Paired F xs ys->xs[i]?=some x->∃y,ys[i]?=some y/\F x y
 |_,_,_,_,.nil,e=>by simp at e
 |_,_,0,_,.cons r _,e=>by simp at e;subst e;exact⟨_,rfl,r⟩
 |_,_,i+1,x,.cons _ t,e=>by
  obtain⟨u,h1,h2⟩:=uE (i:=i) (x:=x) t (by simpa using e);exact⟨u,by simpa using h1,h2⟩
theorem fm{A B:Type}{F:A->B->Prop}:∀ {xs xs':List A} {ys ys':List B},Paired F xs ys->Paired F xs' ys'->Paired F (xs++xs') (ys++ys')
 |_,_,_,_,.nil,s=>s
 |_,_,_,_,.cons r t,s=> .cons r (fm t s)
theorem si{A B:Type}{F:A->B->Prop}:∀ {xs:List A} {ys:List B} (n:Nat),Paired F xs ys->Paired F (xs.take n) (ys.take n)
 |_,_,0,_=> .nil
 |_,_,_+1,.nil=> .nil
 |_,_,n+1,.cons r t=> .cons r (si n t)
theorem sF{A B:Type}{F:A->B->Prop}:∀ {xs:List A} {ys:List B} (n:Nat),Paired F xs ys->Paired F (xs.drop n) (ys.drop n)
 |_,_,0,r=>r
 |_,_,_+1,.nil=> .nil
 |_,_,n+1,.cons _ t=>sF n t
theorem tQ{A B:Type}{F:A->B->Prop}{x:A}{y:B}(r:F x y):∀ {xs:List A} {ys:List B} (i:Nat),Paired F xs ys->Paired F (xs.set i x) (ys.set i y)
 |_,_,_,.nil=> .nil
 |_,_,0,.cons _ t=> .cons r t
 |_,_,i+1,.cons q t=> .cons q (tQ r i t)
theorem kZ{A B:Type}{F:A->B->Prop}{xs:List A}{ys:List B}(h:Paired F xs ys):∀k:Nat,Paired F (List.replicate k xs).flatten (List.replicate k ys).flatten
 |0=> .nil
 |k+1=>by
  rw[List.replicate_succ,List.replicate_succ,List.flatten_cons,List.flatten_cons];exact fm h (kZ h k)
theorem aG.get{ds:List D}{vs:List V}{i:Nat}{d:D}(h:aG α H ds vs)(e:ds[i]?=some d):∃v,vs[i]?=some v/\Rep α H d v:=uE (a_.mp h) e
end
structure Step(α:List (Option Addr))(H:Hp)(α':List (Option Addr))(H':Hp):Prop where
 ext:∀b o,some b∉α->H b=some o->H' b=some o
 pre:∀(n:Nat) (x:Option Addr),α[n]?=some x->α'[n]?=some x\/α'[n]?=some none
 new:∀b,some b∈α'->some b∉α->H b=none
theorem Step.refl{α:List (Option Addr)}{H:Hp}:Step α H α H:=⟨fun _ _ _ h=>h,fun _ _ h=> .inl h,fun _ h n=>absurd h n⟩
theorem Step.trans{α α1 α2:List (Option Addr)}{H H1 H2:Hp}(a:Step α H α1 H1)(b:Step α1 H1 α2 H2):Step α H α2 H2 where
 ext:=fun c o hc e=>b.ext c o (fun z=>by rw[a.new c z hc]at e;cases e) (a.ext c o hc e)
 pre:=fun n x e=>by
  rcases a.pre n x e with h|h
  . exact b.pre n x h
  . rcases b.pre n none h with h'|h'
    . exact .inr h'
    . exact .inr h'
 new:=fun c hc n=>by
  by_cases h1:some c∈α1
  . exact a.new c h1 n
  . have:=b.new c hc h1;cases q:H c with
    |none=>rfl
    |some o=>rw[a.ext c o n q]at this;cases this
theorem Step.laid{α:List (Option Addr)}{H:Hp}{p:Addr}{o:HO}(h:H p=none):Step α H α (upd H p o):=
 ⟨fun b u _ e=>by rw[ax (cV e h)];exact e,fun _ _ h=> .inl h,fun _ h n=>absurd h n⟩
theorem Step.cell{α:List (Option Addr)}{H:Hp}{p:Addr}{o:HO}(h:H p=none):Step α H (α++[some p]) (upd H p o):=
 ⟨fun b u _ e=>by rw[ax (cV e h)];exact e,fun n x e=> .inl (by rw[List.getElem?_append_left (List.getElem?_eq_some_iff.mp e).1];exact e),fun b hb n=>by
  rcases List.mem_append.mp hb with z|z
  . exact absurd z n
  . have:b=p:=by simpa using z
    subst this;exact h⟩
theorem Step.write{α:List (Option Addr)}{H:Hp}{p:Addr}{o:HO}(h:some p∈α):Step α H α (upd H p o):=
 ⟨fun b u n e=>by rw[ax (fun z=>by subst z;exact n h)];exact e,fun _ _ h=> .inl h,fun _ h n=>absurd h n⟩
mutual
theorem Rep.step{α α':List (Option Addr)}{H H':Hp}(s:Step α H α' H'):∀ {d:D} {v:V},Rep α H d v->Rep α' H' d v
 | .aE,_,h=>by unfold Rep at h⊢;exact h
 | .bl _,_,h=>by unfold Rep at h⊢;exact h
 | .int _,_,h=>by unfold Rep at h⊢;exact h
 | .str _,_,h=>by unfold Rep at h⊢;exact h
 | .ty _,_,h=>by unfold Rep at h⊢;exact h
 | .ref n,_,h=>by
   unfold Rep at h⊢;rcases h with h|⟨a,e,r⟩
   . rcases s.pre _ _ h with z|z<;>exact .inl z
   . rcases s.pre _ _ e with z|z
     . exact .inr ⟨a,z,r⟩
     . exact .inl z
 | .lst xs,_,h=>by
   unfold Rep at h⊢;obtain⟨a,vs,e,n,r,q⟩:=h;refine⟨a,vs,e,fun z=>?_,?_,aG.step s q⟩
   . have:=s.new a z n;rcases r with r|⟨o,r⟩<;>(rw[this]at r;cases r)
   . rcases r with r|⟨o,r⟩
     . exact .inl (s.ext _ _ n r)
     . exact .inr ⟨o,s.ext _ _ n r⟩
 | .tup xs,_,h=>by
   unfold Rep at h⊢;obtain⟨a,vs,e,n,r,q⟩:=h;exact⟨a,vs,e,(fun z=>by rw[s.new a z n]at r;exact nomatch r),s.ext _ _ n r,aG.step s q⟩
theorem aG.step{α α':List (Option Addr)}{H H':Hp}(s:Step α H α' H'):∀ {ds:List D} {vs:List V},aG α H ds vs->aG α' H' ds vs
 | [],_,h=>by unfold aG at h⊢;exact h
 |d::ds,_,h=>by
  unfold aG at h⊢;obtain⟨v,r,e,h1,h2⟩:=h;exact⟨v,r,e,Rep.step s h1,aG.step s h2⟩
end
structure bQ(G F H:Hp):Prop where
 eq:∀b,H b=(G b).or (F b)
 yj:∀b o,G b=some o->F b=none
section
variable {G F H:Hp}
theorem bQ.get(P:bQ G F H){b:Addr}{o:HO}(h:G b=some o):H b=some o:=by rw[P.eq b,h];rfl
theorem bQ.same(P:bQ G F H):EZ G H:=fun _ _ h=>P.get h
theorem bQ.none(P:bQ G F H){b:Addr}(h:H b=none):G b=none/\F b=none:=by
 have e:=P.eq b;rw[h]at e;cases q:G b with
 |none=>rw[q]at e;exact⟨rfl,e.symm⟩
 |some o=>rw[q]at e;cases e
theorem bQ.frame(P:bQ G F H){b:Addr}{o:HO}(h:F b=some o):H b=some o/\G b=Option.none:=by
 have hn:G b=Option.none:=by
  cases q:G b with
  |none=>rfl
  |some u=>rw[P.yj b u q]at h;cases h
 exact⟨by rw[P.eq b,hn,h];rfl,hn⟩
theorem bQ.laid(P:bQ G F H){p:Addr}{o:HO}(h:H p=Option.none):bQ (upd G p o) F (upd H p o):=by
 obtain⟨h1,h2⟩:=P.none h;refine⟨fun b=>?_,fun b u e=>?_⟩
 . by_cases hb:b=p
   . subst hb;rw[aY,aY];rfl
   . rw[ax hb,ax hb];exact P.eq b
 . by_cases hb:b=p
   . subst hb;exact h2
   . rw[ax hb]at e;exact P.yj b u e
theorem bQ.write(P:bQ G F H){p:Addr}{o o':HO}(h:G p=some o):bQ (upd G p o') F (upd H p o'):=by
 refine⟨fun b=>?_,fun b u e=>?_⟩
 . by_cases hb:b=p
   . subst hb;rw[aY,aY];rfl
   . rw[ax hb,ax hb];exact P.eq b
 . by_cases hb:b=p
   . subst hb;exact P.yj b o h
   . rw[ax hb]at e;exact P.yj b u e
theorem bQ.hide(P:bQ G F H){p:Addr}{o:HO}(h:H p=Option.none):bQ G (upd F p o) (upd H p o):=by
 obtain⟨h1,h2⟩:=P.none h;refine⟨fun b=>?_,fun b u e=>?_⟩
 . by_cases hb:b=p
   . subst hb;rw[aY,aY,h1];rfl
   . rw[ax hb,ax hb];exact P.eq b
 . by_cases hb:b=p
   . subst hb;rw[h1]at e;cases e
   . rw[ax hb];exact P.yj b u e
theorem bQ.Ob(P:bQ G F H){p:Addr}{o o':HO}(h:F p=some o):bQ G (upd F p o') (upd H p o'):=by
 have h1:=(P.frame h).2;refine⟨fun b=>?_,fun b u e=>?_⟩
 . by_cases hb:b=p
   . subst hb;rw[aY,aY,h1];rfl
   . rw[ax hb,ax hb];exact P.eq b
 . by_cases hb:b=p
   . subst hb;rw[h1]at e;cases e
   . rw[ax hb];exact P.yj b u e
theorem bQ.show{p:Addr}{o:HO}(P:bQ G (upd F p o) H)(h:F p=Option.none):bQ (upd G p o) F H:=by
 have h1:=(P.frame (b:=p) aY)
 refine⟨fun b=>?_,fun b u e=>?_⟩
 . by_cases hb:b=p
   . subst hb;rw[aY,h1.1];rfl
   . rw[ax hb,P.eq b,ax hb]
 . by_cases hb:b=p
   . subst hb;exact h
   . rw[ax hb]at e;have:=P.yj b u e;rw[ax hb]at this;exact this
end
mutual
theorem Rep.mono{α:List (Option Addr)}{G H:Hp}(s:EZ G H):∀ {d:D} {v:V},Rep α G d v->Rep α H d v
 | .aE,_,h=>by unfold Rep at h⊢;exact h
 | .bl _,_,h=>by unfold Rep at h⊢;exact h
 | .int _,_,h=>by unfold Rep at h⊢;exact h
 | .str _,_,h=>by unfold Rep at h⊢;exact h
 | .ty _,_,h=>by unfold Rep at h⊢;exact h
 | .ref n,_,h=>by unfold Rep at h⊢;exact h
 | .lst xs,_,h=>by
   unfold Rep at h⊢;obtain⟨a,vs,e,n,r,q⟩:=h;refine⟨a,vs,e,n,?_,aG.mono s q⟩;rcases r with r|⟨o,r⟩
   . exact .inl (s _ _ r)
   . exact .inr ⟨o,s _ _ r⟩
 | .tup xs,_,h=>by
   unfold Rep at h⊢;obtain⟨a,vs,e,n,r,q⟩:=h;exact⟨a,vs,e,n,s _ _ r,aG.mono s q⟩
theorem aG.mono{α:List (Option Addr)}{G H:Hp}(s:EZ G H):∀ {ds:List D} {vs:List V},aG α G ds vs->aG α H ds vs
 | [],_,h=>by unfold aG at h⊢;exact h
 |d::ds,_,h=>by
  unfold aG at h⊢;obtain⟨v,r,e,h1,h2⟩:=h;exact⟨v,r,e,Rep.mono s h1,aG.mono s h2⟩
end
def jf(α:List (Option Addr))(H:Hp):List (Str×D)->List (Str×V)->Prop:=Paired fun p q=>p.1=q.1/\Rep α H p.2 q.2
def jU(α:List (Option Addr))(H:Hp)(a:Addr):Cell->Prop
 | .lst xs=>∃vs,H a=some (.lst vs)/\aG α H xs vs
 | .ins C fs=>∃dx vs,H a=some (.ins C dx vs)/\jf α H fs vs
 | .dead=>False
 | .tab P pos qual b=>a=P/\∃ps:Array Value,H a=some (.jz ps)/\TriplesOk ps.toList/\
    ((b=false/\codeAmong pos ps.toList=none)\/(b=true/\∃c o vs t,codeAmong pos ps.toList=some (.ref c)/\some c∉α/\H c=some (.fP o (.own c))/\o.data= .fields vs/\vs[1]?=some (.str qual t)))
structure aR(α:List (Option Addr))(st:ag)(H:Hp):Prop where
 len:α.length=st.length
 nd:∀(i j:Nat) (a:Addr),α[i]?=some (some a)->α[j]?=some (some a)->i=j
 at':∀(n:Nat) (c:Cell),st[n]?=some c->(c= .dead/\α[n]?=some none)\/∃a,α[n]?=some (some a)/\jU α H a c
theorem jf.step{α α':List (Option Addr)}{H H':Hp}(s:Step α H α' H'){ds:List (Str×D)}{vs:List (Str×V)}(h:jf α H ds vs):jf α' H' ds vs:=Paired.Et h fun _ _ z=>⟨z.1,z.2.step s⟩
theorem jU.same{α α':List (Option Addr)}{H H':Hp}{a:Addr}{c:Cell}(s:Step α H α' H')(e:H' a=H a)(h:jU α H a c):jU α' H' a c:=by
 cases c with
 |lst xs=>obtain⟨vs,h1,h2⟩:=h;exact⟨vs,e.trans h1,h2.step s⟩
 |ins C fs=>obtain⟨dx,vs,h1,h2⟩:=h;exact⟨dx,vs,e.trans h1,h2.step s⟩
 |dead=>exact h.elim
 |tab P pos qual b=>
  obtain⟨z,ps,h1,h2,h3⟩:=h;refine⟨z,ps,e.trans h1,h2,?_⟩;rcases h3 with h3|⟨hb,c,o,vs,t,q1,q2,q3,q4⟩
  . exact .inl h3
  . exact .inr ⟨hb,c,o,vs,t,q1,(fun y=>by rw[s.new c y q2]at q3;cases q3),s.ext c _ q2 q3,q4⟩
theorem jU.some{α:List (Option Addr)}{H:Hp}{a:Addr}{c:Cell}(h:jU α H a c):∃o,H a=some o:=by
 cases c with
 |lst xs=>obtain⟨vs,h1,h2⟩:=h;exact⟨_,h1⟩
 |ins C fs=>obtain⟨dx,vs,h1,h2⟩:=h;exact⟨_,h1⟩
 |dead=>exact h.elim
 |tab P pos qual b=>obtain⟨_,ps,h1,_⟩:=h;exact⟨_,h1⟩
theorem dD{α:List (Option Addr)}{H:Hp}{n:Nat}{v:V}{a:Addr}(e:α[n]?=Option.some (Option.some a))(r:Rep α H (.ref n) v):v= .ref a:=by
 unfold Rep at r;rcases r with r|⟨b,eb,rfl⟩
 . rw[e]at r;cases r
 . rw[e]at eb;cases eb;rfl
section
variable {α:List (Option Addr)}{st:ag}{H:Hp}
theorem aR.i3(S:aR α st H){n:Nat}{xs:List D}(e:st[n]?=Option.some (.lst xs)):∃a,α[n]?=Option.some (Option.some a)/\∃vs,H a=Option.some (.lst vs)/\aG α H xs vs:=by
 rcases S.at' n _ e with⟨z,_⟩|z
 . cases z
 . exact z
theorem aR.wO(S:aR α st H){n:Nat}{C:Addr}{fs:List (Str×D)}(e:st[n]?=Option.some (.ins C fs)):∃a,α[n]?=Option.some (Option.some a)/\∃dx vs,H a=Option.some (.ins C dx vs)/\jf α H fs vs:=by
 rcases S.at' n _ e with⟨z,_⟩|z
 . cases z
 . exact z
theorem aR.mem(S:aR α st H){a:Addr}(h:Option.some a∈α):∃(n:Nat) (c:Cell),α[n]?=Option.some (Option.some a)/\st[n]?=Option.some c/\jU α H a c:=by
 obtain⟨n,hn,e⟩:=List.mem_iff_getElem.mp h;have hl:n<st.length:=by rw[<-S.len];exact hn
 have e':α[n]?=Option.some (Option.some a):=by rw[List.getElem?_eq_getElem hn,e]
 rcases S.at' n st[n] (by simp[hl])with⟨_,q⟩|⟨a',q,ca⟩
 . rw[e']at q;cases q
 . rw[e']at q;cases q;exact⟨n,_,e',by simp[hl],ca⟩
theorem aR.j4(S:aR α st H){p:Addr}(h:H p=none):Option.some p∉α:=fun z=>by
 obtain⟨n,c,_,_,ca⟩:=S.mem z;obtain⟨o,e⟩:=ca.some;rw[h]at e;cases e
theorem aR.laid(S:aR α st H){p:Addr}{o:HO}(h:H p=none):aR α st (upd H p o):=
 ⟨S.len,S.nd,fun n c e=>by
  rcases S.at' n c e with z|⟨a,q,ca⟩
  . exact .inl z
  . exact .inr ⟨a,q,ca.same (Step.laid h) (ax (by obtain⟨u,z⟩:=ca.some;exact cV z h))⟩⟩
theorem aR.cell(S:aR α st H){p:Addr}{o:HO}{c:Cell}(h:H p=none)(hc:jU (α++[Option.some p]) (upd H p o) p c):aR (α++[Option.some p]) (st++[c]) (upd H p o) where
 len:=by rw[List.length_append,List.length_append,S.len];rfl
 nd:=fun i j a ei ej=>by
  have key:∀(i:Nat) (a:Addr),(α++[Option.some p])[i]?=Option.some (Option.some a)->(i<α.length/\α[i]?=Option.some (Option.some a))\/(i=α.length/\a=p):=by
   intro i a e;by_cases hi:i<α.length
   . rw[List.getElem?_append_left hi]at e;exact .inl ⟨hi,e⟩
   . rw[List.getElem?_append_right (Nat.le_of_not_lt hi)]at e
     have h0:i-α.length=0:=by
      cases q:i-α.length with
      |zero=>rfl
      |succ k=>rw[q]at e;simp at e
     rw[h0]at e;have:p=a:=by simpa using e
     exact .inr ⟨by omega,this.symm⟩
  rcases key i a ei with⟨h1,e1⟩|⟨h1,e1⟩<;>rcases key j a ej with⟨h2,e2⟩|⟨h2,e2⟩
  . exact S.nd i j a e1 e2
  . subst e2;exact absurd (List.mem_of_getElem? e1) (S.j4 h)
  . subst e1;exact absurd (List.mem_of_getElem? e2) (S.j4 h)
  . omega
 at':=fun n d e=>by
  by_cases hn:n<st.length
  . rw[List.getElem?_append_left hn]at e;have hl:n<α.length:=by rw[S.len];exact hn
    rcases S.at' n d e with⟨z,q⟩|⟨a,q,ca⟩
    . exact .inl ⟨z,by rw[List.getElem?_append_left hl];exact q⟩
    . exact .inr ⟨a,by rw[List.getElem?_append_left hl];exact q,ca.same (Step.cell h) (ax (by obtain⟨u,z⟩:=ca.some;exact cV z h))⟩
  . rw[List.getElem?_append_right (Nat.le_of_not_lt hn)]at e
    have h0:n-st.length=0:=by
     cases q:n-st.length with
     |zero=>rfl
     |succ k=>rw[q]at e;simp at e
    rw[h0]at e;have hd:c=d:=by simpa using e
    subst hd;refine .inr ⟨p,?_,hc⟩;rw[List.getElem?_append_right (by rw[S.len];exact Nat.le_of_not_lt hn),S.len,h0];rfl
theorem aR.write(S:aR α st H){p:Addr}{o:HO}{c:Cell}{n:Nat}(e:α[n]?=Option.some (Option.some p))(hc:jU α (upd H p o) p c):aR α (st.set n c) (upd H p o) where
 len:=by rw[List.length_set];exact S.len
 nd:=S.nd
 at':=fun m d q=>by
  have hp:Option.some p∈α:=List.mem_of_getElem? e;by_cases hm:m=n
  . subst hm
    have hl:m<st.length:=by
     have:=(List.getElem?_eq_some_iff.mp q).1;rw[List.length_set]at this;exact this
    rw[List.getElem?_set_self hl]at q;cases q;exact .inr ⟨p,e,hc⟩
  . rw[List.getElem?_set_ne (Ne.symm hm)]at q;rcases S.at' m d q with z|⟨a,r,ca⟩
    . exact .inl z
    . refine .inr ⟨a,r,ca.same (Step.write hp) (ax fun z=>?_)⟩;subst z;exact hm (S.nd m n _ r e)
end
abbrev DK:=D->ag->Prop
abbrev DE:=bG->ag->DK->Prop
abbrev DT:=bG->ag->(Bool->ag->Prop)->Prop
abbrev DA:=bG->ag->(List D->ag->Prop)->Prop
structure mx where
 nx:bG->ag->Prop
 rt:DK
 bk:bG->ag->Prop:=fun _ _=>False
 ct:bG->ag->Prop:=fun _ _=>False
abbrev DS:=mx->bG->ag->Prop
structure dG(α:List (Option Addr))(H:Hp)(σd:bG)(σ:L2.St):Prop where
 len:σd.length=σ.length
 at':∀(i:Nat) (d:D),σd[i]?=some (some d)->∃v,σ[i]?=some (some v)/\Rep α H d v
theorem dG.step{α α':List (Option Addr)}{H H':Hp}{σd:bG}{σ:L2.St}(s:Step α H α' H')(h:dG α H σd σ):dG α' H' σd σ:=
 ⟨h.len,fun i d e=>let⟨v,q,r⟩:=h.at' i d e;⟨v,q,r.step s⟩⟩
theorem dG.set{α:List (Option Addr)}{H:Hp}{σd:bG}{σ:L2.St}(h:dG α H σd σ)(i:Nat){d:D}{v:V}(r:Rep α H d v):dG α H (σd.set i (some d)) (σ.set i (some v)):=by
 refine⟨by rw[List.length_set,List.length_set,h.len],fun j e q=>?_⟩;have hl:=h.len;by_cases hj:j=i
 . subst hj
   have hlt:j<σd.length:=by
    have:=(List.getElem?_eq_some_iff.mp q).1;rw[List.length_set]at this;exact this
   rw[List.getElem?_set_self hlt]at q;cases q;exact⟨v,List.getElem?_set_self (by omega),r⟩
 . rw[List.getElem?_set_ne (Ne.symm hj)]at q;rw[List.getElem?_set_ne (Ne.symm hj)];exact h.at' j e q
def LK(α:List (Option Addr))(G F:Hp)(K:DK)(Q:VK):Prop:=∀d st',K d st'->∀α' G' H' v,Step α G α' G'->bQ G' F H'->aR α' st' G'->Rep α' G' d v->Q v H'
def FQ(α:List (Option Addr))(G F:Hp)(K:Bool->ag->Prop)(Q:Bool->Hp->Prop):Prop:=∀b st',K b st'->∀α' G' H',Step α G α' G'->bQ G' F H'->aR α' st' G'->Q b H'
def N_(α:List (Option Addr))(G F:Hp)(K:List D->ag->Prop)(Q:List V->Hp->Prop):Prop:=∀ds st',K ds st'->∀α' G' H' vs,Step α G α' G'->bQ G' F H'->aR α' st' G'->aG α' G' ds vs->Q vs H'
inductive MH(t:DE)(σ:L2.St)(H:Hp)(Q:VK):Prop
 |mk (α:List (Option Addr)) (σd:bG) (st:ag) (K:DK) (G F:Hp) (P:bQ G F H) (R:dG α G σd σ) (S:aR α st G) (h:t σd st K) (k:LK α G F K Q):MH t σ H Q
def LE(t:DE):TE:=MH t
inductive MI(t:DT)(σ:L2.St)(H:Hp)(Q:Bool->Hp->Prop):Prop
 |mk (α:List (Option Addr)) (σd:bG) (st:ag) (K:Bool->ag->Prop) (G F:Hp) (P:bQ G F H) (R:dG α G σd σ) (S:aR α st G) (h:t σd st K) (k:FQ α G F K Q):MI t σ H Q
def LT(t:DT):TT:=MI t
inductive MM(t:DA)(σ:L2.St)(H:Hp)(Q:List V->Hp->Prop):Prop
 |mk (α:List (Option Addr)) (σd:bG) (st:ag) (K:List D->ag->Prop) (G F:Hp) (P:bQ G F H) (R:dG α G σd σ) (S:aR α st G) (h:t σd st K) (k:N_ α G F K Q):MM t σ H Q
def LA(t:DA):TA:=MM t
theorem LK.here{α:List (Option Addr)}{G F H:Hp}{K:DK}{Q:VK}(h:LK α G F K Q)(P:bQ G F H){d:D}{st:ag}{v:V}(k:K d st)(S:aR α st G)(r:Rep α G d v):Q v H:=h d st k α G H v Step.refl P S r
theorem LK.at{α α1:List (Option Addr)}{G F G1:Hp}{K:DK}{Q:VK}(h:LK α G F K Q)(s:Step α G α1 G1):LK α1 G1 F K Q:=fun d st' k α' G' H' v s' P S r=>h d st' k α' G' H' v (s.trans s') P S r
theorem FQ.at{α α1:List (Option Addr)}{G F G1:Hp}{K:Bool->ag->Prop}{Q:Bool->Hp->Prop}(h:FQ α G F K Q)(s:Step α G α1 G1):FQ α1 G1 F K Q:=fun d st' k α' G' H' s' P S=>h d st' k α' G' H' (s.trans s') P S
section
variable {X:Cx}{a b c e:Expr}{es:List Expr}{ta tb tc te:DE}{pos:Pos}
theorem PE.imp{t t':TE}(h:PE X e t)(f:∀σ H Q,t' σ H Q->t σ H Q):PE X e t':=fun pins s σ H Q I q=>h pins s σ H Q I (f σ H Q q)
theorem PT.imp{t t':TT}(h:PT X e t)(f:∀σ H Q,t' σ H Q->t σ H Q):PT X e t':=fun pins s σ H Q I q=>h pins s σ H Q I (f σ H Q q)
theorem PW.imp{t t':TT}(h:PW X e t)(f:∀σ H Q,t' σ H Q->t σ H Q):PW X e t':=fun w pins s σ H Q I q=>h w pins s σ H Q I (f σ H Q q)
theorem PA.imp{t t':TA}(h:PA X es t)(f:∀σ H Q,t' σ H Q->t σ H Q):PA X es t':=fun p pins s σ H Q I q=>h p pins s σ H Q I (f σ H Q q)
def ae(i:Nat):DE:=fun σ st K=>match σ[i]? with|some (some d)=>K d st|_=>False
def dC(d:D):DE:=fun _ st K=>K d st
theorem LY{i:Nat}{x:Str}(h:PE X (.Name x pos) (Kb i)):PE X (.Name x pos) (LE (ae i)):=PE.imp h fun σ H Q ⟨α,σd,st,K,G,F,P,R,S,t,k⟩=>by
 unfold ae at t;split at t
 . rename_i d q;obtain⟨v,e,r⟩:=R.at' i d q;exact⟨v,e,k.here P t S r⟩
 . exact t.elim
theorem oE{v:V}{d:D}(h:PE X e (tC v))(r:∀α H,Rep α H d v):PE X e (LE (dC d)):=PE.imp h fun σ H Q ⟨α,σd,st,K,G,F,P,R,S,t,k⟩=>k.here P t S (r α G)
theorem Mm{i:Int}{j:Nat}:PE X (.Constant (.int i) j pos) (LE (dC (.int i))):=oE JD fun _ _=>by unfold Rep;rfl
theorem Na{i:Bool}{j:Nat}:PE X (.Constant (.bool i) j pos) (LE (dC (.bl i))):=oE Lu fun _ _=>by unfold Rep;rfl
theorem Ly{i:Str}{j:Nat}:PE X (.Constant (.str i) j pos) (LE (dC (.str i))):=oE IG fun _ _=>by unfold Rep;rfl
theorem Lm{j:Nat}:PE X (.Constant .none j pos) (LE (dC .aE)):=oE IB fun _ _=>by unfold Rep;rfl
abbrev cZ:=D->D->ag->DK->Prop
abbrev xO:=D->ag->DK->Prop
abbrev fT:=List D->ag->DK->Prop
inductive MN(r:cZ)(x y:V)(H:Hp)(Q:VK):Prop
 |mk (α:List (Option Addr)) (d e:D) (st:ag) (K:DK) (G F:Hp) (P:bQ G F H) (rx:Rep α G d x) (ry:Rep α G e y) (S:aR α st G) (h:r d e st K) (k:LK α G F K Q):MN r x y H Q
def LR(r:cZ):R2:=MN r
inductive Iw(r:xO)(x:V)(H:Hp)(Q:VK):Prop
 |mk (α:List (Option Addr)) (d:D) (st:ag) (K:DK) (G F:Hp) (P:bQ G F H) (rx:Rep α G d x) (S:aR α st G) (h:r d st K) (k:LK α G F K Q):Iw r x H Q
def FN(r:xO):V->Hp->VK->Prop:=Iw r
inductive IA(r:fT)(xs:List V)(H:Hp)(Q:VK):Prop
 |mk (α:List (Option Addr)) (ds:List D) (st:ag) (K:DK) (G F:Hp) (P:bQ G F H) (rx:aG α G ds xs) (S:aR α st G) (h:r ds st K) (k:LK α G F K Q):IA r xs H Q
def ip(r:fT):List V->Hp->VK->Prop:=IA r
def aw(r:cZ)(ta tb:DE):DE:=fun σ st K=>ta σ st fun x st1=>tb σ st1 fun y st2=>r x y st2 K
def nC(r:xO)(ta:DE):DE:=fun σ st K=>ta σ st fun x st1=>r x st1 K
theorem LE.op{r:cZ}{σ:L2.St}{H:Hp}{Q:VK}(h:LE (aw r ta tb) σ H Q):Cu (LR r) (LE ta) (LE tb) σ H Q:=by
 obtain⟨α,σd,st,K,G,F,P,R,S,t,k⟩:=h;refine⟨α,σd,st,_,G,F,P,R,S,t,fun d st1 q α1 G1 H1 v s1 P1 S1 r1=>?_⟩;refine⟨α1,σd,st1,_,G1,F,P1,R.step s1,S1,q,fun d2 st2 q2 α2 G2 H2 v2 s2 P2 S2 r2=>?_⟩;exact⟨α2,d,d2,st2,K,G2,F,P2,r1.step s2,r2,S2,q2,(k.at s1).at s2⟩
theorem LE.un{r:xO}{σ:L2.St}{H:Hp}{Q:VK}(h:LE (nC r ta) σ H Q):Ms (FN r) (LE ta) σ H Q:=by
 obtain⟨α,σd,st,K,G,F,P,R,S,t,k⟩:=h;refine⟨α,σd,st,_,G,F,P,R,S,t,fun d st1 q α1 G1 H1 v s1 P1 S1 r1=>?_⟩;exact⟨α1,d,st1,K,G1,F,P1,r1,S1,q,k.at s1⟩
theorem Nq{op:Operator}{r:cZ}(ho:bS X (binaryOp op) (LR r))(ha:PE X a (LE ta))(hb:PE X b (LE tb)):PE X (.BinOp a op b pos) (LE (aw r ta tb)):=PE.imp (L8 ho ha hb) fun _ _ _ h=>LE.op h
theorem Nl{op:UnaryOp}{r:xO}(ho:zU X (unaryOp op) (FN r))(ha:PE X a (LE ta)):PE X (.UnaryOp op a pos) (LE (nC r ta)):=PE.imp (Ll ho ha) fun _ _ _ h=>LE.un h
theorem Lb{op:CmpOp}{r:cZ}(ho:bS X (compareOp op) (LR r))(ha:PE X a (LE ta))(hb:PE X b (LE tb))(hm:behindInMarks op b=false:=by first|exact bT _|rfl):PE X (.Compare a [op] [b] pos) (LE (aw r ta tb)):=PE.imp (G_ ho ha hb hm) fun _ _ _ h=>LE.op h
def cm(t:DE):DT:=fun σ st K=>t σ st fun d st1=>match d with| .bl b=>K b st1|_=>False
theorem LT.test{σ:L2.St}{H:Hp}{Q:Bool->Hp->Prop}(h:LT (cm te) σ H Q):LE te σ H fun x H'=>∃k,x= .bl k/\Q k H':=by
 obtain⟨α,σd,st,K,G,F,P,R,S,t,k⟩:=h;refine⟨α,σd,st,_,G,F,P,R,S,t,fun d st1 q α1 G1 H1 v s1 P1 S1 r1=>?_⟩;cases d with
 |bl b=>
  unfold Rep at r1;exact⟨b,r1,k b st1 q α1 G1 H1 s1 P1 S1⟩
 |_=>exact q.elim
theorem KC{op:CmpOp}{r:cZ}(ho:bS X (compareOp op) (LR r))(ha:PE X a (LE ta))(hb:PE X b (LE tb))(hm:behindInMarks op b=false:=by first|exact bT _|rfl):PT X (.Compare a [op] [b] pos) (LT (cm (aw r ta tb))):=PT.imp (Gu ho ha hb hm) fun σ H Q h=>by
 have q:=LT.test h;exact LE.op (Q:=fun x H'=>∃k,x= .bl k/\Q k H') q
theorem Kd(he:PE X e (LE te))(hv:∀whole,isTrue e X.env whole=(do let v <-whole;standAt e.pos;holding [v] (truthy v)):=by intro _;rfl):PT X e (LT (cm te)):=PT.imp (Ie he hv) fun σ H Q h=>LT.test h
def wY(t:DT):DT:=fun σ st K=>t σ st fun b st1=>K (!b) st1
def wD(t u:DT):DT:=fun σ st K=>t σ st fun b st1=>if b=true then u σ st1 K else K false st1
def yA(t u:DT):DT:=fun σ st K=>t σ st fun b st1=>if b=true then K true st1 else u σ st1 K
theorem Iu{t:DT}(ha:PT X a (LT t)):PT X (.UnaryOp .Not a pos) (LT (wY t)):=PT.imp (J3 ha) fun σ H Q ⟨α,σd,st,K,G,F,P,R,S,t,k⟩=>
 ⟨α,σd,st,_,G,F,P,R,S,t,fun b st1 q α1 G1 H1 s1 P1 S1=>k _ st1 q α1 G1 H1 s1 P1 S1⟩
theorem LT.and{t u:DT}{σ:L2.St}{H:Hp}{Q:Bool->Hp->Prop}(h:LT (wD t u) σ H Q):JH (LT t) (LT u) σ H Q:=by
 obtain⟨α,σd,st,K,G,F,P,R,S,t,k⟩:=h;refine⟨α,σd,st,_,G,F,P,R,S,t,fun b st1 q α1 G1 H1 s1 P1 S1=>?_⟩;cases b with
 |true=>exact⟨α1,σd,st1,K,G1,F,P1,R.step s1,S1,q,k.at s1⟩
 |false=>exact k _ st1 q α1 G1 H1 s1 P1 S1
theorem LT.or{t u:DT}{σ:L2.St}{H:Hp}{Q:Bool->Hp->Prop}(h:LT (yA t u) σ H Q):MS (LT t) (LT u) σ H Q:=by
 obtain⟨α,σd,st,K,G,F,P,R,S,t,k⟩:=h;refine⟨α,σd,st,_,G,F,P,R,S,t,fun b st1 q α1 G1 H1 s1 P1 S1=>?_⟩;cases b with
 |false=>exact⟨α1,σd,st1,K,G1,F,P1,R.step s1,S1,q,k.at s1⟩
 |true=>exact k _ st1 q α1 G1 H1 s1 P1 S1
theorem HW{t:DT}(ha:PT X a (LT t)):PW X (.BoolOp .And [a] pos) (LT t):=pw_and1 ha
theorem IQ{t:DT}(ha:PT X a (LT t)):PW X (.BoolOp .Or [a] pos) (LT t):=pw_or1 ha
theorem Kj{t u:DT}(ha:PT X a (LT t))(hb:PW X (.BoolOp .And (b::es) pos) (LT u)):PW X (.BoolOp .And (a::b::es) pos) (LT (wD t u)):=PW.imp (pw_and ha hb) fun _ _ _ h=>LT.and h
theorem LF{t u:DT}(ha:PT X a (LT t))(hb:PW X (.BoolOp .Or (b::es) pos) (LT u)):PW X (.BoolOp .Or (a::b::es) pos) (LT (yA t u)):=PW.imp (pw_or ha hb) fun _ _ _ h=>LT.or h
def jV(ta tb:DE):DE:=fun σ st K=>ta σ st fun d st1=>match d with| .bl b=>if b=true then tb σ st1 K else K (.bl false) st1|_=>False
def AN(t:DT):DE:=fun σ st K=>t σ st fun b st1=>K (.bl (!b)) st1
theorem La{op:BoolOp}(ha:PE X a (LE ta)):PE X (.BoolOp op [a] pos) (LE ta):=Ia ha
theorem LQ(ha:PE X a (LE ta))(hb:PE X (.BoolOp .And (b::es) pos) (LE tb)):PE X (.BoolOp .And (a::b::es) pos) (LE (jV ta tb)):=PE.imp (Kf ha hb) fun σ H Q ⟨α,σd,st,K,G,F,P,R,S,t,k⟩=>by
 refine⟨α,σd,st,_,G,F,P,R,S,t,fun d st1 q α1 G1 H1 v s1 P1 S1 r1=>?_⟩;cases d with
 |bl b=>
  unfold Rep at r1;refine⟨b,r1,?_⟩;cases b with
  |true=>exact⟨α1,σd,st1,K,G1,F,P1,R.step s1,S1,q,k.at s1⟩
  |false=>exact k _ st1 q α1 G1 H1 _ s1 P1 S1 (by unfold Rep;rfl)
 |_=>exact q.elim
theorem Lo(ha:PE X a (LE ta)):PE X (.UnaryOp .Not a pos) (LE (AN (cm ta))):=PE.imp (Jg ha) fun σ H Q ⟨α,σd,st,K,G,F,P,R,S,t,k⟩=>by
 refine⟨α,σd,st,_,G,F,P,R,S,t,fun d st1 q α1 G1 H1 v s1 P1 S1 r1=>?_⟩;cases d with
 |bl b=>
  unfold Rep at r1;exact⟨b,r1,k _ st1 q α1 G1 H1 _ s1 P1 S1 (by unfold Rep;rfl)⟩
 |_=>exact q.elim
def Fs(t:DT)(ta tb:DE):DE:=fun σ st K=>t σ st fun b st1=>if b=true then ta σ st1 K else tb σ st1 K
theorem Lh{t:DT}(hc:PT X c (LT t))(ha:PE X a (LE ta))(hb:PE X b (LE tb)):PE X (.IfExp c a b pos) (LE (Fs t ta tb)):=PE.imp (Eo hc ha hb) fun σ H Q ⟨α,σd,st,K,G,F,P,R,S,t,k⟩=>by
 refine⟨α,σd,st,_,G,F,P,R,S,t,fun b st1 q α1 G1 H1 s1 P1 S1=>?_⟩;cases b with
 |true=>exact⟨α1,σd,st1,K,G1,F,P1,R.step s1,S1,q,k.at s1⟩
 |false=>exact⟨α1,σd,st1,K,G1,F,P1,R.step s1,S1,q,k.at s1⟩
def ao:DA:=fun _ st K=>K [] st
def af(ta:DE)(tr:DA):DA:=fun σ st K=>ta σ st fun x st1=>tr σ st1 fun xs st2=>K (x::xs) st2
theorem yR:PA X [] (LA ao):=PA.imp KP fun σ H Q ⟨α,σd,st,K,G,F,P,R,S,t,k⟩=>k [] st t α G H [] Step.refl P S (by unfold aG;rfl)
theorem uW{tr:DA}(ha:PE X e (LE te))(hr:PA X es (LA tr))(hs:starEach (e::es) X.env=(false,eval e X.env)::starEach es X.env:=by rfl):PA X (e::es) (LA (af te tr)):=PA.imp (GP ha hr hs) fun σ H Q ⟨α,σd,st,K,G,F,P,R,S,t,k⟩=>by
 refine⟨α,σd,st,_,G,F,P,R,S,t,fun d st1 q α1 G1 H1 v s1 P1 S1 r1=>?_⟩;refine⟨α1,σd,st1,_,G1,F,P1,R.step s1,S1,q,fun ds st2 q2 α2 G2 H2 vs s2 P2 S2 r2=>?_⟩;exact k _ st2 q2 α2 G2 H2 (v::vs) (s1.trans s2) P2 S2 (by unfold aG;exact⟨v,vs,rfl,r1.step s2,r2⟩)
def kb(t:DA):DE:=fun σ st K=>t σ st fun ds st1=>ds.length<=sizeLine/\K (.tup ds) st1
def uR(t:DA):DE:=fun σ st K=>t σ st fun ds st1=>ds.length<=sizeLine/\K (.lst ds) st1
def yd(t:DA):DE:=fun σ st K=>t σ st fun ds st1=>ds.length<=sizeLine/\K (.ref st1.length) (st1++[.lst ds])
theorem LK.tup{α:List (Option Addr)}{G F H:Hp}{K:DK}{Q:VK}{ds:List D}{vs:List V}{st:ag}{p:Addr}(k:LK α G F K Q)(P:bQ G F H)(q:K (.tup ds) st)(S:aR α st G)(r:aG α G ds vs)(hp:H p=none):Q (.ref p) (upd H p (.tup vs)):=
 have hg:=(P.none hp).1
 k _ st q α _ _ _ (Step.laid hg) (P.laid hp) (S.laid hg) (by unfold Rep;exact⟨p,vs,rfl,S.j4 hg,aY,r.step (Step.laid hg)⟩)
theorem LK.lst{α:List (Option Addr)}{G F H:Hp}{K:DK}{Q:VK}{ds:List D}{vs:List V}{st:ag}{p:Addr}(k:LK α G F K Q)(P:bQ G F H)(q:K (.lst ds) st)(S:aR α st G)(r:aG α G ds vs)(hp:H p=none):Q (.ref p) (upd H p (.lst vs)):=
 have hg:=(P.none hp).1
 k _ st q α _ _ _ (Step.laid hg) (P.laid hp) (S.laid hg) (by unfold Rep;exact⟨p,vs,rfl,S.j4 hg,.of aY,r.step (Step.laid hg)⟩)
theorem LK.new{α:List (Option Addr)}{G F H:Hp}{K:DK}{Q:VK}{ds:List D}{vs:List V}{st:ag}{p:Addr}(k:LK α G F K Q)(P:bQ G F H)(q:K (.ref st.length) (st++[.lst ds]))(S:aR α st G)(r:aG α G ds vs)(hp:H p=none):Q (.ref p) (upd H p (.lst vs)):=
 have hg:=(P.none hp).1
 k _ _ q (α++[some p]) _ _ _ (Step.cell hg) (P.laid hp) (S.cell hg ⟨vs,aY,r.step (Step.cell hg)⟩) (by
  unfold Rep;refine .inr ⟨p,?_,rfl⟩;rw[List.getElem?_append_right (by rw[S.len];exact Nat.le_refl _),S.len,Nat.sub_self];rfl)
theorem LW{n:Nat}{t:DA}(h:PA X es (LA t)):PE X (.Tuple es n pos) (LE (kb t)):=PE.imp (Ki h) fun σ H Q ⟨α,σd,st,K,G,F,P,R,S,t,k⟩=>
 ⟨α,σd,st,_,G,F,P,R,S,t,fun ds st1 q α1 G1 H1 vs s1 P1 S1 r1=>⟨by rw[<-r1.length];exact q.1,fun p hp=>(k.at s1).tup P1 q.2 S1 r1 hp⟩⟩
theorem K4{t:DA}(h:PA X es (LA t)):PE X (.List es pos) (LE (uR t)):=PE.imp (CF h) fun σ H Q ⟨α,σd,st,K,G,F,P,R,S,t,k⟩=>
 ⟨α,σd,st,_,G,F,P,R,S,t,fun ds st1 q α1 G1 H1 vs s1 P1 S1 r1=>⟨by rw[<-r1.length];exact q.1,fun p hp=>(k.at s1).lst P1 q.2 S1 r1 hp⟩⟩
theorem K9{t:DA}(h:PA X es (LA t)):PE X (.List es pos) (LE (yd t)):=PE.imp (CF h) fun σ H Q ⟨α,σd,st,K,G,F,P,R,S,t,k⟩=>
 ⟨α,σd,st,_,G,F,P,R,S,t,fun ds st1 q α1 G1 H1 vs s1 P1 S1 r1=>⟨by rw[<-r1.length];exact q.1,fun p hp=>(k.at s1).new P1 q.2 S1 r1 hp⟩⟩
abbrev b_:=List D->ag->DK->Prop
inductive JX(T:b_)(vs:List V)(H:Hp)(Q:VK):Prop
 |mk (α:List (Option Addr)) (ds:List D) (st:ag) (K:DK) (G F:Hp) (P:bQ G F H) (rx:aG α G ds vs) (S:aR α st G) (h:T ds st K) (k:LK α G F K Q):JX T vs H Q
def cn(S:b_):Sp:=fun vs H Q _=>JX S vs H Q
def aB(S:b_)(t:DA):DE:=fun σ st K=>t σ st fun ds st1=>S ds st1 K
theorem LE.call{S:b_}{t:DA}{σ:L2.St}{H:Hp}{Q:VK}(h:LE (aB S t) σ H Q):F1 (cn S) [] E0 (LA t) σ H Q:=by
 obtain⟨α,σd,st,K,G,F,P,R,S,t,k⟩:=h;refine⟨α,σd,st,_,G,F,P,R,S,t,fun ds st1 q α1 G1 H1 vs s1 P1 S1 r1=>?_⟩;try dsimp only
 rw[List.append_nil];exact⟨α1,ds,st1,K,G1,F,P1,r1,S1,q,k.at s1⟩
theorem KJ{S:b_}{k:Nat}{f:Addr}{fd:FuncData}{ps:List Str}{x:Str}{p:Pos}{t:DA}(F:a9 X.prog X.w X.K X.mg X.base ck k f fd ps (cn S))(hr:cC k X.A)(hg:Gl X x)(hm:X.mg x=some (.ref f))(hk:PySem.W.keepIn X.K (.ref f)=true)(hb:Binds X.K fd ps [])
 (ha:PA X (e::es) (LA t)) (hdb:(x==("__debug__":Str))=false:=by decide) (he:starEach (e::es) X.env=(false,eval e X.env)::starEach es X.env:=by rfl) (hpl:(backTo pos (starEach es X.env)).any (·.1)=false:=by rfl):
 PE X (.Call (.Name x p) (e::es) [] pos) (LE (aB S t)):=PE.imp (HN F hr hg hm hk hb .nil Aj ha hdb he hpl) fun _ _ _ h=>LE.call h
def bZ(r:fT)(t:DA):DE:=fun σ st K=>t σ st fun ds st1=>r ds st1 K
theorem LE.cb{r:fT}{t:DA}{σ:L2.St}{H:Hp}{Q:VK}(h:LE (bZ r t) σ H Q):JF (ip r) (LA t) σ H Q:=by
 obtain⟨α,σd,st,K,G,F,P,R,S,t,k⟩:=h;refine⟨α,σd,st,_,G,F,P,R,S,t,fun ds st1 q α1 G1 H1 vs s1 P1 S1 r1=>?_⟩;exact⟨α1,ds,st1,K,G1,F,P1,r1,S1,q,k.at s1⟩
end
section
variable {X:Cx}
theorem bS.imp{f:Value->Value->Sem Value}{r r':R2}(h:bS X f r)(k:∀x y H Q,r' x y H Q->r x y H Q):bS X f r':=fun pins s σ H x y v u Q I rx ry q=>h pins s σ H x y v u Q I rx ry (k x y H Q q)
theorem cf.imp{f:Value}{r r':List V->Hp->VK->Prop}(h:cf X f r)(k:∀xs H Q,r' xs H Q->r xs H Q):cf X f r':=fun pins s σ H xs us Q I rs q=>h pins s σ H xs us Q I rs (k xs H Q q)
def tZ(C:Int->Int->Prop)(g:Int->Int->D):cZ:=fun x y st K=>match x,y with| .int i,.int j=>C i j/\K (g i j) st|_,_=>False
theorem lJ{f:Value->Value->Sem Value}{C:Int->Int->Prop}{g:Int->Int->D}{g':Int->Int->V}(hg:∀i j α H,Rep α H (g i j) (g' i j))(h:bS X f (rI C g')):bS X f (LR (tZ C g)):=bS.imp h fun x y H Q ⟨α,d,e,st,K,G,F',P,r1,r2,S,q,k⟩=>by
 cases d<;>cases e<;>first
  |exact q.elim
  |(unfold Rep at r1 r2;exact⟨_,_,r1,r2,q.1,k.here P q.2 S (hg _ _ _ _)⟩)
abbrev T2:Int->Int->Prop:=fun _ _=>True
theorem wB{g:Int->Int->V}{f:Value->Value->Sem Value}(h:bS X f (vx g)):bS X f (rI T2 g):=bS.imp h fun x y H Q ⟨i,j,e1,e2,_,q⟩=>⟨i,j,e1,e2,q⟩
abbrev FK:cZ:=tZ T2 fun i j=> .int (i-j)
abbrev CZ:cZ:=tZ (fun _ j=>j≠0/\j.natAbs.log2<9000) fun i j=> .int (i.fdiv j)
abbrev Fu:cZ:=tZ (fun _ j=>j≠0) fun i j=> .int (i.fmod j)
abbrev FA:cZ:=tZ EM fun i j=> .int (i^j.toNat)
abbrev Jq:cZ:=tZ T2 fun i j=> .bl (decide (i<j))
abbrev Kw:cZ:=tZ T2 fun i j=> .bl (decide (j<i))
abbrev Jm:cZ:=tZ T2 fun i j=> .bl (decide (j<=i))
theorem Lv:bS X (binaryOp .Sub) (LR FK):=lJ (fun _ _ _ _=>by unfold Rep;rfl) (wB IF)
theorem Kq:bS X (binaryOp .FloorDiv) (LR CZ):=lJ (fun _ _ _ _=>by unfold Rep;rfl) (Fz fun i j _ _ _ _ _ hc q=>floordiv_int hc.1 q (.inl (PyProof.noPylong_of_log2 hc.2)))
theorem LD:bS X (binaryOp .Mod) (LR Fu):=lJ (fun _ _ _ _=>by unfold Rep;rfl) HD
theorem LB:bS X (binaryOp .Pow) (LR FA):=lJ (fun _ _ _ _=>by unfold Rep;rfl) IW
theorem Ny:bS X (compareOp .Lt) (LR Jq):=lJ (fun _ _ _ _=>by unfold Rep;rfl) (wB Mj)
theorem M6:bS X (compareOp .Gt) (LR Kw):=lJ (fun _ _ _ _=>by unfold Rep;rfl) (wB Ld)
theorem M7:bS X (compareOp .GtE) (LR Jm):=lJ (fun _ _ _ _=>by unfold Rep;rfl) (wB Md)
def FU:xO:=fun x st K=>match x with| .int i=>K (.int (-i)) st|_=>False
theorem Lk:zU X (unaryOp .USub) (FN FU):=fun pins s σ H x v Q I rx ⟨α,d,st,K,G,F',P,r,S,q,k⟩=>by
 cases d<;>first
  |exact q.elim
  |(unfold Rep at r;exact Iq pins s σ H x v Q I rx ⟨_,r,k.here P q S (by unfold Rep;rfl)⟩)
theorem Inv.yw{pins:List (Addr×Obj)}{σ:L2.St}{H:Hp}{s:Shared}{l:Addr}{xs:List V}(I:Inv X pins σ H s)(h:Rd H l (.lst xs)):
 xs.length<=sizeLine/\∃(aq:List Value) (n:Nat),Vals xs aq/\xs.length=aq.length/\s.heap.get? l=some {cls:= .type "list",data:= .seq aq.toArray n}:=by
 obtain⟨z,aq,n,r,e⟩:=h.ok I.aK;exact⟨z,aq,n,r,r.length,e⟩
theorem gv{G F H:Hp}(P:bQ G F H){a:Addr}{u:HO}(h:Rd G a u):Rd H a u:=by
 rcases h with h|⟨o,h⟩
 . exact .inl (P.get h)
 . exact .inr ⟨o,P.get h⟩
theorem F_:bS X (binaryOp .Add) (fun x y H Q=>∃l b xs zs,x= .ref l/\y= .ref b/\Rd H l (.lst xs)/\Rd H b (.lst zs)/\xs.length+zs.length<=sizeLine/\∀p,H p=none->Q (.ref p) (upd H p (.lst (xs++zs)))):=by
 intro pins s σ H x y v u Q I rx ry h;obtain⟨l,b,xs,zs,rfl,rfl,hH,hB,hz,q⟩:=h;cases rx;cases ry;obtain⟨z,aq,n,r,hl,e⟩:=Inv.yw I hH;obtain⟨z2,its2,n2,r2,hl2,e2⟩:=Inv.yw I hB;refine PySem.P.add_list e e2 ?_ (by rw[List.size_toArray,List.size_toArray];omega);have ea:aq.toArray++its2.toArray=(aq++its2).toArray:=by simp
 rw[ea];exact⟨.ref _,_,I.Ea (t':=s.toks) (r.append r2) (by rw[List.length_append];omega),rfl,q _ I.fresh⟩
theorem zR:bS X (binaryOp .Mult) (fun x y H Q=>∃l k xs,x= .ref l/\y= .int k/\Rd H l (.lst xs)/\ -(2^63)<=k/\k<2^63/\xs.length*k.toNat<=sizeLine/\
 ∀p,H p=none->Q (.ref p) (upd H p (.lst (List.replicate k.toNat xs).flatten))):=by
 intro pins s σ H x y v u Q I rx ry h;obtain⟨l,k,xs,rfl,rfl,hH,h1,h2,hz,q⟩:=h;cases rx;obtain⟨t,rfl⟩:=ry;obtain⟨z,aq,n,r,hl,e⟩:=Inv.yw I hH;have hlen:aq.toArray.size*k.toNat<=sizeLine:=by rw[List.size_toArray,<-hl];exact hz
 have hcap:¬aq.toArray.size*k.toNat>(2^63-1)/8:=by
  have:(sizeLine:Nat)<=(2^63-1)/8:=by decide
  omega
 have hfit:¬(!Builtin.List.listFitsIndex k)=true:=by
  rw[fitsIndex_both h1 h2];exact Bool.false_ne_true
 have hlong:¬Builtin.List.listTooLong (aq.toArray.size*k.toNat)=true:=by
  rw[EY hlen];exact Bool.false_ne_true
 have hnew:List.foldl (fun x1 x2=>x1++x2) #[] (List.replicate (if aq.toArray.isEmpty=true then 0 else k.toNat) aq.toArray)=(List.replicate k.toNat aq).flatten.toArray:=by
  have f0:∀m:Nat,List.foldl (fun x1 x2=>x1++x2) #[] (List.replicate m aq.toArray)=(List.replicate m aq).flatten.toArray:=fun m=>by
   have:=foldl_rep aq m [];rw[List.nil_append]at this;exact this
  rw[f0];cases aq with
  |nil=>simp
  |cons a r'=>rw[if_neg (by simp)]
 refine wpAny_binaryOp_repeat_ref (T:="list") (U:="int") (by decide) ⟨_,e,rfl⟩ (fun s'=>typeIs_int s' k t) noFill_list_mul F.fills_int_mul F.slot_int_rmul repeat_list F.slot_int_index.lookup
  (call_meets F.slot_int_rmul (typeIs_int s k t) F.entry_int_rmul (F.args_int_rmul_2 _ _) (int___rmul___int_list k t l aq.toArray n)
    ⟨e,rfl,⟨_,e,rfl⟩,call_meets F.slot_list_mul ⟨_,e,rfl⟩ F.entry_list_mul (F.args_list_mul_2 _ _) (AutoListH.list___mul___list_int_3 l aq.toArray n k t hfit hcap hlong) ⟨e,?_⟩⟩)
 rw[hnew];exact⟨.ref _,_,I.Ea (t':=s.toks) (r.rep k.toNat) (by rw[len_rep,Nat.mul_comm];exact hz),rfl,q _ I.fresh⟩
theorem DN:bS X (binaryOp .Add) (fun x y H Q=>∃a b xs ys,x= .ref a/\y= .ref b/\H a=some (.tup xs)/\H b=some (.tup ys)/\xs.length+ys.length<=sizeLine/\
 (xs=[]->Q (.ref b) H)/\(xs≠ []->ys=[]->Q (.ref a) H)/\(xs≠ []->ys≠ []->∀p,H p=none->Q (.ref p) (upd H p (.tup (xs++ys))))):=by
 intro pins s σ H x y v u Q I rx ry h;obtain⟨a,b,xs,ys,rfl,rfl,ha,hb,hz,q0,q1,q2⟩:=h;by_cases hx:xs=[]
 . cases rx;cases ry;obtain⟨aq,r1,p1,_⟩:=I.tuple (.of ha);obtain⟨its2,r2,p2,_⟩:=I.tuple (.of hb);obtain⟨⟨cls,dd,data,sl⟩,ho,hc,n,hd⟩:=id p1;obtain⟨⟨cls2,dd2,data2,sl2⟩,ho2,hc2,n2,hd2⟩:=id p2;simp only at hc hd hc2 hd2;subst hc hd hc2 hd2;have hi:aq=[]:=(L2.Vals.rN r1).mpr hx
   exact concat_meets ⟨_,ho,rfl⟩ ⟨_,ho2,rfl⟩ noFill_tuple_add seq_tuple_add PySem.F.slot_tuple_add PySem.F.entry_tuple_add (PySem.F.args_tuple_add_2 _ _)
    (tuple_addW0 a b aq.toArray its2.toArray n n2 dd dd2 sl sl2 (by simp[hi])) ⟨ho,ho2,⟨.ref b,H,I,rfl,q0 hx⟩⟩
 . exact GL pins s σ H _ _ v u Q I rx ry ⟨a,b,xs,ys,rfl,rfl,.of ha,.of hb,hx,hz,q1 hx,q2 hx⟩
theorem ve:fillsNumberSlot (.type "tuple") "mul"=pure false:=
 PySem.fillsNumberSlot_seq (id:="tuple.__mul__") (r:=some (.builtin "tuple.__rmul__")) F.slot_tuple_mul.lookup (by decide+kernel) F.slot_tuple_rmul.lookup (by decide+kernel)
theorem AH:seqRepeat? (.type "tuple")=pure (some (.builtin "tuple.__mul__")):=by
 unfold seqRepeat?;rw[PySem.seqSlot_of (T:="tuple") (name:="__mul__") (id:="tuple.__mul__") F.slot_tuple_mul.lookup (by decide+kernel),PySem.seqSlot_of (T:="tuple") (name:="__rmul__") (id:="tuple.__rmul__") F.slot_tuple_rmul.lookup (by decide+kernel)];rfl
theorem xH(a:Int)(t:Tok)(l:Addr)(aq:Array Value)(n:Nat)(dd:Option Addr)(sl:Array (Option Value)):Meets (Builtin.«int.__rmul__» ⟨[.int a t,.ref l],[]⟩) (fun _ R s=>s.heap.get? l=some {cls:= .type "tuple",dict:=dd,data:= .seq aq n,slots:=sl}/\R (.ok (.ret Value.notImplemented)) s):=
 .of_wp fun P w A R s h=>by
  obtain⟨hp,g,d,tk,os⟩:=s;obtain⟨hl,h⟩:=h
  wp_walk
  exact⟨_,rfl,h⟩
theorem xU(l:Addr)(aq:Array Value)(n:Nat)(dd:Option Addr)(sl:Array (Option Value))(x:Int)(u:Tok)(h0:(decide (x< -(2^63))||decide (x>=2^63))=false)(h1:(aq.isEmpty||x==1)=true):
 Meets (Builtin.«tuple.__mul__» ⟨[.ref l,.int x u],[]⟩) (fun _ R s=>s.heap.get? l=some {cls:= .type "tuple",dict:=dd,data:= .seq aq n,slots:=sl}/\R (.ok (.ret (.ref l))) s):=
 .of_wp fun P w A R s h=>by
  obtain⟨hp,g,d,tk,os⟩:=s;obtain⟨hl,h⟩:=h
  wp_walk
  refine wpAny_ite_false (by rw[h0];rfl) ?_
  wp_walk
  exact⟨_,rfl,h⟩
theorem xZ(l:Addr)(aq:Array Value)(n:Nat)(dd:Option Addr)(sl:Array (Option Value))(x:Int)(u:Tok)(h0:(decide (x< -(2^63))||decide (x>=2^63))=false)(h1:(aq.isEmpty||x==1)=false)(h2:(decide (x<=0)||aq.isEmpty)=true):
 Meets (Builtin.«tuple.__mul__» ⟨[.ref l,.int x u],[]⟩) (fun _ R s=>s.heap.get? l=some {cls:= .type "tuple",dict:=dd,data:= .seq aq n,slots:=sl}/\R (.ok (.ret (.ref s.heap.objs.size))) {s with heap:=s.heap.push {cls:= .type "tuple",data:= .seq #[]}}):=
 .of_wp fun P w A R s h=>by
  obtain⟨hp,g,d,tk,os⟩:=s;obtain⟨hl,h⟩:=h
  wp_walk
  refine wpAny_ite_false (by rw[h0];rfl) ?_
  wp_walk
  exact⟨_,rfl,h⟩
theorem yf(l:Addr)(aq:Array Value)(n:Nat)(dd:Option Addr)(sl:Array (Option Value))(x:Int)(u:Tok)(h0:(decide (x< -(2^63))||decide (x>=2^63))=false)(h1:(aq.isEmpty||x==1)=false)(h2:(decide (x<=0)||aq.isEmpty)=false)(h3:¬((aq.size:Int)*x>(2^63-1)/8))(h4:Builtin.Tuple.tupleTooMany (aq.size*x)=false)
 (hz:(List.foldl (fun x1 x2=>x1++x2) #[] (List.replicate x.toNat aq)).size<=sizeLine):
 Meets (Builtin.«tuple.__mul__» ⟨[.ref l,.int x u],[]⟩) (fun _ R s=>s.heap.get? l=some {cls:= .type "tuple",dict:=dd,data:= .seq aq n,slots:=sl}/\R (.ok (.ret (.ref s.heap.objs.size))) {s with heap:=s.heap.push {cls:= .type "tuple",data:= .seq (List.foldl (fun x1 x2=>x1++x2) #[] (List.replicate x.toNat aq))}}):=
 .of_wp fun P w A R s h=>by
  obtain⟨hp,g,d,tk,os⟩:=s;obtain⟨hl,h⟩:=h
  wp_walk
  refine wpAny_ite_false (by rw[h0];rfl) ?_
  wp_walk
  refine wpAny_ite_false (decide_eq_false h3) ?_
  wp_walk
  exact⟨_,rfl,h⟩
theorem Hn:bS X (binaryOp .Mult) (fun x y H Q=>∃l k xs,x= .ref l/\y= .int k/\H l=some (.tup xs)/\ -(2^63)<=k/\k<2^63/\xs.length*k.toNat<=sizeLine/\
 ((xs=[]\/k=1)->Q (.ref l) H)/\(¬(xs=[]\/k=1)->∀p,H p=none->Q (.ref p) (upd H p (.tup (List.replicate k.toNat xs).flatten)))):=by
 intro pins s σ H x y v u Q I rx ry h;obtain⟨l,k,xs,rfl,rfl,hH,h1,h2,hz,q1,q2⟩:=h;cases rx;obtain⟨t,rfl⟩:=ry;obtain⟨aq,r,p1,_⟩:=I.tuple (.of hH);obtain⟨⟨cls,dd,data,sl⟩,ho,hc,n,hd⟩:=id p1;simp only at hc hd;subst hc hd;have hl:xs.length=aq.length:=r.length
 have f0:(decide (k< -(2^63))||decide (k>=2^63))=false:=by
  rw[decide_eq_false (by omega),decide_eq_false (by omega)];rfl
 refine wpAny_binaryOp_repeat_ref (T:="tuple") (U:="int") (by decide) ⟨_,ho,rfl⟩ (fun s'=>typeIs_int s' k t) ve F.fills_int_mul F.slot_int_rmul AH F.slot_int_index.lookup
  (call_meets F.slot_int_rmul (typeIs_int s k t) F.entry_int_rmul (F.args_int_rmul_2 _ _) (xH k t l aq.toArray n dd sl) ⟨ho,rfl,⟨_,ho,rfl⟩,?_⟩)
 by_cases hs:xs=[]\/k=1
 . have f1:(aq.toArray.isEmpty||k==1)=true:=by
    rcases hs with z|z
    . have:aq=[]:=List.length_eq_zero_iff.mp (by rw[<-hl,z];rfl);rw[this];rfl
    . rw[z];simp
   exact call_meets F.slot_tuple_mul ⟨_,ho,rfl⟩ F.entry_tuple_mul (F.args_tuple_mul_2 _ _) (xU l aq.toArray n dd sl k t f0 f1) ⟨ho,⟨.ref l,H,I,rfl,q1 hs⟩⟩
 . have hne:aq≠ []:=fun z=>hs (.inl (List.length_eq_zero_iff.mp (by rw[hl,z];rfl)));have hk1:k≠1:=fun z=>hs (.inr z);have e1:aq.toArray.isEmpty=false:=by simpa using hne
   have f1:(aq.toArray.isEmpty||k==1)=false:=by rw[e1];simpa using hk1
   have new:∀(us:List Value) (ys:List V),Vals ys us->ys.length<=sizeLine->Inv X pins σ (upd H s.heap.objs.size (.tup ys)) {s with heap:=s.heap.push {cls:= .type "tuple",data:= .seq us.toArray}}:=fun us ys hv hy=>
    I.laid (t':=s.toks) (fun _ _ q=>Heap.get?_push_of_some _ q) (Nat.le_refl _) ⟨hy,us,hv,⟨_,Heap.get?_push_size _ rfl,rfl,_,rfl⟩⟩
   by_cases h0:k<=0
   . have f2:(decide (k<=0)||aq.toArray.isEmpty)=true:=by rw[decide_eq_true h0];rfl
     refine call_meets F.slot_tuple_mul ⟨_,ho,rfl⟩ F.entry_tuple_mul (F.args_tuple_mul_2 _ _) (xZ l aq.toArray n dd sl k t f0 f1 f2) ⟨ho,?_⟩;have ez:k.toNat=0:=by omega
     rw[ez]at q2;exact⟨.ref _,_,new [] [] .nil (Nat.zero_le _),rfl,q2 hs _ I.fresh⟩
   . have f2:(decide (k<=0)||aq.toArray.isEmpty)=false:=by rw[decide_eq_false h0,e1];rfl
     have hk:(k.toNat:Int)=k:=by omega
     have hlen:aq.toArray.size*k.toNat<=sizeLine:=by rw[List.size_toArray,<-hl];exact hz
     have hsz:((aq.toArray.size:Nat):Int)*k<=(sizeLine:Int):=by
      rw[<-hk]
      exact_mod_cast hlen
     have f3:¬(((aq.toArray.size:Nat):Int)*k>(2^63-1)/8):=by
      have:((sizeLine:Nat):Int)<=(2^63-1)/8:=by decide
      omega
     have f4:Builtin.Tuple.tupleTooMany (((aq.toArray.size:Nat):Int)*k)=false:=by
      unfold Builtin.Tuple.tupleTooMany;exact decide_eq_false (by omega)
     have hnew:List.foldl (fun x1 x2=>x1++x2) #[] (List.replicate k.toNat aq.toArray)=(List.replicate k.toNat aq).flatten.toArray:=by
      have:=foldl_rep aq k.toNat [];rw[List.nil_append]at this;exact this
     have hfl:(List.replicate k.toNat aq).flatten.length=aq.length*k.toNat:=by rw[len_rep,Nat.mul_comm]
     refine call_meets F.slot_tuple_mul ⟨_,ho,rfl⟩ F.entry_tuple_mul (F.args_tuple_mul_2 _ _) (yf l aq.toArray n dd sl k t f0 f1 f2 f3 f4 (by rw[hnew,List.size_toArray,hfl];exact hlen)) ⟨ho,?_⟩;rw[hnew];exact⟨.ref _,_,new _ _ (r.rep k.toNat) (by rw[len_rep,Nat.mul_comm];exact hz),rfl,q2 hs _ I.fresh⟩
def FF:cZ:=fun x y st K=>match x,y with
 | .int i,.int j=>K (.int (i+j)) st
 | .tup xs,.tup ys=>xs.length+ys.length<=sizeLine/\K (.tup (xs++ys)) st
 | .lst xs,.lst ys=>xs.length+ys.length<=sizeLine/\K (.lst (xs++ys)) st
 | .str x,.str y=>x.length+y.length<=sizeLine/\K (.str (x++y)) st
 |_,_=>False
theorem Ln:bS X (binaryOp .Add) (LR FF):=fun pins s σ H x y v u Q I rx ry ⟨α,d,e,st,K,G,F',P,r1,r2,S,q,k⟩=>by
 cases d<;>cases e<;>try exact q.elim
 . unfold Rep at r1 r2;exact JR pins s σ H x y v u Q I rx ry ⟨_,_,r1,r2,k.here P q S (by unfold Rep;rfl)⟩
 . unfold Rep at r1 r2;exact AG pins s σ H x y v u Q I rx ry ⟨_,_,r1,r2,q.1,k.here P q.2 S (by unfold Rep;rfl)⟩
 . unfold Rep at r1 r2;obtain⟨a,vs,rfl,na,ha,ra⟩:=r1;obtain⟨b,ws,rfl,nb,hb,rb⟩:=r2;refine F_ pins s σ H _ _ v u Q I rx ry ⟨a,b,vs,ws,rfl,rfl,gv P ha,gv P hb,by rw[<-ra.length,<-rb.length];exact q.1,fun p hp=>?_⟩;exact k.lst P q.2 S (a_.mpr (fm (a_.mp ra) (a_.mp rb))) hp
 . rename_i xs ys;unfold Rep at r1 r2;obtain⟨a,vs,rfl,na,ha,ra⟩:=r1;obtain⟨b,ws,rfl,nb,hb,rb⟩:=r2;have hl1:=ra.length;have hl2:=rb.length;refine DN pins s σ H _ _ v u Q I rx ry ⟨a,b,vs,ws,rfl,rfl,P.get ha,P.get hb,by rw[<-hl1,<-hl2];exact q.1,fun z=>?_,fun _ z=>?_,fun _ _ p hp=>?_⟩
   . refine k.here P q.2 S ?_;unfold Rep;have:xs=[]:=by rw[z]at hl1;exact List.length_eq_zero_iff.mp hl1
     subst this;exact⟨b,ws,rfl,nb,hb,rb⟩
   . refine k.here P q.2 S ?_;unfold Rep;have:ys=[]:=by rw[z]at hl2;exact List.length_eq_zero_iff.mp hl2
     subst this;rw[List.append_nil];exact⟨a,vs,rfl,na,ha,ra⟩
   . exact k.tup P q.2 S (a_.mpr (fm (a_.mp ra) (a_.mp rb))) hp
def Fp:cZ:=fun x y st K=>match x,y with
 | .int i,.int j=>IntMulOk i j/\K (.int (i*j)) st
 | .lst xs,.int k=>(-(2^63)<=k/\k<2^63/\xs.length*k.toNat<=sizeLine)/\K (.lst (List.replicate k.toNat xs).flatten) st
 | .tup xs,.int k=>(-(2^63)<=k/\k<2^63/\xs.length*k.toNat<=sizeLine)/\K (.tup (List.replicate k.toNat xs).flatten) st
 |_,_=>False
theorem L_:bS X (binaryOp .Mult) (LR Fp):=fun pins s σ H x y v u Q I rx ry ⟨α,d,e,st,K,G,F',P,r1,r2,S,q,k⟩=>by
 cases d<;>cases e<;>try exact q.elim
 . unfold Rep at r1 r2;have h:bS X (binaryOp .Mult) (rI IntMulOk fun i j=> .int (i*j)):=Fz fun _ _ _ _ _ _ _ hc q=>mul_int q hc;exact h pins s σ H x y v u Q I rx ry ⟨_,_,r1,r2,q.1,k.here P q.2 S (by unfold Rep;rfl)⟩
 . unfold Rep at r1 r2;obtain⟨a,vs,rfl,na,ha,ra⟩:=r1;refine zR pins s σ H _ _ v u Q I rx ry ⟨a,_,vs,rfl,r2,gv P ha,q.1.1,q.1.2.1,by rw[<-ra.length];exact q.1.2.2,fun p hp=>?_⟩;exact k.lst P q.2 S (a_.mpr (kZ (a_.mp ra) _)) hp
 . rename_i xs m;have r1':=r1;unfold Rep at r1 r2;obtain⟨a,vs,rfl,na,ha,ra⟩:=r1;refine Hn pins s σ H _ _ v u Q I rx ry ⟨a,_,vs,rfl,r2,P.get ha,q.1.1,q.1.2.1,by rw[<-ra.length];exact q.1.2.2,fun hs=>?_,fun _ p hp=>k.tup P q.2 S (a_.mpr (kZ (a_.mp ra) _)) hp⟩
   have e:(List.replicate m.toNat xs).flatten=xs:=by
    rcases hs with z|z
    . have:xs=[]:=List.length_eq_zero_iff.mp (by rw[ra.length,z];rfl);rw[this];simp
    . rw[z];simp
   have q2:=q.2;rw[e]at q2;exact k.here P q2 S r1'
def live(st:ag):D->Bool
 | .ref n=>(match st[n]? with|some (.lst _)=>true|some (.ins _ _)=>true|_=>false)
 |_=>true
theorem xY{α:List (Option Addr)}{H:Hp}{st:ag}{n:Nat}{v:V}(S:aR α st H)(h:live st (.ref n)=true)(r:Rep α H (.ref n) v):∃a,v= .ref a:=by
 unfold live at h;simp only at h;split at h
 . rename_i e;obtain⟨a,ea,_⟩:=S.i3 e;exact⟨a,dD ea r⟩
 . rename_i e;obtain⟨a,ea,_⟩:=S.wO e;exact⟨a,dD ea r⟩
 . cases h
def GA:cZ:=fun x y st K=>match y with| .aE=>live st x=true/\K (.bl (match x with| .aE=>false|_=>true)) st|_=>False
theorem Gs:bS X (compareOp .IsNot) (LR GA):=bS.imp HX fun x y H Q ⟨α,d,e,st,K,G,F',P,r1,r2,S,q,k⟩=>by
 cases e<;>try exact q.elim
 unfold Rep at r2;refine⟨r2,k.here P q.2 S ?_⟩;unfold Rep;cases d
 case ref n=>
  obtain⟨a,rfl⟩:=xY S q.1 r1;rfl
 all_goals(unfold Rep at r1;first|(rw[r1];rfl)|(obtain⟨a,vs,rfl,_⟩:=r1;rfl))
def pJ:cZ:=fun x y st K=>match y with
 | .int i=>(match x with
   | .lst xs=>(match dP xs i with|some d=>K d st|none=>False)
   | .tup xs=>(match dP xs i with|some d=>K d st|none=>False)
   | .ref n=>(match st[n]? with|some (.lst xs)=>(match dP xs i with|some d=>K d st|none=>False)|_=>False)
   |_=>False)
 |_=>False
theorem aG.dP{α:List (Option Addr)}{H:Hp}{ds:List D}{vs:List V}{i:Int}{d:D}(h:aG α H ds vs)(e:L2.dP ds i=some d):∃v,L2.dP vs i=some v/\Rep α H d v:=by
 unfold L2.dP at e⊢;rw[<-h.length];cases q:iL ds.length i with
 |none=>rw[q]at e;cases e
 |some j=>rw[q]at e;exact h.get e
theorem Np:FI X (LR pJ):=fun value slice pins s σ H x y v u Q I rx ry ⟨α,d,e,st,K,G,F',P,r1,r2,S,q,k⟩ hs=>by
 cases e<;>try exact q.elim
 unfold Rep at r2;cases d<;>try exact q.elim
 . rename_i i n;unfold pJ at q;simp only at q;split at q
   . split at q
     . rename_i xs e1 _ d' e2;obtain⟨a,ea,vs,hv,rv⟩:=S.i3 e1;have r1':=dD ea r1;subst r1';obtain⟨z,ez,rz⟩:=rv.dP e2;exact zE value slice pins s σ H _ _ v u Q I rx ry ⟨a,vs,_,z,rfl,r2,.of (P.get hv),ez,k.here P q S rz⟩ hs
     . exact q.elim
   . exact q.elim
 . unfold pJ at q;simp only at q;split at q
   . rename_i xs d' e2;unfold Rep at r1;obtain⟨a,vs,rfl,na,ha,ra⟩:=r1;obtain⟨z,ez,rz⟩:=ra.dP e2;exact zE value slice pins s σ H _ _ v u Q I rx ry ⟨a,vs,_,z,rfl,r2,.inl (gv P ha),ez,k.here P q S rz⟩ hs
   . exact q.elim
 . unfold pJ at q;simp only at q;split at q
   . rename_i xs d' e2;unfold Rep at r1;obtain⟨a,vs,rfl,na,ha,ra⟩:=r1;obtain⟨z,ez,rz⟩:=ra.dP e2;exact J5 value slice pins s σ H _ _ v u Q I rx ry ⟨a,vs,_,z,rfl,r2,.of (P.get ha),ez,k.here P q S rz⟩ hs
   . exact q.elim
theorem Nu{a b:Expr}{ta tb:DE}{pos:Pos}(ha:PE X a (LE ta))(hb:PE X b (LE tb))(hs:rO b:=by intro _ _;rfl):PE X (.Subscript a b pos) (LE (aw pJ ta tb)):=PE.imp (Mc Np ha hb hs) fun _ _ _ h=>LE.op h
def items?(st:ag):D->Option (List D)
 | .lst xs=>some xs
 | .tup xs=>some xs
 | .ref n=>(match st[n]? with|some (.lst xs)=>some xs|_=>none)
 |_=>none
@[simp] theorem Mo(st:ag)(xs:List D):items? st (.lst xs)=some xs:=rfl
@[simp] theorem MK(st:ag)(xs:List D):items? st (.tup xs)=some xs:=rfl
@[simp] theorem items_int(st:ag)(i:Int):items? st (.int i)=none:=rfl
@[simp] theorem Nf(st:ag)(i:Bool):items? st (.bl i)=none:=rfl
@[simp] theorem items_str(st:ag)(i:Str):items? st (.str i)=none:=rfl
@[simp] theorem Mv(st:ag):items? st .aE=none:=rfl
theorem aM{st:ag}{n:Nat}{xs:List D}(h:st[n]?=some (.lst xs)):items? st (.ref n)=some xs:=by unfold items?;simp only[h]
theorem nS{α:List (Option Addr)}{H:Hp}{st:ag}{d:D}{v:V}{xs:List D}(S:aR α st H)(r:Rep α H d v)(e:items? st d=some xs):
 ∃p vs,v= .ref p/\aG α H xs vs/\(Rd H p (.lst vs)\/H p=some (.tup vs)):=by
 cases d<;>try(cases e;done)
 . unfold items? at e;simp only at e;split at e
   . rename_i ys q;cases e;obtain⟨a,ea,vs,h1,h2⟩:=S.i3 q;have r':=dD ea r;subst r';exact⟨a,vs,rfl,h2,.inl (.of h1)⟩
   . cases e
 . cases e;unfold Rep at r;obtain⟨a,vs,rfl,_,h1,h2⟩:=r;exact⟨a,vs,rfl,h2,.inl h1⟩
 . cases e;unfold Rep at r;obtain⟨a,vs,rfl,_,h1,h2⟩:=r;exact⟨a,vs,rfl,h2,.inr h1⟩
theorem An{K:PySem.W.Frag}{G F H:Hp}(P:bQ G F H){p:Addr}{vs:List V}(h:Rd G p (.lst vs)\/G p=some (.tup vs)):lI K H p vs\/hJ K H p vs:=h.elim (fun z=> .inl (.inl (gv P z))) fun z=> .inr (.of (P.get z))
theorem ix{α:List (Option Addr)}{H:Hp}{ds:List D}{xs:List V}{d:D}(r:aG α H ds xs)(e:ds=[d]):∃v,xs=[v]/\Rep α H d v:=by
 subst e;unfold aG at r;obtain⟨v,q,rfl,h1,h2⟩:=r;unfold aG at h2;subst h2;exact⟨v,rfl,h1⟩
theorem ph{α:List (Option Addr)}{H:Hp}{ds:List D}{xs:List V}{d e:D}(r:aG α H ds xs)(q:ds=[d,e]):∃v u,xs=[v,u]/\Rep α H d v/\Rep α H e u:=by
 subst q;unfold aG at r;obtain⟨v,q,rfl,h1,h2⟩:=r;obtain⟨u,rfl,h3⟩:=ix h2 rfl;exact⟨v,u,rfl,h1,h3⟩
def wH:fT:=fun ds st K=>match ds with
 | [.str x]=>x.length<=sizeLine/\K (.int x.length) st
 | [d]=>(match items? st d with|some xs=>K (.int xs.length) st|none=>False)
 |_=>False
theorem LH:cf X (.builtin "len") (ip wH):=fun pins s σ H xs us Q I rs ⟨α,ds,st,K,G,F',P,r,S,q,k⟩=>by
 unfold wH at q;split at q
 . rename_i x;obtain⟨v,rfl,r1⟩:=ix r rfl;unfold Rep at r1;subst r1;exact yP pins s σ H _ us Q I rs ⟨x,rfl,q.1,k.here P q.2 S (by unfold Rep;rfl)⟩
 . rename_i d _;split at q
   . rename_i ys e;obtain⟨v,rfl,r1⟩:=ix r rfl;obtain⟨p,vs,rfl,r2,h⟩:=nS S r1 e;refine yc pins s σ H _ us Q I rs ⟨p,vs,rfl,An P h,k.here P q S (by unfold Rep;rw[r2.length])⟩
   . exact q.elim
 . exact q.elim
def Mt(g:Int->Int):fT:=fun ds st K=>match ds with| [.int i]=>K (.int (g i)) st|_=>False
abbrev AD:fT:=Mt fun i=>if i<0 then-i else i
theorem K3:cf X (.builtin "abs") (ip AD):=cf.imp E1 fun xs H Q ⟨α,ds,st,K,G,F',P,r,S,q,k⟩=>by
 unfold AD Mt at q;split at q
 . obtain⟨v,rfl,r1⟩:=ix r rfl;unfold Rep at r1;subst r1;exact⟨_,rfl,k.here P q S (by unfold Rep;rfl)⟩
 . exact q.elim
def Am:fT:=fun ds st K=>match ds with| [.int i]=>K (.int i) st| [.bl b]=>K (.int (if b then 1 else 0)) st|_=>False
theorem Lz:cf X (.type "int") (ip Am):=cf.imp DB fun xs H Q ⟨α,ds,st,K,G,F',P,r,S,q,k⟩=>by
 unfold Am at q;split at q
 . obtain⟨v,rfl,r1⟩:=ix r rfl;unfold Rep at r1;subst r1;exact .inl ⟨_,rfl,k.here P q S (by unfold Rep;rfl)⟩
 . obtain⟨v,rfl,r1⟩:=ix r rfl;unfold Rep at r1;subst r1;exact .inr ⟨_,rfl,k.here P q S (by unfold Rep;rfl)⟩
 . exact q.elim
def rB:fT:=fun ds st K=>match ds with| [d]=>(match items? st d with|some xs=>K (.tup xs) st|none=>False)|_=>False
theorem GQ:cf X (.type "tuple") (ip rB):=cf.imp wd fun xs H Q ⟨α,ds,st,K,G,F',P,r,S,q,k⟩=>by
 unfold rB at q;split at q
 . rename_i d;split at q
   . rename_i ys e;obtain⟨v,rfl,r1⟩:=ix r rfl;cases d with
     |tup zs=>
      cases e;have r0:=r1;unfold Rep at r1;obtain⟨a,vs,rfl,na,h1,h2⟩:=r1;exact⟨a,vs,rfl,.inr ⟨.of (P.get h1),k.here P q S r0⟩⟩
     |_=>
      obtain⟨p,vs,rfl,r2,h⟩:=nS S r1 e;refine⟨p,vs,rfl,?_⟩;rcases h with h|h
      . exact .inl ⟨.inl (gv P h),fun l hl=>k.tup P q S r2 hl⟩
      . first
         |(cases e;done)
         |(exfalso
           unfold items? at e;simp only at e
           first
            |(split at e
              . rename_i z;obtain⟨a,ea,vs',h1,h2⟩:=S.i3 z;have e':=dD ea r1;cases e';rw[h]at h1;cases h1
              . cases e)
            |(unfold Rep at r1
              obtain⟨a,vs',e',_,h1,_⟩:=r1;cases e';rcases h1 with h1|⟨o,h1⟩<;>(rw[h]at h1;cases h1)))
   . exact q.elim
 . exact q.elim
def uI:fT:=fun ds st K=>match ds with| [d]=>(match items? st d with|some xs=>K (.lst xs) st|none=>False)|_=>False
theorem Kn:cf X (.type "list") (ip uI):=cf.imp qv fun xs H Q ⟨α,ds,st,K,G,F',P,r,S,q,k⟩=>by
 unfold uI at q;split at q
 . split at q
   . rename_i ys e;obtain⟨v,rfl,r1⟩:=ix r rfl;obtain⟨p,vs,rfl,r2,h⟩:=nS S r1 e;exact⟨p,vs,rfl,An P h,fun l hl=>k.lst P q S r2 hl⟩
   . exact q.elim
 . exact q.elim
def rm:fT:=fun ds st K=>match ds with| [d]=>(match items? st d with|some xs=>K (.ref st.length) (st++[.lst xs])|none=>False)|_=>False
theorem HP:cf X (.type "list") (ip rm):=cf.imp qv fun xs H Q ⟨α,ds,st,K,G,F',P,r,S,q,k⟩=>by
 unfold rm at q;split at q
 . split at q
   . rename_i ys e;obtain⟨v,rfl,r1⟩:=ix r rfl;obtain⟨p,vs,rfl,r2,h⟩:=nS S r1 e;exact⟨p,vs,rfl,An P h,fun l hl=>k.new P q S r2 hl⟩
   . exact q.elim
 . exact q.elim
def iW:List D->Option (List Bool)
 | []=>some []
 | .bl b::r=>(iW r).map (b:: ·)
 |_::_=>none
theorem uB{α:List (Option Addr)}{H:Hp}:∀ {ds:List D} {vs:List V} {bs:List Bool},aG α H ds vs->iW ds=some bs->vs=bs.map V.bl
 | [],vs,bs,r,e=>by
   unfold aG at r;cases e;exact r
 |d::ds,vs,bs,r,e=>by
  unfold aG at r;obtain⟨v,q,rfl,h1,h2⟩:=r;cases d<;>try(cases e;done)
  unfold iW at e;cases z:iW ds with
  |none=>rw[z]at e;cases e
  |some cs=>
   rw[z]at e;cases e;unfold Rep at h1;rw[h1,uB h2 z];rfl
theorem tH:∀ {bs:List Bool} {us:List Value},Vals (bs.map V.bl) us->us=bs.map Value.bool
 | [],_,.nil=>rfl
 |b::bs,_,.cons h t=>by
  have h:_=Value.bool b:=h;rw[h,tH t];rfl
def wL:fT:=fun ds st K=>match ds with| [.lst xs]=>(match iW xs with|some bs=>K (.bl (bs.all id)) st|none=>False)|_=>False
theorem range_all{α:Type}(l:List α)(f:α->Bool)(tr:Nat->Bool)(h:∀i x,l[i]?=some x->tr i=f x):(List.range l.length).all tr=l.all f:=by
 induction l generalizing tr with
 |nil=>rfl
 |cons a l ih=>
  rw[List.length_cons,List.range_succ_eq_map,List.all_cons,List.all_cons,List.all_map,h 0 a rfl];congr 1;exact ih (tr∘Nat.succ) fun i x e=>h (i+1) x (by simpa using e)
theorem LJ(hc:X.calm=true):cf X (.builtin "all") (ip wL):=fun pins s σ H xs us Q I rs ⟨α,ds,st,K,G,F',P,r,S,q,k⟩=>by
 unfold wL at q;split at q
 . rename_i ys;split at q
   . rename_i bs e;obtain⟨v,rfl,r1⟩:=ix r rfl;unfold Rep at r1;obtain⟨a,vs,rfl,na,h1,h2⟩:=r1;obtain⟨u,rfl,ru⟩:=vals1 rs;cases ru;have hv:=uB h2 e;subst hv;obtain⟨z,aq,n,rv,hl,eo⟩:=Inv.yw I (gv P h1);have hits:=tH rv;subst hits;have isL:s.heap.IsList a (bs.map Value.bool).toArray:=⟨_,eo,rfl,n,rfl⟩
     refine call_all_walk (wpAny_pyIter_list isL ?_);have hne:a≠s.heap.objs.size:=Nat.ne_of_lt (Heap.lt_size eo);refine⟨s.heap.objs.size,_,_,_,_,_,fun i=>(bs[i]?).getD true,rfl,Walks.list (A:=X.A.in1) (I.ok.hd hc) _ a hne (bs.map Value.bool).toArray,⟨⟨_,Heap.get?_push_size _ rfl,rfl,rfl⟩,⟨_,Heap.get?_push_of_some _ eo,rfl,n,rfl⟩⟩,?_,?_⟩
     . intro i w s' Q' E' hP hQ;rw[List.getElem?_toArray,List.getElem?_map]at hP;cases zb:bs[i]? with
       |none=>rw[zb]at hP;cases hP
       |some b=>
        rw[zb]at hP;cases hP;simp only[zb]at hQ;exact wpAny_truthy_bool hQ
     . intro h' tk hk
       have kp:∀b o,s.heap.get? b=some o->h'.get? b=some o:=fun b o q=>hk b o (by
        intro hb;have:b=s.heap.objs.size:=by simpa using hb
        exact absurd (Heap.lt_size q) (by rw[this];exact Nat.lt_irrefl _)) (Heap.get?_push_of_some _ q)
       have ea:(List.range (bs.map Value.bool).toArray.size).all (fun i=>(bs[i]?).getD true)=bs.all id:=by
        rw[List.size_toArray,List.length_map];exact range_all bs id _ fun i x e=>by rw[e];rfl
       rw[ea];exact⟨.bl (bs.all id),H,I.kept (t':=tk) kp,rfl,k.here P q S (by unfold Rep;rfl)⟩
   . exact q.elim
 . exact q.elim
def eL(st:ag):D->Option String
 | .aE=>some "NoneType"
 | .bl _=>some "bool"
 | .int _=>some "int"
 | .str _=>some "str"
 | .lst _=>some "list"
 | .tup _=>some "tuple"
 | .ref n=>(match st[n]? with|some (.lst _)=>some "list"|_=>none)
 | .ty _=>none
@[simp] theorem N0(st:ag)(xs:List D):eL st (.lst xs)=some "list":=rfl
@[simp] theorem NU(st:ag)(xs:List D):eL st (.tup xs)=some "tuple":=rfl
@[simp] theorem ty_int(st:ag)(i:Int):eL st (.int i)=some "int":=rfl
@[simp] theorem Od(st:ag)(i:Bool):eL st (.bl i)=some "bool":=rfl
@[simp] theorem ty_str(st:ag)(i:Str):eL st (.str i)=some "str":=rfl
@[simp] theorem NG(st:ag):eL st .aE=some "NoneType":=rfl
def qd(t c:String):Bool:=t==c||(t=="bool"&&c=="int")
theorem w4{α:List (Option Addr)}{H:Hp}{st:ag}{K:PySem.W.Frag}{d:D}{v:V}{t:String}(S:aR α st H)(r:Rep α H d v)(e:eL st d=some t):iM K H v (.type t):=by
 cases d<;>unfold eL at e<;>try(cases e;done)
 . unfold Rep at r;cases e;subst r;exact .aE
 . unfold Rep at r;cases e;subst r;exact .bl _
 . unfold Rep at r;cases e;subst r;exact .int _
 . unfold Rep at r;cases e;subst r;exact .str _
 . simp only at e;split at e
   . rename_i z;cases e;obtain⟨a,ea,vs',h1,h2⟩:=S.i3 z;have r':=dD ea r;subst r';exact .lst h1
   . cases e
 . cases e;unfold Rep at r;obtain⟨a,vs,rfl,na,h1,h2⟩:=r;rcases h1 with h1|⟨o,h1⟩
   . exact .lst h1
   . exact .fP h1
 . cases e;unfold Rep at r;obtain⟨a,vs,rfl,na,h1,h2⟩:=r;exact .tup h1
theorem zG{G F H:Hp}{K:PySem.W.Frag}(P:bQ G F H){x:V}{t:Value}(h:iM K G x t):iM K H x t:=by
 cases h with
 |aE=>exact .aE
 |bl x=>exact .bl x
 |int x=>exact .int x
 |str x=>exact .str x
 |sh x=>exact .sh x
 |lst e=>exact .lst (P.get e)
 |fP e=>exact .fP (P.get e)
 |tup e=>exact .tup (P.get e)
 |dK e=>exact .dK (P.get e)
 |dT e=>exact .dT (P.get e)
 |ins e a b c d f=>exact .ins (P.get e) a b c d f
def mG:List String:=["NoneType","bool","int","str","list","tuple"]
def kB:List String:=["bool","int","str","list","tuple"]
theorem zC(K:PySem.W.Frag){t c:String}(ht:t∈mG)(hc:c∈kB):PySem.W.kitOne K (.type t) (.type c)=some (qd t c):=by
 simp only[mG,kB,List.mem_cons,List.not_mem_nil,or_false]at ht hc;rcases ht with rfl|rfl|rfl|rfl|rfl|rfl<;>rcases hc with rfl|rfl|rfl|rfl|rfl<;>with_unfolding_all rfl
theorem o5{st:ag}{d:D}{t:String}(e:eL st d=some t):t∈mG:=by
 cases d<;>unfold eL at e<;>first
  |(cases e;done)
  |(cases e;decide)
  |(simp only at e;split at e<;>cases e;decide)
theorem kitx_of{pins:List (Addr×Obj)}{σ:L2.St}{H:Hp}{s:Shared}{x:V}{u:Value}{t:String}(I:Inv X pins σ H s)(rx:RelV x u)(ty:iM X.K H x (.type t)):
 ∃Hh:Heap->Prop,PySem.W.KitX X.K u (.type t) Hh/\Hh s.heap/\u≠ .builtin "__main__.__loader__#opaque":=by
 cases ty with
 |aE=>cases (show u=Value.none from rx);exact⟨_,PySem.W.kitx_none,True.intro,fun z=>nomatch z⟩
 |bl y=>cases (show u=Value.bool y from rx);exact⟨_,PySem.W.kitx_bool,True.intro,fun z=>nomatch z⟩
 |int i=>obtain⟨t,q⟩:=(show∃t,u=Value.int i t from rx);cases q;exact⟨_,PySem.W.kitx_int,True.intro,fun z=>nomatch z⟩
 |str y=>obtain⟨t,q⟩:=(show∃t,u=Value.str y t from rx);cases q;exact⟨_,PySem.W.kitx_str,True.intro,fun z=>nomatch z⟩
 |sh y=>obtain⟨t,q⟩:=(show∃t,u=Value.float y t from rx);cases q;exact⟨_,PySem.W.kitx_float,True.intro,fun z=>nomatch z⟩
 | @lst a xs ea=>
   cases (show u=Value.ref a from rx);obtain⟨_,_,n,_,h1⟩:=(show cW X.prog X.w H s.heap a (.lst xs)from I.aK a _ ea)
   exact⟨_,PySem.W.kitx_list,⟨_,h1,rfl⟩,fun z=>nomatch z⟩
 | @fP a ob xs ea=>
   cases (show u=Value.ref a from rx);obtain⟨_,_,_,n,_,h1⟩:=(show cW X.prog X.w H s.heap a (.fP ob (.lst xs))from I.aK a _ ea)
   exact⟨_,PySem.W.kitx_list,⟨_,h1,rfl⟩,fun z=>nomatch z⟩
 | @tup a xs ea=>
   cases (show u=Value.ref a from rx);obtain⟨_,_,_,p⟩:=(show cW X.prog X.w H s.heap a (.tup xs)from I.aK a _ ea)
   obtain⟨o,h1,h2,_⟩:=p;exact⟨_,PySem.W.kitx_tuple,⟨o,h1,h2⟩,fun z=>nomatch z⟩
 | @dK a kvs ea=>
   cases (show u=Value.ref a from rx);obtain⟨_,_,vs,_,p⟩:=(show cW X.prog X.w H s.heap a (.dK kvs)from I.aK a _ ea)
   obtain⟨o,es,ep,h1,h2,_⟩:=p;exact⟨_,PySem.W.kitx_dict,⟨o,h1,h2.1⟩,fun z=>nomatch z⟩
 | @dT a kvs ea=>
   cases (show u=Value.ref a from rx);obtain⟨_,_,xs,_,o,es,ep,h1,h2,_⟩:=(show cW X.prog X.w H s.heap a (.dT kvs)from I.aK a _ ea)
   exact⟨_,PySem.W.kitx_dict,⟨o,h1,h2.1⟩,fun z=>nomatch z⟩
def mD:List D->Option (List String)
 | []=>some []
 | .ty b::r=>(mD r).map (b:: ·)
 |_::_=>none
theorem yQ{α:List (Option Addr)}{H:Hp}:∀ {ds:List D} {vs:List V} {bs:List String},aG α H ds vs->mD ds=some bs->vs=bs.map V.ty
 | [],vs,bs,r,e=>by
   unfold aG at r;cases e;exact r
 |d::ds,vs,bs,r,e=>by
  unfold aG at r;obtain⟨v,q,rfl,h1,h2⟩:=r;cases d<;>try(cases e;done)
  unfold mD at e;cases z:mD ds with
  |none=>rw[z]at e;cases e
  |some cs=>
   rw[z]at e;cases e;unfold Rep at h1;rw[h1,yQ h2 z];rfl
theorem xI:∀ {bs:List String} {us:List Value},Vals (bs.map V.ty) us->us=bs.map Value.type
 | [],_,.nil=>rfl
 |b::bs,_,.cons h t=>by
  have h:_=Value.type b:=h;rw[h,xI t];rfl
theorem zZ(K:PySem.W.Frag){t:String}(ht:t∈mG):∀cs:List String,(∀c∈cs,c∈kB)->PySem.W.kitAny K (.type t) (cs.map Value.type)=some (cs.any (qd t))
 | [],_=>rfl
 |c::cs,h=>by
  show(match PySem.W.kitOne K (.type t) (.type c)with|some true=>some true|some false=>PySem.W.kitAny K (.type t) (cs.map Value.type)|none=>none)=_;rw[zC K ht (h c List.mem_cons_self),List.any_cons];cases qd t c with
  |true=>rfl
  |false=>exact zZ K ht cs fun c hc=>h c (List.mem_cons_of_mem _ hc)
def uK:fT:=fun ds st K=>match ds with
 | [d,.ty c]=>(match eL st d with|some t=>c∈kB/\K (.bl (qd t c)) st|none=>False)
 | [d,.tup cs]=>(match eL st d,mD cs with|some t,some cl=>(∀c∈cl,c∈kB)/\K (.bl (cl.any (qd t))) st|_,_=>False)
 |_=>False
theorem Lg:cf X (.builtin "isinstance") (ip uK):=fun pins s σ H xs us Q I rs ⟨α,ds,st,K,G,F',P,r,S,q,k⟩=>by
 unfold uK at q;split at q
 . rename_i d c;split at q
   . rename_i t e;obtain⟨v,v2,rfl,r1,r2⟩:=ph r rfl;obtain⟨u,u2,rfl,ru,ru2⟩:=vals2 rs;unfold Rep at r2;subst r2;cases (show u2=Value.type c from ru2);exact BB I ru (zG P (w4 S r1 e)) (zC _ (o5 e) q.1) fun tk=>⟨.bl (qd t c),H,I.tok tk,rfl,k.here P q.2 S (by unfold Rep;rfl)⟩
   . exact q.elim
 . rename_i d cs;split at q
   . rename_i t cl e ec;obtain⟨v,v2,rfl,r1,r2⟩:=ph r rfl;obtain⟨u,u2,rfl,ru,ru2⟩:=vals2 rs;unfold Rep at r2;obtain⟨a,vs,rfl,na,h1,h2⟩:=r2;cases (show u2=Value.ref a from ru2);have hv:=yQ h2 ec;subst hv;obtain⟨Hh,Z,hh,hne⟩:=kitx_of I ru (zG P (w4 S r1 e));obtain⟨aq,r',pl,hz⟩:=I.tuple (hJ.of (P.get h1));have hi:=xI r';subst hi;obtain⟨⟨cls,dd,data,sl⟩,ho,hc,n,hd⟩:=pl;simp only at hc hd;subst hc hd;exact PySem.W.kia_tup Z I.gc hh ho (zZ _ (o5 e) cl q.1) hne fun tk=>⟨.bl _,H,I.tok tk,rfl,k.here P q.2 S (by unfold Rep;rfl)⟩
   . exact q.elim
 . exact q.elim
end
end L3
namespace L3
open PySem PySem.Spec L2 PySem.SeqAt
open PyProof.Rows hiding St
mutual
def cx:D->D->Bool
 | .aE,.aE=>true
 | .bl a,.bl b=>a==b
 | .bl a,.int b=>(if a then 1 else 0)==b
 | .int a,.bl b=>a==(if b then 1 else 0)
 | .int a,.int b=>a==b
 | .str a,.str b=>a==b
 | .lst xs,.lst ys=>kl xs ys
 | .tup xs,.tup ys=>kl xs ys
 |_,_=>false
def kl:List D->List D->Bool
 | [],[]=>true
 |x::xs,y::ys=>cx x y&&kl xs ys
 |_,_=>false
end
def pl:Nat->D->Bool
 |_,.aE=>true
 |_,.bl _=>true
 |_,.int _=>true
 |_,.str _=>true
 |n+1,.lst xs=>xs.all (pl n)
 |n+1,.tup xs=>xs.all (pl n)
 |_,_=>false
mutual
theorem o8:∀(n:Nat) (d:D),pl n d=true->cx d d=true
 |_,.aE,_=>rfl
 |_,.bl _,_=>by simp[cx]
 |_,.int _,_=>by simp[cx]
 |_,.str _,_=>by simp[cx]
 |n+1,.lst xs,h=>by unfold cx;exact qw n xs (by unfold pl at h;exact h)
 |n+1,.tup xs,h=>by unfold cx;exact qw n xs (by unfold pl at h;exact h)
 |0,.lst xs,h=>by cases h
 |0,.tup xs,h=>by cases h
 |_,.ref _,h=>by unfold pl at h;cases h
 |_,.ty _,h=>by unfold pl at h;cases h
theorem qw:∀(n:Nat) (xs:List D),xs.all (pl n)=true->kl xs xs=true
 |_,[],_=>by unfold kl;rfl
 |n,x::xs,h=>by
  rw[List.all_cons,Bool.and_eq_true]at h;unfold kl;rw[o8 n x h.1,qw n xs h.2];rfl
end
mutual
theorem Rep.inj{α:List (Option Addr)}{H:Hp}:∀ {d e:D} {v:V} (n:Nat),pl n d=true->pl n e=true->Rep α H d v->Rep α H e v->d=e
 | .aE,e,v,n,_,he,h1,h2=>by
   unfold Rep at h1;subst h1;cases e<;>first|(unfold pl at he;cases he;done)|(unfold Rep at h2;cases h2;rfl)|(unfold Rep at h2;cases h2;done)|(unfold Rep at h2;obtain⟨_,_,h2,_⟩:=h2;cases h2)|rfl|(cases h2;done)|(obtain⟨_,_,h2,_⟩:=h2;cases h2)|(obtain⟨_,_,h2⟩:=h2;cases h2)
 | .bl b,e,v,n,_,he,h1,h2=>by
   unfold Rep at h1;subst h1;cases e<;>first|(unfold pl at he;cases he;done)|(unfold Rep at h2;cases h2;rfl)|(unfold Rep at h2;cases h2;done)|(unfold Rep at h2;obtain⟨_,_,h2,_⟩:=h2;cases h2)|(cases h2;rfl)|(cases h2;done)|(obtain⟨_,_,h2,_⟩:=h2;cases h2)|(obtain⟨_,_,h2⟩:=h2;cases h2)
 | .int b,e,v,n,_,he,h1,h2=>by
   unfold Rep at h1;subst h1;cases e<;>first|(unfold pl at he;cases he;done)|(unfold Rep at h2;cases h2;rfl)|(unfold Rep at h2;cases h2;done)|(unfold Rep at h2;obtain⟨_,_,h2,_⟩:=h2;cases h2)|(cases h2;rfl)|(cases h2;done)|(obtain⟨_,_,h2,_⟩:=h2;cases h2)|(obtain⟨_,_,h2⟩:=h2;cases h2)
 | .str b,e,v,n,_,he,h1,h2=>by
   unfold Rep at h1;subst h1;cases e<;>first|(unfold pl at he;cases he;done)|(unfold Rep at h2;cases h2;rfl)|(unfold Rep at h2;cases h2;done)|(unfold Rep at h2;obtain⟨_,_,h2,_⟩:=h2;cases h2)|(cases h2;rfl)|(cases h2;done)|(obtain⟨_,_,h2,_⟩:=h2;cases h2)|(obtain⟨_,_,h2⟩:=h2;cases h2)
 | .ty b,e,v,n,hd,he,h1,h2=>by unfold pl at hd;cases hd
 | .ref b,e,v,n,hd,he,h1,h2=>by unfold pl at hd;cases hd
 | .lst xs,e,v,0,hd,he,h1,h2=>by cases hd
 | .tup xs,e,v,0,hd,he,h1,h2=>by cases hd
 | .lst xs,e,v,n+1,hd,he,h1,h2=>by
   unfold Rep at h1;obtain⟨a,vs,rfl,na,ha,ra⟩:=h1;cases e<;>unfold Rep at h2<;>try(cases h2;done)
   . unfold pl at he;cases he
   . obtain⟨a',vs',e',na',ha',ra'⟩:=h2;cases e'
     have:vs=vs':=by
      rcases ha with ha|⟨o,ha⟩<;>rcases ha' with ha'|⟨o',ha'⟩<;>(rw[ha]at ha';first|(cases ha';rfl)|(cases ha';done))
     subst this;rw[aG.inj n (by unfold pl at hd;exact hd) (by unfold pl at he;exact he) ra ra']
   . obtain⟨a',vs',e',na',ha',ra'⟩:=h2;cases e';rcases ha with ha|⟨o,ha⟩<;>(rw[ha]at ha';cases ha')
 | .tup xs,e,v,n+1,hd,he,h1,h2=>by
   unfold Rep at h1;obtain⟨a,vs,rfl,na,ha,ra⟩:=h1;cases e<;>unfold Rep at h2<;>try(cases h2;done)
   . unfold pl at he;cases he
   . obtain⟨a',vs',e',na',ha',ra'⟩:=h2;cases e';rcases ha' with ha'|⟨o,ha'⟩<;>(rw[ha]at ha';cases ha')
   . obtain⟨a',vs',e',na',ha',ra'⟩:=h2;cases e';rw[ha]at ha';cases ha';rw[aG.inj n (by unfold pl at hd;exact hd) (by unfold pl at he;exact he) ra ra']
theorem aG.inj{α:List (Option Addr)}{H:Hp}:∀ {ds es:List D} {vs:List V} (n:Nat),ds.all (pl n)=true->es.all (pl n)=true->aG α H ds vs->aG α H es vs->ds=es
 | [],es,vs,n,_,_,h1,h2=>by
   unfold aG at h1;subst h1;cases es with
   |nil=>rfl
   |cons e es=>unfold aG at h2;obtain⟨_,_,h,_⟩:=h2;cases h
 |d::ds,es,vs,n,hd,he,h1,h2=>by
  unfold aG at h1;obtain⟨v,r,rfl,r1,r2⟩:=h1;cases es with
  |nil=>unfold aG at h2;cases h2
  |cons e es=>
   unfold aG at h2;obtain⟨v',r',h,q1,q2⟩:=h2;cases h;rw[List.all_cons,Bool.and_eq_true]at hd he;rw[Rep.inj n hd.1 he.1 r1 q1,aG.inj n hd.2 he.2 r2 q2]
end
theorem m9:∀ {xs ys:List D},xs.length≠ys.length->kl xs ys=false
 | [],[],h=>absurd rfl h
 | [],_::_,_=>by unfold kl;rfl
 |_::_,[],_=>by unfold kl;rfl
 |x::xs,y::ys,h=>by
  unfold kl;rw[m9 (by simpa using h),Bool.and_false]
theorem m7:∀ {xs ys:List D},xs.length=ys.length->kl xs ys=(List.range xs.length).all fun j=>cx (xs.getD j .aE) (ys.getD j .aE)
 | [],[],_=>by unfold kl;rfl
 | [],_::_,h=>by cases h
 |_::_,[],h=>by cases h
 |x::xs,y::ys,h=>by
  unfold kl;rw[List.length_cons,List.range_succ_eq_map,List.all_cons,List.all_map,m7 (by simpa using h)];rfl
section
variable {X:Cx}{pins:List (Addr×Obj)}{σ:L2.St}{H:Hp}{s:Shared}{α:List (Option Addr)}
theorem js{xs:List D}{vs:List V}{aq:List Value}(r:aG α H xs vs)(v:Vals vs aq)(j:Nat)(hj:j<aq.length):∃x,xs[j]?=some (xs.getD j .aE)/\Rep α H (xs.getD j .aE) x/\RelV x aq[j]:=by
 have h1:=r.length;have h2:=v.length;have hx:j<xs.length:=by omega
 have e:xs[j]?=some (xs.getD j .aE):=by rw[List.getElem?_eq_getElem hx,List.getD_eq_getElem?_getD,List.getElem?_eq_getElem hx];rfl
 obtain⟨x,q,rr⟩:=r.get e;obtain⟨u,q2,rv⟩:=v.get q;rw[List.getElem?_eq_getElem hj]at q2;cases q2;exact⟨x,e,rr,rv⟩
theorem ia{xs:List D}{n:Nat}(h:xs.all (pl n)=true)(j:Nat):pl n (xs.getD j .aE)=true:=by
 rw[List.getD_eq_getElem?_getD];cases e:xs[j]? with
 |none=>cases n<;>rfl
 |some d=>exact List.all_eq_true.mp h d (List.mem_of_getElem? e)
def vU:D->Bool
 | .aE=>true
 | .bl _=>true
 | .int _=>true
 | .str _=>true
 |_=>false
theorem Ab{A:Around}{d e:D}{x y:V}{u v:Value}(hd:vU d=true)(he:vU e=true)(rd:Rep α H d x)(re:Rep α H e y)(rx:RelV x u)(ry:RelV y v):RcAt A s u v (cx d e)/\EqAt A s u v (cx d e):=by
 cases d<;>cases e<;>try(first|(cases hd;done)|(cases he;done))
 all_goals(unfold Rep at rd re;subst rd re)
 all_goals(first|(obtain⟨t,rfl⟩:=rx;obtain⟨t',rfl⟩:=ry)|(obtain⟨t,rfl⟩:=rx;cases ry)|(cases rx;obtain⟨t,rfl⟩:=ry)|(cases rx;cases ry))
 all_goals unfold cx
 . exact⟨RcAt.none_none,EqAt.same _⟩
 . exact⟨RcAt.none_bool _,EqAt.none_bool _⟩
 . exact⟨RcAt.none_int _ _,EqAt.none_int _ _⟩
 . exact⟨RcAt.none_str _ _,EqAt.none_str _ _⟩
 . exact⟨RcAt.bool_none _,EqAt.bool_none _⟩
 . exact⟨RcAt.bool_bool _ _,EqAt.bool_bool _ _⟩
 . exact⟨RcAt.bool_int _ _ _,EqAt.bool_int _ _ _⟩
 . exact⟨RcAt.bool_str _ _ _,EqAt.bool_str _ _ _⟩
 . exact⟨RcAt.int_none _ _,EqAt.int_none _ _⟩
 . exact⟨RcAt.int_bool _ _ _,EqAt.int_bool _ _ _⟩
 . exact⟨RcAt.int_int _ _ _ _,EqAt.int_int _ _ _ _⟩
 . exact⟨RcAt.int_str _ _ _ _,EqAt.int_str _ _ _ _⟩
 . exact⟨RcAt.str_none _ _,EqAt.str_none _ _⟩
 . exact⟨RcAt.str_bool _ _ _,EqAt.str_bool _ _ _⟩
 . exact⟨RcAt.str_int _ _ _ _,EqAt.str_int _ _ _ _⟩
 . exact⟨RcAt.str_str _ _ _ _,EqAt.str_str _ _ _ _⟩
theorem lst_is(I:Inv X pins σ H s){xs:List D}{x:V}{u:Value}(r:Rep α H (.lst xs) x)(rx:RelV x u):∃a vs aq,u= .ref a/\aG α H xs vs/\Vals vs aq/\s.heap.IsList a aq.toArray:=by
 unfold Rep at r;obtain⟨a,vs,rfl,na,ha,ra⟩:=r;cases rx;obtain⟨z,aq,n,rv,hl,eo⟩:=Inv.yw I ha;exact⟨a,vs,aq,rfl,ra,rv,⟨_,eo,rfl,n,rfl⟩⟩
theorem tup_is(I:Inv X pins σ H s){xs:List D}{x:V}{u:Value}(r:Rep α H (.tup xs) x)(rx:RelV x u):∃a vs aq,u= .ref a/\aG α H xs vs/\Vals vs aq/\s.heap.IsTuple a aq.toArray:=by
 unfold Rep at r;obtain⟨a,vs,rfl,na,ha,ra⟩:=r;cases rx;obtain⟨aq,r',p,hz⟩:=I.tuple (hJ.of ha);exact⟨a,vs,aq,rfl,ra,r',p⟩
theorem vZ(I:Inv X pins σ H s){A:Around}{xs:List D}{e:D}{x y:V}{u v:Value}(he:vU e=true)(rd:Rep α H (.lst xs) x)(re:Rep α H e y)(rx:RelV x u)(ry:RelV y v)(hu:A.units<cLine):
 (RcAt A s u v (cx (.lst xs) e)/\EqAt A s u v (cx (.lst xs) e))/\RcAt A s v u (cx e (.lst xs))/\EqAt A s v u (cx e (.lst xs)):=by
 obtain⟨a,vs,aq,rfl,_,_,hl⟩:=lst_is I rd rx;cases e<;>try(cases he;done)
 all_goals(unfold Rep at re;subst re)
 all_goals(first|(obtain⟨t,rfl⟩:=ry)|(cases ry))
 all_goals unfold cx
 . exact⟨⟨RcAt.list_none hl hu,EqAt.list_none hl hu⟩,RcAt.none_list hl hu,EqAt.none_list hl hu⟩
 . exact⟨⟨RcAt.list_bool _ hl hu,EqAt.list_bool _ hl hu⟩,RcAt.bool_list _ hl hu,EqAt.bool_list _ hl hu⟩
 . exact⟨⟨RcAt.list_int _ _ hl hu,EqAt.list_int _ _ hl hu⟩,RcAt.int_list _ _ hl hu,EqAt.int_list _ _ hl hu⟩
 . exact⟨⟨RcAt.list_str _ _ hl hu,EqAt.list_str _ _ hl hu⟩,RcAt.str_list _ _ hl hu,EqAt.str_list _ _ hl hu⟩
theorem vJ(I:Inv X pins σ H s){A:Around}{xs:List D}{e:D}{x y:V}{u v:Value}(he:vU e=true)(rd:Rep α H (.tup xs) x)(re:Rep α H e y)(rx:RelV x u)(ry:RelV y v)(hu:A.units<cLine):
 (RcAt A s u v (cx (.tup xs) e)/\EqAt A s u v (cx (.tup xs) e))/\RcAt A s v u (cx e (.tup xs))/\EqAt A s v u (cx e (.tup xs)):=by
 obtain⟨a,vs,aq,rfl,_,_,hl⟩:=tup_is I rd rx;cases e<;>try(cases he;done)
 all_goals(unfold Rep at re;subst re)
 all_goals(first|(obtain⟨t,rfl⟩:=ry)|(cases ry))
 all_goals unfold cx
 . exact⟨⟨RcAt.tuple_none hl hu,EqAt.tuple_none hl hu⟩,RcAt.none_tuple hl hu,EqAt.none_tuple hl hu⟩
 . exact⟨⟨RcAt.tuple_bool _ hl hu,EqAt.tuple_bool _ hl hu⟩,RcAt.bool_tuple _ hl hu,EqAt.bool_tuple _ hl hu⟩
 . exact⟨⟨RcAt.tuple_int _ _ hl hu,EqAt.tuple_int _ _ hl hu⟩,RcAt.int_tuple _ _ hl hu,EqAt.int_tuple _ _ hl hu⟩
 . exact⟨⟨RcAt.tuple_str _ _ hl hu,EqAt.tuple_str _ _ hl hu⟩,RcAt.str_tuple _ _ hl hu,EqAt.str_tuple _ _ hl hu⟩
theorem zK{A:Around}{n:Nat}{d e:D}{x y:V}{a b:Addr}(hd:pl n d=true)(he:pl n e=true)(rd:Rep α H d x)(re:Rep α H e y)(rx:RelV x (.ref a))(ry:RelV y (.ref b))(h:RcAt A s (.ref a) (.ref b) (cx d e)):
 RcAt A s (.ref a) (.ref b) (cx d e)/\EqAt A s (.ref a) (.ref b) (cx d e):=by
 refine⟨h,?_⟩;by_cases hab:a=b
 . subst hab;have hx:x=y:=RelV.inj rx ry;subst hx;have:=Rep.inj n hd he rd re;subst this;rw[o8 n d hd];exact EqAt.same _
 . exact EqAt.of_refs hab h
theorem Bw(I:Inv X pins σ H s):∀(n:Nat) (A:Around) (d e:D) (x y:V) (u v:Value),pl n d=true->pl n e=true->Rep α H d x->Rep α H e y->RelV x u->RelV y v->A.units+n<cLine->
 RcAt A s u v (cx d e)/\EqAt A s u v (cx d e):=by
 intro n;induction n with
 |zero=>
  intro A d e x y u v hd he rd re rx ry hu;refine Ab ?_ ?_ rd re rx ry
  . cases d<;>first|rfl|(cases hd)
  . cases e<;>first|rfl|(cases he)
 |succ n ih=>
  intro A d e x y u v hd he rd re rx ry hu;have hu0:A.units<cLine:=by omega
  have hin:A.in1.units+n<cLine:=by rw[Around.in1_units];omega
  cases d<;>try(cases hd;done)
  case lst xs=>
   cases e<;>try(cases he;done)
   case lst ys=>
    have rd0:=rd;have re0:=re;have rx0:=rx;have ry0:=ry;obtain⟨a,vs,aq,rfl,r1,v1,l1⟩:=lst_is I rd rx;obtain⟨b,ws,jts,rfl,r2,v2,l2⟩:=lst_is I re ry;have e1:=r1.length;have e2:=v1.length;have e3:=r2.length;have e4:=v2.length;refine zK hd he rd0 re0 rx0 ry0 ?_;unfold cx;by_cases hlen:xs.length=ys.length
    . rw[m7 hlen];have hsz:aq.toArray.size=jts.toArray.size:=by simp only[List.size_toArray];omega
      have hx:xs.length=aq.toArray.size:=by simp only[List.size_toArray];omega
      rw[hx];refine RcAt.lists l1 l2 hsz hu0 fun j h1 h2=>?_;have h1':j<aq.length:=by simpa using h1
      have h2':j<jts.length:=by simpa using h2
      obtain⟨p,_,q1,q2⟩:=js r1 v1 j h1';obtain⟨p',_,q1',q2'⟩:=js r2 v2 j h2';exact(ih A.in1 _ _ p p' _ _ (ia (by unfold pl at hd;exact hd) j) (ia (by unfold pl at he;exact he) j) q1 q1' (by simpa using q2) (by simpa using q2') hin).2
    . rw[m9 hlen];exact RcAt.lists_lengths l1 l2 (by simp only[List.size_toArray,bne_iff_ne,ne_eq];omega) hu0
   case tup ys=>
    obtain⟨a,vs,aq,rfl,r1,v1,l1⟩:=lst_is I rd rx;obtain⟨b,ws,jts,rfl,r2,v2,l2⟩:=tup_is I re ry;unfold cx;exact⟨RcAt.list_tuple l1 l2 hu0,EqAt.list_tuple l1 l2 hu0⟩
   all_goals exact(vZ I rfl rd re rx ry hu0).1
  case tup xs=>
   cases e<;>try(cases he;done)
   case tup ys=>
    have rd0:=rd;have re0:=re;have rx0:=rx;have ry0:=ry;obtain⟨a,vs,aq,rfl,r1,v1,l1⟩:=tup_is I rd rx;obtain⟨b,ws,jts,rfl,r2,v2,l2⟩:=tup_is I re ry;have e1:=r1.length;have e2:=v1.length;have e3:=r2.length;have e4:=v2.length;refine zK hd he rd0 re0 rx0 ry0 ?_;unfold cx
    have key:=RcAt.tuples (e:=fun j=>cx (xs.getD j .aE) (ys.getD j .aE)) l1 l2 hu0 fun j h1 h2=>by
     have h1':j<aq.length:=by simpa using h1
     have h2':j<jts.length:=by simpa using h2
     obtain⟨p,_,q1,q2⟩:=js r1 v1 j h1';obtain⟨p',_,q1',q2'⟩:=js r2 v2 j h2';exact(ih A.in1 _ _ p p' _ _ (ia (by unfold pl at hd;exact hd) j) (ia (by unfold pl at he;exact he) j) q1 q1' (by simpa using q2) (by simpa using q2') hin).2
    by_cases hlen:xs.length=ys.length
    . rw[m7 hlen];have hsz:aq.toArray.size=jts.toArray.size:=by simp only[List.size_toArray];omega
      have hx:xs.length=aq.toArray.size:=by simp only[List.size_toArray];omega
      rw[hsz,Nat.min_self,beq_self_eq_true,Bool.and_true,<-hsz,<-hx]at key;exact key
    . rw[m9 hlen];have hne:(aq.toArray.size==jts.toArray.size)=false:=by simp only[List.size_toArray,beq_eq_false_iff_ne,ne_eq];omega
      rw[hne,Bool.and_false]at key;exact key
   case lst ys=>
    obtain⟨a,vs,aq,rfl,r1,v1,l1⟩:=tup_is I rd rx;obtain⟨b,ws,jts,rfl,r2,v2,l2⟩:=lst_is I re ry;unfold cx;exact⟨RcAt.tuple_list l1 l2 hu0,EqAt.tuple_list l1 l2 hu0⟩
   all_goals exact(vJ I rfl rd re rx ry hu0).1
  all_goals
   cases e<;>try(cases he;done)
   case lst ys=>exact(vZ I rfl re rd ry rx hu0).2
   case tup ys=>exact(vJ I rfl re rd ry rx hu0).2
   all_goals exact Ab rfl rfl rd re rx ry
def Ih:cZ:=fun x y st K=>pl 40 x=true/\pl 40 y=true/\K (.bl (cx x y)) st
theorem Nj{k:Nat}(hr:cC k X.A):bS X (compareOp .Eq) (LR Ih):=fun pins s σ H x y v u Q I rx ry ⟨α,d,e,st,K,G,F',P,r1,r2,S,q,k⟩=>by
 have hu:=hr.units;exact(Bw I 40 X.A d e x y v u q.1 q.2.1 (r1.mono P.same) (r2.mono P.same) rx ry (by omega)).1 _ _ _ _ ⟨.bl (cx d e),H,I,rfl,k.here P q.2.2 S (by unfold Rep;rfl)⟩
def JQ:cZ:=fun x y st K=>match x,y with
 | .int i,.int j=>K (.bl (!decide (i=j))) st
 | .bl i,.bl j=>K (.bl (!decide (i=j))) st
 | .str i,.str j=>K (.bl (!decide (i=j))) st
 |_,_=>False
theorem MV:bS X (compareOp .NotEq) (LR JQ):=bS.imp L0 fun x y H Q ⟨α,d,e,st,K,G,F',P,r1,r2,S,q,k⟩=>by
 cases d<;>cases e<;>try exact q.elim
 all_goals(unfold Rep at r1 r2;subst r1 r2)
 . exact⟨rfl,k.here P q S (by unfold Rep;congr 2;exact decide_eq_decide.mpr ⟨fun h=>by cases h;rfl,fun h=>by rw[h]⟩)⟩
 . exact⟨rfl,k.here P q S (by unfold Rep;congr 2;exact decide_eq_decide.mpr ⟨fun h=>by cases h;rfl,fun h=>by rw[h]⟩)⟩
 . exact⟨rfl,k.here P q S (by unfold Rep;congr 2;exact decide_eq_decide.mpr ⟨fun h=>by cases h;rfl,fun h=>by rw[h]⟩)⟩
end
end L3
namespace L3
open PySem PySem.Spec L2
open PyProof.Rows hiding St
def LC(α:List (Option Addr))(G F:Hp)(K:bG->ag->Prop)(Q:L2.St->Hp->Prop):Prop:=∀σd' st',K σd' st'->∀α' G' H' σ',Step α G α' G'->bQ G' F H'->dG α' G' σd' σ'->aR α' st' G'->Q σ' H'
structure wJ(α:List (Option Addr))(G F:Hp)(DD:mx)(D:Ends):Prop where
 nx:LC α G F DD.nx D.nx
 rt:LK α G F DD.rt D.rt
 bk:LC α G F DD.bk D.bk
 ct:LC α G F DD.ct D.ct
inductive MQ(t:DS)(D:Ends)(σ:L2.St)(H:Hp):Prop
 |mk (α:List (Option Addr)) (σd:bG) (st:ag) (DD:mx) (G F:Hp) (P:bQ G F H) (R:dG α G σd σ) (S:aR α st G) (h:t DD σd st) (k:wJ α G F DD D):MQ t D σ H
def LS(t:DS):TS:=MQ t
theorem LC.at{α α1:List (Option Addr)}{G F G1:Hp}{K:bG->ag->Prop}{Q:L2.St->Hp->Prop}(h:LC α G F K Q)(s:Step α G α1 G1):LC α1 G1 F K Q:=fun d st' k α' G' H' v s' P R S=>h d st' k α' G' H' v (s.trans s') P R S
theorem LC.here{α:List (Option Addr)}{G F H:Hp}{K:bG->ag->Prop}{Q:L2.St->Hp->Prop}(h:LC α G F K Q)(P:bQ G F H){σd:bG}{st:ag}{σ:L2.St}(k:K σd st)(R:dG α G σd σ)(S:aR α st G):Q σ H:=h σd st k α G H σ Step.refl P R S
theorem wJ.at{α α1:List (Option Addr)}{G F G1:Hp}{DD:mx}{D:Ends}(h:wJ α G F DD D)(s:Step α G α1 G1):wJ α1 G1 F DD D:=⟨h.nx.at s,h.rt.at s,h.bk.at s,h.ct.at s⟩
section
variable {X:Cx}{a b c e o i:Expr}{es:List Expr}{ta tb tc te:DE}{pos:Pos}{st:Stmt}{sts:List Stmt}{t u:DS}
theorem PS.imp{t t':TS}(h:PS X st t)(f:∀D σ H,t' D σ H->t D σ H):PS X st t':=fun pins s σ H D I q=>h pins s σ H D I (f D σ H q)
theorem gd.imp{t t':TS}(h:gd X sts t)(f:∀D σ H,t' D σ H->t D σ H):gd X sts t':=fun pins s σ H D I q=>h pins s σ H D I (f D σ H q)
def dQ:DS:=fun D σ st=>D.nx σ st
def aL(t u:DS):DS:=fun D σ st=>t {D with nx:=u D} σ st
theorem HL:gd X [] (LS dQ):=gd.imp Gz fun D σ H ⟨α,σd,st,DD,G,F,P,R,S,t,k⟩=>k.nx.here P t R S
theorem HK(h:PS X st (LS t)):gd X [st] (LS t):=He h
theorem Ek(h:PS X st (LS t))(h2:gd X sts (LS u)):gd X (st::sts) (LS (aL t u)):=gd.imp (EH h h2) fun D σ H ⟨α,σd,st,DD,G,F,P,R,S,t,k⟩=>
 ⟨α,σd,st,_,G,F,P,R,S,t,fun σd' st' q α' G' H' σ' s' P' R' S'=>⟨α',σd',st',DD,G',F,P',R',S',q,k.at s'⟩,k.rt,k.bk,k.ct⟩
def bI(te:DE):DS:=fun D σ st=>te σ st D.rt
theorem IS(h:PE X e (LE te)):PS X (.Return (some e) pos) (LS (bI te)):=PS.imp (Ks h) fun D σ H ⟨α,σd,st,DD,G,F,P,R,S,t,k⟩=>⟨α,σd,st,_,G,F,P,R,S,t,k.rt⟩
def la(te:DE):DS:=fun D σ st=>te σ st fun _ st1=>D.nx σ st1
theorem Hm(h:PE X e (LE te))(hs:swapsWith e none pos.line X.env=pure false:=by rfl):PS X (.Expr e pos) (LS (la te)):=PS.imp (Gb h hs) fun D σ H ⟨α,σd,st,DD,G,F,P,R,S,t,k⟩=>
 ⟨α,σd,st,_,G,F,P,R,S,t,fun d st1 q α1 G1 H1 v s1 P1 S1 r1=>(k.nx.at s1).here P1 q (R.step s1) S1⟩
def eA(c:DT)(t u:DS):DS:=fun D σ st=>c σ st fun b st1=>if b=true then t D σ st1 else u D σ st1
theorem Lp{x y:List Stmt}{tc:DT}(hc:PT X c (LT tc))(ha:gd X x (LS t))(hb:gd X y (LS u)):PS X (.If c x y pos) (LS (eA tc t u)):=PS.imp (Le hc ha hb) fun D σ H ⟨α,σd,st,DD,G,F,P,R,S,t,k⟩=>by
 refine⟨α,σd,st,_,G,F,P,R,S,t,fun b st1 q α1 G1 H1 s1 P1 S1=>?_⟩;cases b with
 |true=>exact⟨α1,σd,st1,DD,G1,F,P1,R.step s1,S1,q,k.at s1⟩
 |false=>exact⟨α1,σd,st1,DD,G1,F,P1,R.step s1,S1,q,k.at s1⟩
abbrev fN:=D->bG->Option bG
def cq(i:Nat):fN:=fun d σ=>some (σ.set i (some d))
def mv(i j:Nat):fN:=fun d σ=>match d with| .tup [x,y]=>some ((σ.set i (some x)).set j (some y))|_=>none
inductive Mp(t:fN)(v:V)(σ:L2.St)(H:Hp)(Q:L2.St->Hp->Prop):Prop
 |mk (α:List (Option Addr)) (σd:bG) (st:ag) (d:D) (K:bG->ag->Prop) (G F:Hp) (P:bQ G F H) (R:dG α G σd σ) (S:aR α st G) (r:Rep α G d v) (h:∃σ',t d σd=some σ'/\K σ' st) (k:LC α G F K Q):Mp t v σ H Q
def LG(t:fN):TG:=Mp t
theorem PG.imp{tg:Expr}{t t':TG}(h:PG X tg t)(f:∀v σ H Q,t' v σ H Q->t v σ H Q):PG X tg t':=fun pins s σ H v u Q I r q=>h pins s σ H v u Q I r (f v σ H Q q)
theorem GC{tg:Expr}{i:Nat}(h:PG X tg (mi i)):PG X tg (LG (cq i)):=PG.imp h fun v σ H Q ⟨α,σd,st,d,K,G,F,P,R,S,r,⟨σ',e,q⟩,k⟩=>by
 cases e;exact k.here P q (R.set i r) S
theorem JU{tg:Expr}{i j:Nat}(h:PG X tg (Jk X.K 2 (AO (mi i) (AO (mi j) J8)))):PG X tg (LG (mv i j)):=PG.imp h fun v σ H Q ⟨α,σd,st,d,K,G,F,P,R,S,r,⟨σ',e,q⟩,k⟩=>by
 unfold mv at e;split at e
 . rename_i x y;cases e;unfold Rep at r;obtain⟨a,vs,rfl,na,h1,h2⟩:=r;obtain⟨v1,v2,rfl,r1,r2⟩:=ph h2 rfl;exact⟨a,_,rfl,.of (P.get h1),rfl,v1,_,rfl,v2,_,rfl,rfl,k.here P q ((R.set i r1).set j r2) S⟩
 . cases e
def bf(i:Nat)(te:DE):DS:=fun D σ st=>te σ st fun d st1=>D.nx (σ.set i (some d)) st1
theorem Kk{i:Nat}(h:PS X st (pq (LE te) (mi i))):PS X st (LS (bf i te)):=PS.imp h fun D σ H ⟨α,σd,st,DD,G,F,P,R,S,t,k⟩=>
 ⟨α,σd,st,_,G,F,P,R,S,t,fun d st1 q α1 G1 H1 v s1 P1 S1 r1=>(k.nx.at s1).here P1 q ((R.step s1).set i r1) S1⟩
def Ak(i j:Nat)(ta:DA):DS:=fun D σ st=>ta σ st fun ds st1=>match ds with| [x,y]=>D.nx ((σ.set i (some x)).set j (some y)) st1|_=>False
theorem J0{i j:Nat}{ta:DA}(h:PS X st (IM i j (LA ta))):PS X st (LS (Ak i j ta)):=PS.imp h fun D σ H ⟨α,σd,st,DD,G,F,P,R,S,t,k⟩=>by
 refine⟨α,σd,st,_,G,F,P,R,S,t,fun ds st1 q α1 G1 H1 vs s1 P1 S1 r1=>?_⟩;match ds,q,r1 with
 | [x,y],q,r1=>
   obtain⟨v1,v2,rfl,q1,q2⟩:=ph r1 rfl;exact⟨v1,v2,rfl,(k.nx.at s1).here P1 q (((R.step s1).set i q1).set j q2) S1⟩
def AK(i:Nat)(r:cZ)(te:DE):DS:=fun D σ st=>match σ[i]? with|some (some x)=>te σ st fun y st1=>r x y st1 fun z st2=>D.nx (σ.set i (some z)) st2|_=>False
def wZ(f:Int->Int->Int):cZ:=fun x y st K=>match x,y with| .int i,.int j=>K (.int (f i j)) st|_,_=>False
theorem Ig{i:Nat}{f:Int->Int->Int}(h:PS X st (ID i (LE te) (Jy f))):PS X st (LS (AK i (wZ f) te)):=PS.imp h fun D σ H ⟨α,σd,st,DD,G,F,P,R,S,t,k⟩=>by
 unfold AK at t;split at t
 . rename_i x e;obtain⟨v,ev,rv⟩:=R.at' i x e;refine⟨v,ev,α,σd,st,_,G,F,P,R,S,t,fun y st1 q α1 G1 H1 w s1 P1 S1 r1=>?_⟩;cases x<;>cases y<;>try exact q.elim
   have rv':=rv;unfold Rep at rv r1;exact⟨_,_,rv,r1,(k.nx.at s1).here P1 q ((R.step s1).set i (by unfold Rep;rfl)) S1⟩
 . exact t.elim
def Av(x y d:D)(st:ag)(K:ag->Prop):Prop:=match x,y with
 | .ref n,.int k=>(match st[n]? with
   |some (.lst xs)=>(match iL xs.length k with|some j=>K (st.set n (.lst (xs.set j d)))|none=>False)
   |_=>False)
 |_,_=>False
def IX(to ti te:DE):DS:=fun D σ st=>te σ st fun d st1=>to σ st1 fun x st2=>ti σ st2 fun y st3=>Av x y d st3 fun st4=>D.nx σ st4
theorem DZ{to ti:DE}(h:PS X st (pq (LE te) (AX (LE to) (LE ti) wX))):PS X st (LS (IX to ti te)):=PS.imp h fun D σ H ⟨α,σd,st,DD,G,F,P,R,S,t,k⟩=>by
 refine⟨α,σd,st,_,G,F,P,R,S,t,fun d st1 q α1 G1 H1 v s1 P1 S1 r1=>?_⟩;refine⟨α1,σd,st1,_,G1,F,P1,R.step s1,S1,q,fun x st2 q2 α2 G2 H2 v2 s2 P2 S2 r2=>?_⟩;refine⟨α2,σd,st2,_,G2,F,P2,(R.step s1).step s2,S2,q2,fun y st3 q3 α3 G3 H3 v3 s3 P3 S3 r3=>?_⟩;cases x<;>cases y<;>try exact q3.elim
 rename_i n kk;unfold Av at q3;simp only at q3;split at q3
 . rename_i xs e;split at q3
   . rename_i j ej;obtain⟨p,ep,vs,hv,rv⟩:=S3.i3 e;have r2':=dD ep (r2.step s3);subst r2';unfold Rep at r3;have hm:some p∈α3:=List.mem_of_getElem? ep;have rd:=(r1.step s2).step s3;refine⟨p,vs,kk,j,rfl,r3,P3.get hv,by rw[<-rv.length];exact ej,?_⟩;refine(((k.nx.at s1).at s2).at s3) σd _ q3 α3 (upd G3 p (.lst (vs.set j v))) _ σ (Step.write hm) (P3.write hv) ((((R.step s1).step s2).step s3).step (Step.write hm)) ?_;exact S3.write ep ⟨vs.set j v,aY,(a_.mpr (tQ rd j (a_.mp rv))).step (Step.write hm)⟩
   . exact q3.elim
 . exact q3.elim
def uj(c:DT)(tb:DS):DS:=fun D σ st=>∃W:Nat->bG->ag->Prop,(∃m,W m σ st)/\∀m σ st,W m σ st->
 c σ st fun b st1=>if b=true then tb {D with nx:=fun σ' st'=>∃m',m'<m/\W m' σ' st',ct:=fun σ' st'=>∃m',m'<m/\W m' σ' st',bk:=D.nx} σ st1 else D.nx σ st1
theorem D0{tc:DT}(h:PS X st (Cc (LT tc) (LS t))):PS X st (LS (uj tc t)):=PS.imp h fun D σ H ⟨α,σd,st,DD,G,F,P,R,S,⟨W,⟨m0,w0⟩,turn⟩,k⟩=>by
 refine⟨fun m σ' H'=>∃α' σd' st' G',Step α G α' G'/\bQ G' F H'/\dG α' G' σd' σ'/\aR α' st' G'/\W m σd' st',⟨m0,α,σd,st,G,Step.refl,P,R,S,w0⟩,?_⟩;rintro m σ1 H1 ⟨α1,σd1,st1,G1,s1,P1,R1,S1,w1⟩;refine⟨α1,σd1,st1,_,G1,F,P1,R1,S1,turn m σd1 st1 w1,fun b st2 q α2 G2 H2 s2 P2 S2=>?_⟩;cases b with
 |false=>exact((k.nx.at s1).at s2).here P2 q (R1.step s2) S2
 |true=>
  refine⟨fun σ' H'=>∃m',m'<m/\∃α' σd' st' G',Step α G α' G'/\bQ G' F H'/\dG α' G' σd' σ'/\aR α' st' G'/\W m' σd' st',fun σ' H' z=>z,?_⟩;refine⟨α2,σd1,st2,_,G2,F,P2,R1.step s2,S2,q,?_⟩;refine⟨?_,(k.rt.at s1).at s2,(k.nx.at s1).at s2,?_⟩
  . rintro σd3 st3 ⟨m',hm,w3⟩ α3 G3 H3 σ3 s3 P3 R3 S3;exact⟨m',hm,α3,σd3,st3,G3,(s1.trans s2).trans s3,P3,R3,S3,w3⟩
  . rintro σd3 st3 ⟨m',hm,w3⟩ α3 G3 H3 σ3 s3 P3 R3 S3;exact⟨m',hm,α3,σd3,st3,G3,(s1.trans s2).trans s3,P3,R3,S3,w3⟩
abbrev DI:=bG->ag->(List D->(ag->Prop)->ag->Prop)->Prop
structure tm(J:It)(α:List (Option Addr))(G:Hp)(ok:ag->Prop)(xs:List D):Prop where
 stop:∀(n:Nat) α' G' F' H' st',Step α G α' G'->bQ G' F' H'->aR α' st' G'->ok st'->xs.length<=n->J.stop n H'
 go:∀(n:Nat) d α' G' F' H' st',Step α G α' G'->bQ G' F' H'->aR α' st' G'->ok st'->xs[n]?=some d->J.go n H'
 nN:∀(n:Nat) d α' G' F' H' st' x H'',Step α G α' G'->bQ G' F' H'->aR α' st' G'->ok st'->xs[n]?=some d->J.nN n H' x H''->∃G'',Step α' G' α' G''/\bQ G'' F' H''/\aR α' st' G''/\Rep α' G'' d x
def LI(t:DI):TI:=fun σ H R=>∃α σd st K G F,bQ G F H/\dG α G σd σ/\aR α st G/\t σd st K/\∀xs ok st1,K xs ok st1->∀J α1 G1 H1,Step α G α1 G1->bQ G1 F H1->aR α1 st1 G1->tm J α1 G1 ok xs->R J H1
def yM(d:D)(st1:ag)(K:List D->(ag->Prop)->ag->Prop):Prop:=match d with
 | .lst xs=>K xs (fun _=>True) st1
 | .tup xs=>K xs (fun _=>True) st1
 | .ref n=>(match st1[n]? with|some (.lst xs)=>K xs (fun st'=>st'[n]?=some (.lst xs)) st1|_=>False)
 |_=>False
def KW(t:DE):DI:=fun σ st K=>t σ st fun d st1=>yM d st1 K
theorem zY{K:PySem.W.Frag}{a:Addr}{α:List (Option Addr)}{G:Hp}{ok:ag->Prop}{xs:List D}
 (h:∀α' G' st',Step α G α' G'->aR α' st' G'->ok st'->∃vs,Rd G' a (.lst vs)/\aG α' G' xs vs):tm (Js K a) α G ok xs where
 stop:=fun n α' G' F' H' st' s P S o hn=>by
  obtain⟨vs,h1,h2⟩:=h α' G' st' s S o;exact⟨vs,.inl (gv P h1),by rw[<-h2.length];exact hn⟩
 go:=fun n d α' G' F' H' st' s P S o hn=>by
  obtain⟨vs,h1,h2⟩:=h α' G' st' s S o;obtain⟨v,e,_⟩:=h2.get hn;exact⟨vs,v,.inl (gv P h1),e⟩
 nN:=fun n d α' G' F' H' st' x H'' s P S o hn y=>by
  obtain⟨vs,h1,h2⟩:=h α' G' st' s S o;obtain⟨v,e,r⟩:=h2.get hn;obtain⟨rfl,y⟩:=y;have:=y vs (.inl (gv P h1));rw[e]at this;cases this;exact⟨G',Step.refl,P,S,r⟩
theorem Ji{K:PySem.W.Frag}{a:Addr}{α:List (Option Addr)}{G:Hp}{ok:ag->Prop}{xs:List D}
 (h:∀α' G' st',Step α G α' G'->aR α' st' G'->ok st'->∃vs,G' a=some (.tup vs)/\aG α' G' xs vs):tm (Il K a) α G ok xs where
 stop:=fun n α' G' F' H' st' s P S o hn=>by
  obtain⟨vs,h1,h2⟩:=h α' G' st' s S o;exact⟨vs,.of (P.get h1),by rw[<-h2.length];exact hn⟩
 go:=fun n d α' G' F' H' st' s P S o hn=>by
  obtain⟨vs,h1,h2⟩:=h α' G' st' s S o;obtain⟨v,e,_⟩:=h2.get hn;exact⟨vs,v,.of (P.get h1),e⟩
 nN:=fun n d α' G' F' H' st' x H'' s P S o hn y=>by
  obtain⟨vs,h1,h2⟩:=h α' G' st' s S o;obtain⟨v,e,r⟩:=h2.get hn;obtain⟨rfl,y⟩:=y;have:=y vs (.of (P.get h1));rw[e]at this;cases this;exact⟨G',Step.refl,P,S,r⟩
theorem Ei{α α':List (Option Addr)}{G G':Hp}{a:Addr}{vs:List V}{xs:List D}(s:Step α G α' G')(na:some a∉α)(h1:Rd G a (.lst vs))(h2:aG α G xs vs):Rd G' a (.lst vs)/\aG α' G' xs vs:=by
 refine⟨?_,h2.step s⟩;rcases h1 with h|⟨o,h⟩
 . exact .inl (s.ext _ _ na h)
 . exact .inr ⟨o,s.ext _ _ na h⟩
theorem IU{l tg:Expr}{tl:DE}(hl:PE X l (LE tl)):PI X tg l (LI (KW tl)):=by
 intro pins s σ H R I h;obtain⟨α,σd,st,K,G,F,P,RS,S,t,k⟩:=h;refine bL (hl pins s σ H (fun x H1=>∃d α1 G1 st1,Step α G α1 G1/\bQ G1 F H1/\aR α1 st1 G1/\Rep α1 G1 d x/\yM d st1 K) I ⟨α,σd,st,_,G,F,P,RS,S,t,fun d st1 q α1 G1 H1 v s1 P1 S1 r1=>⟨d,α1,G1,st1,s1,P1,S1,r1,q⟩⟩) fun v s1 ⟨x,H1,I1,rx,d,α1,G1,st1,s1',P1,S1,r1,q⟩=>?_;unfold yM at q
 have viaL:∀ {a:Addr} {vs:List V},x= .ref a->Rd H1 a (.lst vs)->R (Js X.K a) H1->wpAny (model X.prog X.w) X.A (pyIter v) (FV X pins σ tg R) X.xe s1:=by
  intro a vs ex hr hR;subst ex;cases rx;obtain⟨aq,rv,p,hz⟩:=I1.list (.inl hr);refine wpAny_pyIter_list p.isList ?_;refine⟨s1.heap.objs.size,[s1.heap.objs.size],_,_,H1,rfl,I1.kept (t':=s1.toks) fun b o e=>Heap.get?_push_of_some _ e,Ck a _,⟨_,Heap.get?_push_size _ rfl,rfl,rfl⟩,fun b hb=>?_,hR⟩;have e:b=s1.heap.objs.size:=by simpa using hb
  subst e;exact I1.sM (Nat.le_refl _) (I1.aK.fresh (Nat.le_refl _))
 have viaT:∀ {a:Addr} {vs:List V},x= .ref a->H1 a=some (.tup vs)->R (Il X.K a) H1->wpAny (model X.prog X.w) X.A (pyIter v) (FV X pins σ tg R) X.xe s1:=by
  intro a vs ex hr hR;subst ex;cases rx;obtain⟨aq,rv,p,hz⟩:=I1.tuple (hJ.of hr);refine wpAny_pyIter_tuple (show s1.heap.IsTuple a aq.toArray from p) ?_;refine⟨s1.heap.objs.size,[s1.heap.objs.size],_,_,H1,rfl,I1.kept (t':=s1.toks) fun b o e=>Heap.get?_push_of_some _ e,AB a _,⟨_,Heap.get?_push_size _ rfl,rfl,rfl⟩,fun b hb=>?_,hR⟩;have e:b=s1.heap.objs.size:=by simpa using hb
  subst e;exact I1.sM (Nat.le_refl _) (I1.aK.fresh (Nat.le_refl _))
 cases d<;>try exact q.elim
 . rename_i n;simp only at q;split at q
   . rename_i xs e;obtain⟨a,ea,vs,h1,h2⟩:=S1.i3 e;have r1':=dD ea r1;subst r1';refine viaL rfl (gv P1 (.of h1)) (k _ _ st1 q _ α1 G1 H1 s1' P1 S1 (zY fun α' G' st' s S o=>?_));obtain⟨b,eb,ws,g1,g2⟩:=S.i3 o
     have hb:b=a:=by
      rcases s.pre _ _ ea with z|z<;>(rw[z]at eb;cases eb)
      rfl
     subst hb;exact⟨ws,.of g1,g2⟩
   . exact q.elim
 . unfold Rep at r1;obtain⟨a,vs,rfl,na,ha,ra⟩:=r1;exact viaL rfl (gv P1 ha) (k _ _ st1 q _ α1 G1 H1 s1' P1 S1 (zY fun α' G' st' s S o=>⟨vs,Ei s na ha ra⟩))
 . unfold Rep at r1;obtain⟨a,vs,rfl,na,ha,ra⟩:=r1;exact viaT rfl (P1.get ha) (k _ _ st1 q _ α1 G1 H1 s1' P1 S1 (Ji fun α' G' st' s S o=>⟨vs,s.ext _ _ na ha,ra.step s⟩))
def dR(lo:Int)(n:Nat):List D:=(List.range n).map fun(k:Nat)=>D.int (lo+(k:Int))
theorem tV{lo:Int}{n k:Nat}:(dR lo n)[k]?=if k<n then some (.int (lo+(k:Int)))else none:=by
 unfold dR;rw[List.getElem?_map];by_cases h:k<n
 . rw[List.getElem?_range h,if_pos h];rfl
 . rw[List.getElem?_eq_none (by simpa using h),if_neg h];rfl
theorem gm{lo:Int}{n:Nat}:(dR lo n).length=n:=by unfold dR;simp
theorem yI{α:List (Option Addr)}{G:Hp}{lo:Int}{n:Nat}:tm (vI lo n) α G (fun _=>True) (dR lo n) where
 stop:=fun m α' G' F' H' st' s P S o hn=>by rw[gm]at hn;exact hn
 go:=fun m d α' G' F' H' st' s P S o hn=>by
  rw[tV]at hn;split at hn
  . assumption
  . cases hn
 nN:=fun m d α' G' F' H' st' x H'' s P S o hn y=>by
  obtain⟨rfl,rfl⟩:=y;rw[tV]at hn;split at hn
  . cases hn;exact⟨G',Step.refl,P,S,by unfold Rep;rfl⟩
  . cases hn
theorem PI.imp{tg iter:Expr}{t t':TI}(h:PI X tg iter t)(f:∀σ H R,t' σ H R->t σ H R):PI X tg iter t':=fun pins s σ H R I q=>h pins s σ H R I (f σ H R q)
def FD(ds:List D)(st1:ag)(K:List D->(ag->Prop)->ag->Prop):Prop:=match ds with
 | [.int j]=>(-(2^62)<=j/\j<2^62)/\K (dR 0 j.toNat) (fun _=>True) st1
 |_=>False
def FY(ds:List D)(st1:ag)(K:List D->(ag->Prop)->ag->Prop):Prop:=match ds with
 | [.int i,.int j]=>(-(2^62)<=i/\i<2^62/\ -(2^62)<=j/\j<2^62)/\K (dR i (j-i).toNat) (fun _=>True) st1
 |_=>False
def Hy(t:DA):DI:=fun σ st K=>t σ st fun ds st1=>FD ds st1 K
def HF(t:DA):DI:=fun σ st K=>t σ st fun ds st1=>FY ds st1 K
theorem Cn{tg iter:Expr}{t:DA}(h:PI X tg iter (Az (LA t))):PI X tg iter (LI (Hy t)):=PI.imp h fun σ H R ⟨α,σd,st,K,G,F,P,RS,S,t,k⟩=>by
 refine⟨α,σd,st,_,G,F,P,RS,S,t,fun ds st1 q α1 G1 H1 vs s1 P1 S1 r1=>?_⟩;match ds,q,r1 with
 | [.int j],q,r1=>
   obtain⟨v,rfl,r2⟩:=ix r1 rfl;unfold Rep at r2;subst r2;exact⟨j,rfl,q.1.1,q.1.2,k _ _ st1 q.2 _ α1 G1 H1 s1 P1 S1 yI⟩
theorem By{tg iter:Expr}{t:DA}(h:PI X tg iter (Bq (LA t))):PI X tg iter (LI (HF t)):=PI.imp h fun σ H R ⟨α,σd,st,K,G,F,P,RS,S,t,k⟩=>by
 refine⟨α,σd,st,_,G,F,P,RS,S,t,fun ds st1 q α1 G1 H1 vs s1 P1 S1 r1=>?_⟩;match ds,q,r1 with
 | [.int i,.int j],q,r1=>
   obtain⟨v,u,rfl,r2,r3⟩:=ph r1 rfl;unfold Rep at r2 r3;subst r2 r3;exact⟨i,j,rfl,q.1,k _ _ st1 q.2 _ α1 G1 H1 s1 P1 S1 yI⟩
def hO(tg:fN)(body:DS)(ok:ag->Prop)(E:mx):List D->bG->ag->Prop
 | [],σ,st=>ok st/\E.nx σ st
 |x::xs,σ,st=>ok st/\∃σ1,tg x σ=some σ1/\body {E with nx:=hO tg body ok E xs,ct:=hO tg body ok E xs,bk:=E.nx} σ1 st
def lP(src:DI)(tg:fN)(body:DS):DS:=fun D σ st=>src σ st fun xs ok st1=>hO tg body ok D xs σ st1
theorem KI{src:DI}{tg:fN}(h:PS X st (Ja (LI src) (LG tg) (LS t))):PS X st (LS (lP src tg t)):=PS.imp h fun D σ H ⟨α,σd,st,DD,G,F,P,R,S,tt,k⟩=>by
 refine⟨α,σd,st,_,G,F,P,R,S,tt,fun xs ok st1 q J α1 G1 H1 s1 P1 S1 it=>?_⟩;refine⟨fun i m σ' H'=>∃α' σd' st' G',Step α1 G1 α' G'/\bQ G' F H'/\dG α' G' σd' σ'/\aR α' st' G'/\hO tg t ok DD (xs.drop i) σd' st'/\m=xs.length-i,⟨xs.length,α1,σd,st1,G1,Step.refl,P1,R.step s1,S1,q,rfl⟩,?_⟩;rintro i m σ2 H2 ⟨α2,σd2,st2,G2,s2,P2,R2,S2,q2,rfl⟩;cases e:xs[i]? with
 |none=>
  have hl:xs.length<=i:=List.getElem?_eq_none_iff.mp e;rw[List.drop_eq_nil_of_le hl]at q2;unfold hO at q2;exact .inl ⟨it.stop i α2 G2 F H2 st2 s2 P2 S2 q2.1 hl,((k.nx.at s1).at s2).here P2 q2.2 R2 S2⟩
 |some d=>
  have hl:i<xs.length:=(List.getElem?_eq_some_iff.mp e).1
  have ed:xs.drop i=d::xs.drop (i+1):=by
   rw[List.drop_eq_getElem_cons hl];congr 1;rw[List.getElem?_eq_getElem hl]at e;exact Option.some.inj e
  rw[ed]at q2;unfold hO at q2;obtain⟨aK,σ3,e3,q3⟩:=q2;refine .inr ⟨it.go i d α2 G2 F H2 st2 s2 P2 S2 aK e,fun σ' H'=>∃α' σd' st' G',Step α1 G1 α' G'/\bQ G' F H'/\dG α' G' σd' σ'/\aR α' st' G'/\hO tg t ok DD (xs.drop (i+1)) σd' st',?_,?_⟩
  . rintro σ' H' ⟨α',σd',st',G',z1,z2,z3,z4,z5⟩;exact⟨xs.length-(i+1),by omega,α',σd',st',G',z1,z2,z3,z4,z5,rfl⟩
  . intro x H' y;obtain⟨G3,s3,P3,S3,r3⟩:=it.nN i d α2 G2 F H2 st2 x H' s2 P2 S2 aK e y;refine⟨α2,σd2,st2,d,fun σ' st'=>σ'=σ3/\st'=st2,G3,F,P3,R2.step s3,S3,r3,⟨σ3,e3,rfl,rfl⟩,?_⟩;rintro σ' st' ⟨rfl,rfl⟩ α4 G4 H4 σ4 s4 P4 R4 S4;have s24:=(s2.trans s3).trans s4;refine⟨α4,σ',st',_,G4,F,P4,R4,S4,q3,?_,((k.rt.at s1).at s24),(k.nx.at s1).at s24,?_⟩
    . intro σd5 st5 q5 α5 G5 H5 σ5 s5 P5 R5 S5;exact⟨α5,σd5,st5,G5,s24.trans s5,P5,R5,S5,q5⟩
    . intro σd5 st5 q5 α5 G5 H5 σ5 s5 P5 R5 S5;exact⟨α5,σd5,st5,G5,s24.trans s5,P5,R5,S5,q5⟩
end
def fY(fr:List (Option Nat))(σ:bG):bG:=fr.map fun o=>o.bind fun j=>(σ[j]?).join
theorem dG.comp{α:List (Option Addr)}{G:Hp}{σd:bG}{σ:L2.St}{fr:List (Option Nat)}(h:dG α G σd σ):dG α G (fY fr σd) (σC fr σ):=by
 refine⟨by unfold fY σC;simp,fun i d e=>?_⟩;unfold fY at e;rw[List.getElem?_map]at e;cases q:fr[i]? with
 |none=>rw[q]at e;cases e
 |some o=>
  rw[q]at e;cases o with
  |none=>simp at e
  |some j=>
   simp only[Option.map_some,Option.some.injEq,Option.bind_some]at e
   have ej:σd[j]?=some (some d):=by
    cases r:σd[j]? with
    |none=>rw[r]at e;cases e
    |some u=>rw[r]at e;simp at e;rw[e]
   obtain⟨v,ev,rv⟩:=h.at' j d ej;refine⟨v,?_,rv⟩;unfold σC;rw[List.getElem?_map,q];simp[ev]
def cR(tg:fN)(c:DT)(te:DE)(ok:ag->Prop)(σc:bG):List D->List D->ag->(List D->ag->Prop)->Prop
 | [],acc,st,K=>ok st/\K acc st
 |x::xs,acc,st,K=>ok st/\∃σ2,tg x σc=some σ2/\c σ2 st fun b st1=>if b=true then te σ2 st1 fun y st2=>cR tg c te ok σc xs (acc++[y]) st2 K else cR tg c te ok σc xs acc st1 K
def eK(src:DI)(fr:List (Option Nat))(tg:fN)(c:DT)(te:DE):DE:=fun σ st K=>src σ st fun xs ok st1=>xs.length<=sizeLine/\cR tg c te ok (fY fr σ) xs [] st1 fun ys st2=>K (.lst ys) st2
def qy(src:DI)(fr:List (Option Nat))(tg:fN)(c:DT)(te:DE):DE:=fun σ st K=>src σ st fun xs ok st1=>xs.length<=sizeLine/\cR tg c te ok (fY fr σ) xs [] st1 fun ys st2=>K (.ref st2.length) (st2++[.lst ys])
def cN:DT:=fun _ st K=>K true st
def sJ(fr:List (Option Nat))(tg:fN):Prop:=∀(σ:bG) (d:D) (σ2:bG),tg d (fY fr σ)=some σ2->σ2.length=(fY fr σ).length/\∀(i:Nat) (e:D),(fY fr σ)[i]?=some (some e)->σ2[i]?=some (some e)
theorem qu{fr:List (Option Nat)}{σ:bG}{k:Nat}(h:fr[k]?=some none){e:D}(q:(fY fr σ)[k]?=some (some e)):False:=by
 unfold fY at q;rw[List.getElem?_map,h]at q;simp at q
theorem cU{fr:List (Option Nat)}{k:Nat}(h:fr[k]?=some none:=by rfl):sJ fr (cq k):=fun σ d σ2 e=>by
 cases e;refine⟨List.length_set,fun i x q=>?_⟩;by_cases hi:i=k
 . subst hi;exact(qu h q).elim
 . rw[List.getElem?_set_ne (Ne.symm hi)];exact q
theorem GN{fr:List (Option Nat)}{k j:Nat}(h:fr[k]?=some none:=by rfl)(h':fr[j]?=some none:=by rfl):sJ fr (mv k j):=fun σ d σ2 e=>by
 unfold mv at e;split at e
 . cases e;refine⟨by rw[List.length_set,List.length_set],fun i x q=>?_⟩;by_cases hi:i=k
   . subst hi;exact(qu h q).elim
   . by_cases hj:i=j
     . subst hj;exact(qu h' q).elim
     . rw[List.getElem?_set_ne (Ne.symm hj),List.getElem?_set_ne (Ne.symm hi)];exact q
 . cases e
section
variable {X:Cx}
theorem Jv{c:Expr}{t:DT}(h:PT X c (LT t)):qF X [c] (LT t):=GK h
theorem D_:qF X [] (LT cN):=fun pins s σ H Q I ⟨α,σd,st,K,G,F,P,R,S,t,k⟩=>F9 pins s σ H Q I (k true st t α G H Step.refl P S)
theorem LE.comp{src:DI}{fr:List (Option Nat)}{tg:fN}{c:DT}{te:DE}(fit:sJ fr tg){σ:L2.St}{H:Hp}{Q:VK}{α:List (Option Addr)}{σd:bG}{st:ag}{KE:List D->ag->Prop}{G F:Hp}(P:bQ G F H)(R:dG α G σd σ)(S:aR α st G)
 (t:src σd st fun xs ok st1=>xs.length<=sizeLine/\cR tg c te ok (fY fr σd) xs [] st1 KE)
 (fin:∀ys st2 α2 G2 H2 l vs,KE ys st2->Step α G α2 G2->bQ G2 (upd F l (.lst vs)) H2->F l=none->aR α2 st2 G2->aG α2 G2 ys vs->Q (.ref l) H2):
 uA (LI src) fr (LG tg) (LT c) (LE te) σ H Q:=by
 refine⟨α,σd,st,_,G,F,P,R,S,t,fun xs ok st1 q J α1 G1 H1 s1 P1 S1 it l hl=>?_⟩;obtain⟨hsz,q⟩:=q;obtain⟨hG,hF⟩:=P1.none hl
 refine⟨fun i m σ' H'=>∃α' st' G' acc vs,Step α1 G1 α' G'/\bQ G' (upd F l (.lst vs)) H'/\dG α' G' (fY fr σd) σ'/\aR α' st' G'/\aG α' G' acc vs/\acc.length<=i/\i<=xs.length/\cR tg c te ok (fY fr σd) (xs.drop i) acc st' KE/\m=xs.length-i,
  ⟨xs.length,α1,st1,G1,[],[],Step.refl,P1.hide hl,(R.step s1).comp,S1,by unfold aG;rfl,Nat.le_refl _,Nat.zero_le _,q,rfl⟩,?_⟩
 rintro i m σ2 H2 ⟨α2,st2,G2,acc,vs,s2,P2,R2,S2,ra,hacc,hi,q2,rfl⟩;cases e:xs[i]? with
 |none=>
  have hl2:xs.length<=i:=List.getElem?_eq_none_iff.mp e;rw[List.drop_eq_nil_of_le hl2]at q2;unfold cR at q2;exact .inl ⟨it.stop i α2 G2 _ H2 st2 s2 P2 S2 q2.1 hl2,fin acc st2 α2 G2 H2 l vs q2.2 (s1.trans s2) P2 hF S2 ra⟩
 |some d=>
  have hl2:i<xs.length:=(List.getElem?_eq_some_iff.mp e).1
  have ed:xs.drop i=d::xs.drop (i+1):=by
   rw[List.drop_eq_getElem_cons hl2];congr 1;rw[List.getElem?_eq_getElem hl2]at e;exact Option.some.inj e
  rw[ed]at q2;unfold cR at q2;obtain⟨aK,σ3,e3,q3⟩:=q2;refine .inr ⟨it.go i d α2 G2 _ H2 st2 s2 P2 S2 aK e,fun σ' H'=>∃α' st' G' acc vs,Step α1 G1 α' G'/\bQ G' (upd F l (.lst vs)) H'/\dG α' G' (fY fr σd) σ'/\aR α' st' G'/\aG α' G' acc vs/\acc.length<=i+1/\cR tg c te ok (fY fr σd) (xs.drop (i+1)) acc st' KE,?_,?_⟩
  . rintro σ' H' ⟨α',st',G',acc',vs',z1,z2,z3,z4,z5,z6,z7⟩;exact⟨xs.length-(i+1),by omega,α',st',G',acc',vs',z1,z2,z3,z4,z5,z6,hl2,z7,rfl⟩
  . intro x H' y;obtain⟨G3,s3,P3,S3,r3⟩:=it.nN i d α2 G2 _ H2 st2 x H' s2 P2 S2 aK e y;refine⟨α2,fY fr σd,st2,d,fun σ' st'=>σ'=σ3/\st'=st2,G3,_,P3,R2.step s3,S3,r3,⟨σ3,e3,rfl,rfl⟩,?_⟩;rintro σ' st' ⟨rfl,rfl⟩ α4 G4 H4 σ4 s4 P4 R4 S4;have s24:=(s2.trans s3).trans s4;have Rc:dG α4 G4 (fY fr σd) σ4:=⟨by rw[<-(fit σd d σ' e3).1];exact R4.len,fun j z hz=>R4.at' j z ((fit σd d σ' e3).2 j z hz)⟩
    refine⟨α4,σ',st',_,G4,_,P4,R4,S4,q3,fun b st5 q5 α5 G5 H5 s5 P5 S5=>?_⟩;cases b with
    |false=>exact⟨α5,st5,G5,acc,vs,s24.trans s5,P5,Rc.step s5,S5,((ra.step s3).step s4).step s5,by omega,q5⟩
    |true=>
     refine⟨α5,σ',st5,_,G5,_,P5,R4.step s5,S5,q5,fun z st6 q6 α6 G6 H6 v6 s6 P6 S6 r6=>?_⟩;have hr:=(((ra.step s3).step s4).step s5).step s6;refine⟨vs,(P6.frame aY).1,by rw[<-hr.length];omega,α6,st6,G6,acc++[z],vs++[v6],(s24.trans s5).trans s6,?_,(Rc.step s5).step s6,S6,a_.mpr (fm (a_.mp hr) (.cons r6 .nil)),by rw[List.length_append,List.length_singleton];omega,q6⟩;have:=P6.Ob (p:=l) (o':= .lst (vs++[v6])) aY;rw[HE]at this;exact this
theorem KG{scope:Scope}{Nc:List Str}{elt tg iter:Expr}{ifs:List Expr}{pos:Pos}{src:DI}{fr:List (Option Nat)}{dtg:fN}{c:DT}{te:DE}(S:bU X scope Nc fr)(hi:PI X tg iter (LI src))
 (hg:∀C s H ex,PG (fj X scope Nc C s H ex) tg (LG dtg)) (ht:∀C s H ex,qF (fj X scope Nc C s H ex) ifs (LT c)) (he:∀C s H ex,PE (fj X scope Nc C s H ex) elt (LE te)) (fit:sJ fr dtg)
 (hx:X.xe=fun _ _=>False:=by rfl) (hc:X.calm=true:=by rfl) (hs:∀x,foldedSetIterable iter X.env x=pure x:=by intro _;rfl):PE X (.ListComp elt [⟨tg,iter,ifs,0⟩] scope pos) (LE (eK src fr dtg c te)):=
 PE.imp (zy hx hc S hi hg ht he hs) fun σ H Q ⟨α,σd,st,K,G,F,P,R,S,t,k⟩=>LE.comp fit P R S t fun ys st2 α2 G2 H2 l vs q s2 P2 hl S2 r=>by
  have hg:G2 l=none:=(P2.frame aY).2;refine k _ st2 q α2 (upd G2 l (.lst vs)) H2 (.ref l) (s2.trans (Step.laid hg)) (P2.show hl) (S2.laid hg) ?_;unfold Rep;exact⟨l,vs,rfl,S2.j4 hg,.of aY,r.step (Step.laid hg)⟩
theorem Gi{scope:Scope}{Nc:List Str}{elt tg iter:Expr}{ifs:List Expr}{pos:Pos}{src:DI}{fr:List (Option Nat)}{dtg:fN}{c:DT}{te:DE}(S:bU X scope Nc fr)(hi:PI X tg iter (LI src))
 (hg:∀C s H ex,PG (fj X scope Nc C s H ex) tg (LG dtg)) (ht:∀C s H ex,qF (fj X scope Nc C s H ex) ifs (LT c)) (he:∀C s H ex,PE (fj X scope Nc C s H ex) elt (LE te)) (fit:sJ fr dtg)
 (hx:X.xe=fun _ _=>False:=by rfl) (hc:X.calm=true:=by rfl) (hs:∀x,foldedSetIterable iter X.env x=pure x:=by intro _;rfl):PE X (.ListComp elt [⟨tg,iter,ifs,0⟩] scope pos) (LE (qy src fr dtg c te)):=
 PE.imp (zy hx hc S hi hg ht he hs) fun σ H Q ⟨α,σd,st,K,G,F,P,R,S,t,k⟩=>LE.comp fit P R S t fun ys st2 α2 G2 H2 l vs q s2 P2 hl S2 r=>by
  have hg:G2 l=none:=(P2.frame aY).2;refine k _ _ q (α2++[some l]) (upd G2 l (.lst vs)) H2 (.ref l) (s2.trans (Step.cell hg)) (P2.show hl) (S2.cell hg ⟨vs,aY,r.step (Step.cell hg)⟩) ?_;unfold Rep;refine .inr ⟨l,?_,rfl⟩;rw[List.getElem?_append_right (by rw[S2.len];exact Nat.le_refl _),S2.len,Nat.sub_self];rfl
theorem Hv{st:Stmt}{k:Nat}{src:DI}{fr:List (Option Nat)}{dtg:fN}{c:DT}{te:DE}(fit:sJ fr dtg)(h:PS X st (pq (uA (LI src) fr (LG dtg) (LT c) (LE te)) (mi k))):PS X st (LS (bf k (eK src fr dtg c te))):=
 PS.imp h fun D σ H ⟨α,σd,st,DD,G,F,P,R,S,t,q⟩=>LE.comp fit P R S t fun ys st2 α2 G2 H2 l vs qq s2 P2 hl S2 r=>by
  have hg:G2 l=none:=(P2.frame aY).2;have s3:=s2.trans (Step.laid (o:= .lst vs) hg);refine q.nx _ st2 qq α2 (upd G2 l (.lst vs)) H2 _ s3 (P2.show hl) ((R.step s3).set k ?_) (S2.laid hg);unfold Rep;exact⟨l,vs,rfl,S2.j4 hg,.of aY,r.step (Step.laid hg)⟩
def aT(N:List Str)(ds:List D):bG:=ds.map some++List.replicate (N.length-ds.length) none
theorem dG.start{α:List (Option Addr)}{G:Hp}{N:List Str}{ds:List D}{vs:List V}(r:aG α G ds vs):dG α G (aT N ds) (L2.start N vs):=by
 have hl:=r.length;refine⟨by unfold aT L2.start;simp[hl],fun i d e=>?_⟩;unfold aT at e;by_cases hi:i<ds.length
 . rw[List.getElem?_append_left (by simpa using hi),List.getElem?_map]at e;cases q:ds[i]? with
   |none=>rw[q]at e;cases e
   |some x=>
    rw[q]at e;cases e;obtain⟨v,ev,rv⟩:=r.get q;refine⟨v,?_,rv⟩;unfold L2.start;rw[List.getElem?_append_left (by rw[List.length_map];omega),List.getElem?_map,ev];rfl
 . rw[List.getElem?_append_right (by simpa using hi),List.getElem?_replicate]at e;split at e<;>cases e
theorem Mg{P:Program}{w:World}{K:PySem.W.Frag}{mg:Str->Option Value}{base:Heap}{x qual:Str}{st:Stmt}{f:Addr}{fd:FuncData}{N ps:List Str}{k:Nat}{sp:b_}{t:DS}(F:mX K x qual st f fd)(S:aN N ps (ai st))
 (hbody:∀(cdv:Value) (A:Around) (outer:List Env) (s:Shared) (H:Hp) (E:XK),cC k (A.deeper (envOfC qual (ai st) s.heap.objs.size f cdv))->gd (pM ck P w K mg base N qual (ai st) f cdv A outer s H E).uw (fV st) (LS t))
 (hsp:∀ds st K,sp ds st K->ds.length=ps.length/\t {nx:=fun _ st'=>K .aE st',rt:=K} (aT N ds) st):a9 P w K mg base ck (k+1) f fd ps (cn sp):=by
 refine F.ok S (fun vs H Q E h=>?_) fun cdv A outer s H vs Q E hr h=>⟨_,hbody cdv A outer s H E hr,?_⟩
 . obtain⟨α,ds,st,K,G,F,P,r,S,q,k⟩:=h;rw[<-r.length];exact(hsp ds st K q).1
 . obtain⟨α,ds,st,K,G,F,P,r,S,q,k⟩:=h;refine⟨α,aT N ds,st,_,G,F,P,dG.start r,S,(hsp ds st K q).2,?_,k,?_,?_⟩
   . intro σd' st' kk α' G' H' σ' s' P' R' S';exact k .aE st' kk α' G' H' .aE s' P' S' (by unfold Rep;rfl)
   . intro σd' st' kk;exact kk.elim
   . intro σd' st' kk;exact kk.elim
def oW(to te:DE):DE:=fun σ st K=>to σ st fun x st1=>match x with
 | .ref n=>(match st1[n]? with
   |some (.lst _)=>te σ st1 fun y st2=>∃y',[y]=[y']/\(match st2[n]? with|some (.lst xs)=>xs.length<sizeLine/\K .aE (st2.set n (.lst (xs++[y'])))|_=>False)
   |_=>False)
 |_=>False
end
structure bo(K:PySem.W.Frag)(mg:Str->Option Value)(x qual:Str)(st:Stmt)(ps:List Str)(f:Addr)(fd:FuncData):Prop where
 fn:mX K x qual st f fd
 mg:mg x=some (.ref f)
 bd:Binds K fd ps []
def CQ(sc:Scope)(N:List Str)(scope:Scope)(Nc:List Str)(fr:List (Option Nat)):Bool:=
 (scope.kind== .function)&&scope.names.all (fun x=>x.2 != .cell||scope.names.lookup x.1==some .cell)&&scope.names.all (fun x=>x.2 != .local||scope.names.lookup x.1==some .local)&&
 scope.names.all (fun x=>x.2 != .free||sc.names.lookup x.1==some .cell||sc.names.lookup x.1==some .free)&&(fr.length==Nc.length)&&
 (List.range fr.length).all fun i=>match fr[i]?,Nc[i]? with
   |some (some j),some x=>(N[j]?==some x)&&(scope.names.lookup x==some .free)&&(sc.names.lookup x==some .cell||sc.names.lookup x==some .free)
   |_,_=>true
theorem bU.look{X:Cx}{scope:Scope}{Nc:List Str}{fr:List (Option Nat)}(sc:Scope)(N:List Str)(h:CQ sc N scope Nc fr=true)(hsc:X.env.scope=sc:=by rfl)(hN:X.N=N:=by rfl):bU X scope Nc fr:=by
 unfold CQ at h;simp only[Bool.and_eq_true]at h;obtain⟨⟨⟨⟨⟨h1,h2⟩,h3⟩,h4⟩,h5⟩,h6⟩:=h;subst hsc hN;refine⟨by simpa using h1,fun x hx hk=>?_,fun x hx hk=>?_,fun x hx hk=>?_,by simpa using h5,fun i j x e1 e2=>?_⟩
 . have:=List.all_eq_true.mp h2 x hx;rw[hk]at this;simpa using this
 . have:=List.all_eq_true.mp h3 x hx;rw[hk]at this;simpa using this
 . have:=List.all_eq_true.mp h4 x hx;rw[hk]at this;have z:X.env.scope.names.lookup x.1=some .cell\/X.env.scope.names.lookup x.1=some .free:=by simpa using this
   exact z
 . have hi:i<fr.length:=(List.getElem?_eq_some_iff.mp e2).1;have:=List.all_eq_true.mp h6 i (List.mem_range.mpr hi);rw[e1,e2]at this;simp only[Bool.and_eq_true,Bool.or_eq_true,beq_iff_eq]at this;exact⟨this.1.1,this.1.2,this.2⟩
section
variable {X:Cx}
theorem ND{e:Expr}{es:List Expr}{pos p:Pos}{x:Str}{id:String}{r:fT}{t:DA}(hc:cf X (.builtin id) (ip r))(ha:PA X (e::es) (LA t))(hm:X.mg x=none)(hv:bootBuiltins x=some (.builtin id))(hg:Gl X x:=by rfl)(hn:x≠"__name__":=by decide)(hdb:(x==("__debug__":Str))=false:=by decide)
 (he:starEach (e::es) X.env=(false,eval e X.env)::starEach es X.env:=by rfl) (hpl:(backTo pos (starEach es X.env)).any (·.1)=false:=by rfl):PE X (.Call (.Name x p) (e::es) [] pos) (LE (bZ r t)):=PE.imp (DY hc hg hm hv ha hn hdb he hpl) fun _ _ _ h=>LE.cb h
theorem M9{e:Expr}{es:List Expr}{pos p:Pos}{x:Str}{T:String}{r:fT}{t:DA}(hc:cf X (.type T) (ip r))(ha:PA X (e::es) (LA t))(hm:X.mg x=none)(hv:bootBuiltins x=some (.type T))(hg:Gl X x:=by rfl)(hn:x≠"__name__":=by decide)(hdb:(x==("__debug__":Str))=false:=by decide)
 (he:starEach (e::es) X.env=(false,eval e X.env)::starEach es X.env:=by rfl) (hpl:(backTo pos (starEach es X.env)).any (·.1)=false:=by rfl):PE X (.Call (.Name x p) (e::es) [] pos) (LE (bZ r t)):=PE.imp (BH hc hg hm hv ha hn hdb he hpl) fun _ _ _ h=>LE.cb h
theorem Nr{pos:Pos}{x:Str}{T:String}(hm:X.mg x=none)(hv:bootBuiltins x=some (.type T))(hg:Gl X x:=by rfl)(hn:x≠"__name__":=by decide)(hdb:(x==("__debug__":Str))=false:=by decide):PE X (.Name x pos) (LE (dC (.ty T))):=
 oE (v:= .ty T) (Gm hg hm hv rfl hn hdb) fun _ _=>by unfold Rep;rfl
theorem Nk{e:Expr}{es:List Expr}{pos p:Pos}{x qual:Str}{st:Stmt}{ps:List Str}{f:Addr}{fd:FuncData}{k:Nat}{S:b_}{t:DA}(A:bo X.K X.mg x qual st ps f fd)(F:a9 X.prog X.w X.K X.mg X.base ck k f fd ps (cn S))(hr:cC k X.A)
 (ha:PA X (e::es) (LA t)) (hg:Gl X x:=by rfl) (hdb:(x==("__debug__":Str))=false:=by decide) (he:starEach (e::es) X.env=(false,eval e X.env)::starEach es X.env:=by rfl) (hpl:(backTo pos (starEach es X.env)).any (·.1)=false:=by rfl):
 PE X (.Call (.Name x p) (e::es) [] pos) (LE (aB S t)):=KJ F hr hg A.mg A.fn.kp A.bd ha hdb he hpl
def Iz(d:D)(b:Bool):Bool:=match d with| .bl c=>c==b|_=>false
def MR(d:D):Bool:=match d with| .aE=>true|_=>false
theorem GH{α:List (Option Addr)}{H:Hp}{st:ag}{d:D}{v:V}{u:Value}{b:Bool}(S:aR α st H)(hl:live st d=true)(r:Rep α H d v)(ru:RelV v u):(u==Value.bool b)=Iz d b:=by
 cases d
 case ref n=>
  obtain⟨a,rfl⟩:=xY S hl r;cases ru;rfl
 all_goals unfold Rep at r
 case bl c=>
  subst r;cases ru;cases c<;>cases b<;>rfl
 all_goals first
  |(subst r;first|(cases ru;rfl)|(obtain⟨t,rfl⟩:=ru;rfl))
  |(obtain⟨a,vs,rfl,_⟩:=r;cases ru;rfl)
theorem LE.append{to te:DE}{σ:L2.St}{H:Hp}{Q:VK}(h:LE (oW to te) σ H Q):MJ X.K "list" zO (LE to) (LA (af te ao)) σ H Q:=by
 obtain⟨α,σd,st,K,G,F,P,R,S,t,k⟩:=h;refine⟨α,σd,st,_,G,F,P,R,S,t,fun x st1 q α1 G1 H1 v s1 P1 S1 r1=>?_⟩;cases x<;>try exact q.elim
 rename_i n;simp only at q;split at q
 . rename_i ys e;obtain⟨p,ep,vs,h1,h2⟩:=S1.i3 e;have r1':=dD ep r1;subst r1';refine⟨.inl ⟨rfl,vs,.inl (.of (P1.get h1))⟩,α1,σd,st1,fun ds st2=>∃y,ds=[y]/\(match st2[n]? with|some (.lst xs)=>xs.length<sizeLine/\K .aE (st2.set n (.lst (xs++[y])))|_=>False),G1,F,P1,R.step s1,S1,?_,?_⟩
   . refine Eq.mp ?_ q;rfl
   . rintro ds st2 ⟨y,rfl,q2⟩ α2 G2 H2 ws s2 P2 S2 r2;obtain⟨w,rfl,rw'⟩:=ix r2 rfl;split at q2
     . rename_i xs e2;obtain⟨p2,ep2,us,g1,g2⟩:=S2.i3 e2
       have:p2=p:=by
        rcases s2.pre _ _ ep with z|z<;>(rw[z]at ep2;cases ep2)
        rfl
       subst this;have hm:some p2∈α2:=List.mem_of_getElem? ep2;refine⟨p2,us,w,rfl,rfl,P2.get g1,by rw[<-g2.length];exact q2.1,?_⟩;refine((k.at s1).at s2) _ _ q2.2 α2 (upd G2 p2 (.lst (us++[w]))) _ .aE (Step.write hm) (P2.write g1) ?_ (by unfold Rep;rfl);exact S2.write ep2 ⟨us++[w],aY,(a_.mpr (fm (a_.mp g2) (.cons rw' .nil))).step (Step.write hm)⟩
     . exact q2.elim
 . exact q.elim
theorem EB{o e:Expr}{to te:DE}{apos cpos:Pos}(ho:PE X o (LE to))(he:PE X e (LE te))(hbase:attributeBase o "append" X.env (eval o X.env)=eval o X.env:=by rfl)
 (hfew:((backTo cpos (starEach [e] X.env)).all (fun x=> !x.1)&&(backToKw cpos (keywordEach [] X.env)).all (fun x=>x.1.isSome)
   &&decide (([e]:List Expr).length+([]:List Keyword).length+(if([]:List Keyword).isEmpty then 0 else 1)<30))=true:=by rfl)
 (hline:(apos.endLine==cpos.line)=true:=by rfl) (hs:starEach [e] X.env=(false,eval e X.env)::starEach [] X.env:=by rfl) (hplain:(backTo cpos (starEach [] X.env)).any (·.1)=false:=by rfl):PE X (.Call (.Attribute o "append" apos) [e] [] cpos) (LE (oW to te)):=
 PE.imp (Lf PySem.F.plainAttrs_list PySem.F.slot_list_append PySem.F.type_list_append vX ho (uW he yR hs) hbase hfew hline hs hplain) fun _ _ _ h=>LE.append h
end
end L3
namespace L3
open PySem L2
open PySem.Spec hiding items?
open PyProof.Rows hiding St
section
variable {X:Cx}
@[irreducible] def fL:cZ:=FF
theorem iu:bS X (binaryOp .Add) (LR fL):=by unfold fL;exact Ln
@[irreducible] def qX:cZ:=FK
theorem wA:bS X (binaryOp .Sub) (LR qX):=by unfold qX;exact Lv
@[irreducible] def dg:cZ:=Fp
theorem d5:bS X (binaryOp .Mult) (LR dg):=by unfold dg;exact L_
@[irreducible] def rL:cZ:=CZ
theorem CM:bS X (binaryOp .FloorDiv) (LR rL):=by unfold rL;exact Kq
@[irreducible] def jh:cZ:=Fu
theorem nD:bS X (binaryOp .Mod) (LR jh):=by unfold jh;exact LD
@[irreducible] def x8:cZ:=FA
theorem KZ:bS X (binaryOp .Pow) (LR x8):=by unfold x8;exact LB
@[irreducible] def qi:cZ:=Jq
theorem Ba:bS X (compareOp .Lt) (LR qi):=by unfold qi;exact Ny
@[irreducible] def qH:cZ:=Kw
theorem Bb:bS X (compareOp .Gt) (LR qH):=by unfold qH;exact M6
@[irreducible] def yb:cZ:=Jm
theorem M_:bS X (compareOp .GtE) (LR yb):=by unfold yb;exact M7
@[irreducible] def sI:cZ:=JQ
theorem Ep:bS X (compareOp .NotEq) (LR sI):=by unfold sI;exact MV
@[irreducible] def iK:cZ:=Ih
theorem jO{k:Nat}(hr:cC k X.A):bS X (compareOp .Eq) (LR iK):=by unfold iK;exact Nj hr
@[irreducible] def iN:xO:=FU
theorem L9:zU X (unaryOp .USub) (FN iN):=by unfold iN;exact Lk
@[irreducible] def aS:cZ:=pJ
theorem M1{a b:Expr}{ta tb:DE}{pos:Pos}(ha:PE X a (LE ta))(hb:PE X b (LE tb))(hs:rO b:=by intro _ _;rfl):PE X (.Subscript a b pos) (LE (aw aS ta tb)):=by unfold aS;exact Nu ha hb hs
@[irreducible] def eP:fT:=wH
theorem d9:cf X (.builtin "len") (ip eP):=by unfold eP;exact LH
@[irreducible] def pw:fT:=AD
theorem uq:cf X (.builtin "abs") (ip pw):=by unfold pw;exact K3
@[irreducible] def w9:fT:=Am
theorem KS:cf X (.type "int") (ip w9):=by unfold w9;exact Lz
@[irreducible] def c5:fT:=rB
theorem c8:cf X (.type "tuple") (ip c5):=by unfold c5;exact GQ
@[irreducible] def nJ:fT:=uI
theorem uy:cf X (.type "list") (ip nJ):=by unfold nJ;exact Kn
@[irreducible] def oM:fT:=rm
theorem zM:cf X (.type "list") (ip oM):=by unfold oM;exact HP
@[irreducible] def q_:fT:=wL
theorem wN(hc:X.calm=true):cf X (.builtin "all") (ip q_):=by unfold q_;exact LJ hc
@[irreducible] def pL:fT:=uK
theorem AQ:cf X (.builtin "isinstance") (ip pL):=by unfold pL;exact Lg
@[irreducible] def vp:D->ag->(List D->(ag->Prop)->ag->Prop)->Prop:=yM
def fz(t:DE):DI:=fun σ st K=>t σ st fun d st1=>vp d st1 K
theorem JY{l tg:Expr}{tl:DE}(hl:PE X l (LE tl)):PI X tg l (LI (fz tl)):=by unfold fz vp;exact IU hl
@[irreducible] def wK:List D->ag->(List D->(ag->Prop)->ag->Prop)->Prop:=FD
@[irreducible] def wQ:List D->ag->(List D->(ag->Prop)->ag->Prop)->Prop:=FY
def gJ(t:DA):DI:=fun σ st K=>t σ st fun ds st1=>wK ds st1 K
def rJ(t:DA):DI:=fun σ st K=>t σ st fun ds st1=>wQ ds st1 K
theorem CP{tg iter:Expr}{t:DA}(h:PI X tg iter (Az (LA t))):PI X tg iter (LI (gJ t)):=by unfold gJ wK;exact Cn h
theorem Dz{tg iter:Expr}{t:DA}(h:PI X tg iter (Bq (LA t))):PI X tg iter (LI (rJ t)):=by unfold rJ wQ;exact By h
@[irreducible] def xG:D->D->D->ag->(ag->Prop)->Prop:=Av
def eG(to ti te:DE):DS:=fun D σ st=>te σ st fun d st1=>to σ st1 fun x st2=>ti σ st2 fun y st3=>xG x y d st3 fun st4=>D.nx σ st4
theorem D4{st:Stmt}{to ti te:DE}(h:PS X st (pq (LE te) (AX (LE to) (LE ti) wX))):PS X st (LS (eG to ti te)):=by unfold eG xG;exact DZ h
end
section
variable {st:ag}{K:DK}{i j:Int}{b c:Bool}{xs ys:List D}{d e:D}{n:Nat}
theorem gE(k:K (.int (i+j)) st):fL (.int i) (.int j) st K:=by unfold fL;exact k
theorem GF(h:xs.length+ys.length<=sizeLine)(k:K (.lst (xs++ys)) st):fL (.lst xs) (.lst ys) st K:=by unfold fL;exact⟨h,k⟩
theorem tX(k:K (.int (i-j)) st):qX (.int i) (.int j) st K:=by unfold qX;exact⟨trivial,k⟩
theorem dB(h:IntMulOk i j)(k:K (.int (i*j)) st):dg (.int i) (.int j) st K:=by unfold dg;exact⟨h,k⟩
theorem Hq(h: -(2^63)<=i/\i<2^63/\xs.length*i.toNat<=sizeLine)(k:K (.lst (List.replicate i.toNat xs).flatten) st):dg (.lst xs) (.int i) st K:=by unfold dg;exact⟨h,k⟩
theorem F6(h: -(2^63)<=i/\i<2^63/\xs.length*i.toNat<=sizeLine)(k:K (.tup (List.replicate i.toNat xs).flatten) st):dg (.tup xs) (.int i) st K:=by unfold dg;exact⟨h,k⟩
theorem zF(h0:j≠0)(h:j.natAbs.log2<9000)(k:K (.int (i.fdiv j)) st):rL (.int i) (.int j) st K:=by unfold rL;exact⟨⟨h0,h⟩,k⟩
theorem lE(h0:j≠0)(k:K (.int (i.fmod j)) st):jh (.int i) (.int j) st K:=by unfold jh;exact⟨h0,k⟩
theorem Im(h:EM i j)(k:K (.int (i^j.toNat)) st):x8 (.int i) (.int j) st K:=by unfold x8;exact⟨h,k⟩
theorem FO(k:K (.bl (decide (i<j))) st):qi (.int i) (.int j) st K:=by unfold qi;exact⟨trivial,k⟩
theorem Fl(k:K (.bl (decide (j<i))) st):qH (.int i) (.int j) st K:=by unfold qH;exact⟨trivial,k⟩
theorem Fg(k:K (.bl (decide (j<=i))) st):yb (.int i) (.int j) st K:=by unfold yb;exact⟨trivial,k⟩
theorem Fw(k:K (.bl (!decide (i=j))) st):sI (.int i) (.int j) st K:=by unfold sI;exact k
theorem pe(h1:pl 40 d=true)(h2:pl 40 e=true)(k:K (.bl (cx d e)) st):iK d e st K:=by unfold iK;exact⟨h1,h2,k⟩
theorem Hc(a b:Int):(a==b)=decide (a=b):=by
 by_cases h:a=b
 . subst h;simp
 . simp[h]
theorem yr(k:K (.bl (decide (i=j))) st):iK (.int i) (.int j) st K:=by
 refine pe rfl rfl ?_;have:cx (.int i) (.int j)=decide (i=j):=by unfold cx;exact Hc i j
 rw[this];exact k
theorem il(k:K (.int (-i)) st):iN (.int i) st K:=by unfold iN;exact k
theorem Ej(h:items? st d=some xs)(a:dP xs i=some e)(k:K e st):pJ d (.int i) st K:=by
 cases d<;>unfold items? at h<;>first
  |(cases h;done)
  |(cases h;simp only[pJ,a];exact k)
  |(simp only at h
    split at h
    . rename_i q;cases h;simp only[pJ,q,a];exact k
    . cases h)
theorem ay(h:items? st d=some xs)(a:dP xs i=some e)(k:K e st):aS d (.int i) st K:=by unfold aS;exact Ej h a k
theorem dA(h:items? st d=some xs)(k:K (.int xs.length) st):eP [d] st K:=by
 unfold eP wH;split
 . rename_i z;cases z;cases h
 . rename_i z;cases z;rw[h];exact k
 . rename_i z1 z2;exact absurd rfl (z2 d)
theorem Hl(i:Int):(if i<0 then-i else i)=((i.natAbs:Nat):Int):=by split<;>omega
theorem qJ(k:K (.int ((i.natAbs:Nat):Int)) st):pw [.int i] st K:=by unfold pw;show K (.int (if i<0 then-i else i)) st;rw[Hl];exact k
theorem zp(k:K (.int (if b then 1 else 0)) st):w9 [.bl b] st K:=by unfold w9;exact k
theorem cK(h:items? st d=some xs)(k:K (.tup xs) st):c5 [d] st K:=by unfold c5 rB;simp only[h];exact k
theorem rT(h:items? st d=some xs)(k:K (.lst xs) st):nJ [d] st K:=by unfold nJ uI;simp only[h];exact k
theorem xp(h:items? st d=some xs)(k:K (.ref st.length) (st++[.lst xs])):oM [d] st K:=by unfold oM rm;simp only[h];exact k
theorem tT{bs:List Bool}(h:iW xs=some bs)(k:K (.bl (bs.all id)) st):q_ [.lst xs] st K:=by unfold q_ wL;simp only[h];exact k
theorem x5{t c:String}(h:eL st d=some t)(hc:c∈kB)(k:K (.bl (qd t c)) st):pL [d,.ty c] st K:=by unfold pL uK;simp only[h];exact⟨hc,k⟩
theorem Hu{t:String}{cs:List D}{cl:List String}(h:eL st d=some t)(h2:mD cs=some cl)(hc:∀c∈cl,c∈kB)(k:K (.bl (cl.any (qd t))) st):pL [d,.tup cs] st K:=by unfold pL uK;simp only[h,h2];exact⟨hc,k⟩
theorem rg{K:List D->(ag->Prop)->ag->Prop}(h:items? st d=some xs)(k:∀ok:ag->Prop,ok st->K xs ok st):vp d st K:=by
 unfold vp yM
 cases d<;>unfold items? at h<;>first
  |(cases h;done)
  |(cases h;exact k _ trivial)
  |(simp only at h
    split at h
    . rename_i q;cases h;simp only[q];exact k _ q
    . cases h)
theorem iE{K:List D->(ag->Prop)->ag->Prop}(k:K xs (fun _=>True) st):vp (.tup xs) st K:=by unfold vp;exact k
theorem kv{K:List D->(ag->Prop)->ag->Prop}(h: -(2^62)<=j/\j<2^62)(k:K (dR 0 j.toNat) (fun _=>True) st):wK [.int j] st K:=by unfold wK;exact⟨h,k⟩
theorem GZ{K:List D->(ag->Prop)->ag->Prop}(h: -(2^62)<=i/\i<2^62/\ -(2^62)<=j/\j<2^62)(k:K (dR i (j-i).toNat) (fun _=>True) st):wQ [.int i,.int j] st K:=by unfold wQ;exact⟨h,k⟩
theorem gD{K:ag->Prop}{m:Nat}(h:st[n]?=some (.lst xs))(e:iL xs.length i=some m)(k:K (st.set n (.lst (xs.set m d)))):xG (.ref n) (.int i) d st K:=by unfold xG Av;simp only[h,e];exact k
end
def DC(K:PySem.W.Frag):Bool:=K.all fun p=>p.2.cls != .type "list"
theorem sq{a:Addr}{o:Obj}:∀ {l:List (Addr×Obj)},l.lookup a=some o->(a,o)∈l
 | [],h=>by cases h
 |(b,u)::r,h=>by
  rw[List.lookup_cons]at h;split at h
  . rename_i z;cases h;have:a=b:=by simpa using z
    subst this;exact List.mem_cons_self
  . exact List.mem_cons_of_mem _ (sq h)
theorem wk{K:PySem.W.Frag}(h:DC K=true){a:Addr}{o:Obj}(e:K.lookup a=some o):o.cls≠ .type "list":=by
 have:=List.all_eq_true.mp h (a,o) (sq e);simpa using this
theorem vz{α:List (Option Addr)}{G:Hp}:∀ns:List Int,aG α G (ns.map D.int) (ns.map V.int)
 | []=>by unfold aG;rfl
 |n::ns=>by
  rw[List.map_cons,List.map_cons];unfold aG;exact⟨_,_,rfl,by unfold Rep;rfl,vz ns⟩
def notStar:Expr->Bool
 | .Starred .. =>false
 |_=>true
theorem cv{e:Expr}{es:List Expr}{env:Env}(h:notStar e=true):starEach (e::es) env=(false,eval e env)::starEach es env:=by
 cases e<;>first|rfl|cases h
def fo:List Expr->Bool
 | []=>true
 |e::es=>notStar e&&fo es
theorem jc{pos:Pos}{env:Env}:∀ {es:List Expr},fo es=true->(backTo pos (starEach es env)).any (·.1)=false
 | [],_=>rfl
 |e::es,h=>by
  unfold fo at h;rw[Bool.and_eq_true]at h;rw[cv h.1];have ih:=jc (pos:=pos) (env:=env) h.2;unfold backTo at ih⊢;rw[List.map_cons,List.any_cons,ih];rfl
def mZ:Expr->Bool
 | .Slice .. =>false
 |_=>true
def rf:Expr->Bool
 | .Name .. =>true
 | .Call .. =>true
 | .Subscript .. =>true
 | .Attribute .. =>true
 |_=>false
def kr:Expr->Bool
 | .ListComp .. =>false
 | .SetComp .. =>false
 | .DictComp .. =>false
 |_=>true
section
variable {X:Cx}
theorem D1{b:Expr}(h:mZ b=true):rO b:=by
 intro o i;cases b<;>first|rfl|cases h
theorem AU{e:Expr}(h:rf e=true):∀whole,isTrue e X.env whole=(do let v <-whole;standAt e.pos;holding [v] (truthy v)):=by
 intro whole;cases e<;>first|(cases h;done)|rfl
theorem uQ{e:Expr}{tg:Option Expr}{n:Nat}{env:Env}(h:kr e=true):swapsWith e tg n env=pure false:=by
 cases e<;>first|(cases h;done)|rfl
theorem E4{e:Expr}{es:List Expr}{te:DE}{tr:DA}(ha:PE X e (LE te))(hr:PA X es (LA tr))(hs:notStar e=true:=by rfl):PA X (e::es) (LA (af te tr)):=uW ha hr (cv hs)
theorem K_{e:Expr}{es:List Expr}{pos p:Pos}{x:Str}{id:String}{r:fT}{t:DA}(hc:cf X (.builtin id) (ip r))(ha:PA X (e::es) (LA t))(hm:X.mg x=none)(hv:bootBuiltins x=some (.builtin id))(hn:x≠"__name__")(hdb:(x==("__debug__":Str))=false)(hg:Gl X x:=by rfl)(hs:notStar e=true:=by rfl)(hs2:fo es=true:=by rfl):
 PE X (.Call (.Name x p) (e::es) [] pos) (LE (bZ r t)):=ND hc ha hm hv hg hn hdb (cv hs) (jc hs2)
theorem L6{e:Expr}{es:List Expr}{pos p:Pos}{x:Str}{T:String}{r:fT}{t:DA}(hc:cf X (.type T) (ip r))(ha:PA X (e::es) (LA t))(hm:X.mg x=none)(hv:bootBuiltins x=some (.type T))(hn:x≠"__name__")(hdb:(x==("__debug__":Str))=false)(hg:Gl X x:=by rfl)(hs:notStar e=true:=by rfl)(hs2:fo es=true:=by rfl):
 PE X (.Call (.Name x p) (e::es) [] pos) (LE (bZ r t)):=M9 hc ha hm hv hg hn hdb (cv hs) (jc hs2)
theorem Mh{e:Expr}{es:List Expr}{pos p:Pos}{x qual:Str}{st:Stmt}{ps:List Str}{f:Addr}{fd:FuncData}{k:Nat}{S:b_}{t:DA}(A:bo X.K X.mg x qual st ps f fd)(F:a9 X.prog X.w X.K X.mg X.base ck k f fd ps (cn S))(hr:cC k X.A)
 (ha:PA X (e::es) (LA t)) (hdb:(x==("__debug__":Str))=false) (hg:Gl X x:=by rfl) (hs:notStar e=true:=by rfl) (hs2:fo es=true:=by rfl):
 PE X (.Call (.Name x p) (e::es) [] pos) (LE (aB S t)):=Nk A F hr ha hg hdb (cv hs) (jc hs2)
theorem KU{a b:Expr}{ta tb:DE}{pos:Pos}(ha:PE X a (LE ta))(hb:PE X b (LE tb))(hs:mZ b=true:=by rfl):PE X (.Subscript a b pos) (LE (aw aS ta tb)):=M1 ha hb (D1 hs)
theorem HC{e:Expr}{te:DE}(he:PE X e (LE te))(h:rf e=true:=by rfl):PT X e (LT (cm te)):=Kd he (AU h)
theorem DL{e:Expr}{te:DE}{pos:Pos}(he:PE X e (LE te))(h:kr e=true:=by rfl):PS X (.Expr e pos) (LS (la te)):=Hm he (uQ h)
theorem Hj{i:Nat}{x:Str}{e:Expr}{te:TE}{pos pos':Pos}(hN:X.N.Nodup)(hi:X.N[i]?=some x)(hx:Loc X.env.scope x)(he:PE X e te)(hf:X.fn x=true\/X.env.scope.names.lookup x=some .local:=by first|exact .inl rfl|exact .inr rfl)(h:kr e=true:=by rfl):
 PS X (.Assign [.Name x pos'] e pos) (pq te (mi i)):=Je hN hi hx he (uQ h) hf
theorem Hb{i:Nat}{x:Str}{pos:Pos}(hd:(x==("__debug__":Str))=false)(hcd:(x==("__classdict__":Str))=false)(hv:ye X.env.scope x)(hN:X.N[i]?=some x:=by rfl):PE X (.Name x pos) (LE (ae i)):=LY (J4 hN hv hd hcd)
theorem Ir{o i e:Expr}{to ti te:TE}{pos pos':Pos}(he:PE X e te)(ho:PE X o to)(hi:PE X i ti)(h1:kr e=true:=by rfl)(h2:mZ i=true:=by rfl):PS X (.Assign [.Subscript o i pos'] e pos) (pq te (AX to ti wX)):=
 IE he (Jr ho hi set_list (by intro v;cases i<;>first|rfl|cases h2)) (by unfold swapsWithSole;exact uQ h1) (by cases e<;>rfl) rfl
end
@[irreducible] def JE(X:Cx)(e:Expr)(t:DE):Prop:=PE X e (LE t)
@[irreducible] def JT(X:Cx)(e:Expr)(t:DT):Prop:=PT X e (LT t)
@[irreducible] def JW(X:Cx)(e:Expr)(t:DT):Prop:=PW X e (LT t)
@[irreducible] def JA(X:Cx)(es:List Expr)(t:DA):Prop:=PA X es (LA t)
@[irreducible] def JS(X:Cx)(s:Stmt)(t:DS):Prop:=PS X s (LS t)
@[irreducible] def JB(X:Cx)(s:List Stmt)(t:DS):Prop:=gd X s (LS t)
@[irreducible] def JG(X:Cx)(e:Expr)(t:fN):Prop:=PG X e (LG t)
@[irreducible] def JI(X:Cx)(tg e:Expr)(t:DI):Prop:=PI X tg e (LI t)
@[irreducible] def JC(X:Cx)(es:List Expr)(t:DT):Prop:=qF X es (LT t)
section
variable {X:Cx}{a b c e o i:Expr}{es:List Expr}{ta tb tc te to ti:DE}{t u:DT}{ar:DA}{pos p pos':Pos}{s:Stmt}{ss:List Stmt}{T U:DS}
theorem BC{n:Nat}{x:Str}(hd:(x==("__debug__":Str))=false)(hcd:(x==("__classdict__":Str))=false)(hv:ye X.env.scope x)(hN:X.N[n]?=some x:=by rfl):JE X (.Name x pos) (ae n):=by unfold JE;exact Hb hd hcd hv hN
theorem Ay{x:Str}{T:String}(hm:X.mg x=none)(hv:bootBuiltins x=some (.type T))(hn:x≠"__name__")(hdb:(x==("__debug__":Str))=false)(hg:Gl X x):JE X (.Name x pos) (dC (.ty T)):=by unfold JE;exact Nr hm hv hg hn hdb
theorem au{k:Int}{j:Nat}:JE X (.Constant (.int k) j pos) (dC (.int k)):=by unfold JE;exact Mm
theorem vo{k:Bool}{j:Nat}:JE X (.Constant (.bool k) j pos) (dC (.bl k)):=by unfold JE;exact Na
theorem nM{k:Str}{j:Nat}:JE X (.Constant (.str k) j pos) (dC (.str k)):=by unfold JE;exact Ly
theorem AM{j:Nat}:JE X (.Constant .none j pos) (dC .aE):=by unfold JE;exact Lm
theorem bK{op:Operator}{r:cZ}(ho:bS X (binaryOp op) (LR r))(ha:JE X a ta)(hb:JE X b tb):JE X (.BinOp a op b pos) (aw r ta tb):=by unfold JE at*;exact Nq ho ha hb
theorem jW(ha:JE X a ta):JE X (.UnaryOp .USub a pos) (nC iN ta):=by unfold JE at*;exact Nl L9 ha
theorem LU(ha:JE X a ta):JE X (.UnaryOp .Not a pos) (AN (cm ta)):=by unfold JE at*;exact Lo ha
theorem nF{op:BoolOp}(ha:JE X a ta):JE X (.BoolOp op [a] pos) ta:=by unfold JE at*;exact La ha
theorem mf(ha:JE X a ta)(hb:JE X (.BoolOp .And (b::es) pos) tb):JE X (.BoolOp .And (a::b::es) pos) (jV ta tb):=by unfold JE at*;exact LQ ha hb
theorem nV{op:CmpOp}{r:cZ}(ho:bS X (compareOp op) (LR r))(hm:behindInMarks op b=false)(ha:JE X a ta)(hb:JE X b tb):JE X (.Compare a [op] [b] pos) (aw r ta tb):=by unfold JE at*;exact Lb ho ha hb hm
theorem Fe(hc:JT X c t)(ha:JE X a ta)(hb:JE X b tb):JE X (.IfExp c a b pos) (Fs t ta tb):=by unfold JE at*;unfold JT at hc;exact Lh hc ha hb
theorem jL{n:Nat}(h:JA X es ar):JE X (.Tuple es n pos) (kb ar):=by unfold JE;unfold JA at h;exact LW h
theorem wy(h:JA X es ar):JE X (.List es pos) (uR ar):=by unfold JE;unfold JA at h;exact K4 h
theorem Ar(h:JA X es ar):JE X (.List es pos) (yd ar):=by unfold JE;unfold JA at h;exact K9 h
theorem aj:JA X [] ao:=by unfold JA;exact yR
theorem aa(ha:JE X e te)(hr:JA X es ar)(hs:notStar e=true:=by rfl):JA X (e::es) (af te ar):=by unfold JA at*;unfold JE at ha;exact E4 ha hr hs
theorem aI(ha:JE X a ta)(hb:JE X b tb)(hs:mZ b=true:=by rfl):JE X (.Subscript a b pos) (aw aS ta tb):=by unfold JE at*;exact KU ha hb hs
theorem df{x:Str}{id:String}{r:fT}(hc:cf X (.builtin id) (ip r))(ha:JA X (e::es) ar)(hm:X.mg x=none)(hv:bootBuiltins x=some (.builtin id))(hn:x≠"__name__")(hdb:(x==("__debug__":Str))=false)(hg:Gl X x)(hs:notStar e=true:=by rfl)(hs2:fo es=true:=by rfl):JE X (.Call (.Name x p) (e::es) [] pos) (bZ r ar):=by
 unfold JE;unfold JA at ha;exact K_ hc ha hm hv hn hdb hg hs hs2
theorem et{x:Str}{T:String}{r:fT}(hc:cf X (.type T) (ip r))(ha:JA X (e::es) ar)(hm:X.mg x=none)(hv:bootBuiltins x=some (.type T))(hn:x≠"__name__")(hdb:(x==("__debug__":Str))=false)(hg:Gl X x)(hs:notStar e=true:=by rfl)(hs2:fo es=true:=by rfl):JE X (.Call (.Name x p) (e::es) [] pos) (bZ r ar):=by
 unfold JE;unfold JA at ha;exact L6 hc ha hm hv hn hdb hg hs hs2
theorem aO{x qual:Str}{st:Stmt}{ps:List Str}{f:Addr}{fd:FuncData}{k:Nat}{S:b_}(A:bo X.K X.mg x qual st ps f fd)(F:a9 X.prog X.w X.K X.mg X.base ck k f fd ps (cn S))(hr:cC k X.A)(ha:JA X (e::es) ar)(hdb:(x==("__debug__":Str))=false)(hg:Gl X x)(hs:notStar e=true:=by rfl)(hs2:fo es=true:=by rfl):
 JE X (.Call (.Name x p) (e::es) [] pos) (aB S ar):=by unfold JE;unfold JA at ha;exact Mh A F hr ha hdb hg hs hs2
theorem EN{apos cpos:Pos}(ho:JE X o to)(he:JE X e te)(hbase:attributeBase o "append" X.env (eval o X.env)=eval o X.env:=by rfl)(hline:(apos.endLine==cpos.line)=true:=by rfl)(hs:notStar e=true:=by rfl):JE X (.Call (.Attribute o "append" apos) [e] [] cpos) (oW to te):=by
 unfold JE at*;refine EB ho he hbase ?_ hline (cv hs) rfl;rw[cv hs];rfl
theorem cT{op:CmpOp}{r:cZ}(ho:bS X (compareOp op) (LR r))(hm:behindInMarks op b=false)(ha:JE X a ta)(hb:JE X b tb):JT X (.Compare a [op] [b] pos) (cm (aw r ta tb)):=by unfold JE at*;unfold JT;exact KC ho ha hb hm
theorem BF(ha:JT X a t):JT X (.UnaryOp .Not a pos) (wY t):=by unfold JT at*;exact Iu ha
theorem qh(he:JE X e te)(h:rf e=true:=by rfl):JT X e (cm te):=by unfold JT;unfold JE at he;exact HC he h
theorem Hg(ha:JT X a t):JW X (.BoolOp .And [a] pos) t:=by unfold JW;unfold JT at ha;exact HW ha
theorem BQ(ha:JT X a t):JW X (.BoolOp .Or [a] pos) t:=by unfold JW;unfold JT at ha;exact IQ ha
theorem JV(ha:JT X a t)(hb:JW X (.BoolOp .And (b::es) pos) u):JW X (.BoolOp .And (a::b::es) pos) (wD t u):=by unfold JW at*;unfold JT at ha;exact Kj ha hb
theorem FC(ha:JT X a t)(hb:JW X (.BoolOp .Or (b::es) pos) u):JW X (.BoolOp .Or (a::b::es) pos) (yA t u):=by unfold JW at*;unfold JT at ha;exact LF ha hb
theorem Bx(h:JW X e t):JT X e t:=by unfold JT;unfold JW at h;exact PW.pt h
theorem g4{l tg:Expr}(hl:JE X l ta):JI X tg l (fz ta):=by unfold JI;unfold JE at hl;exact JY hl
theorem je{tg:Expr}(hg:Gl X "range")(hm:X.mg "range"=none)(ha:JA X [a] ar)(hs:notStar a=true:=by rfl):JI X tg (.Call (.Name "range" p) [a] [] pos) (gJ ar):=by unfold JI;unfold JA at ha;exact CP (CA hg hm ha (cv hs))
theorem El{tg:Expr}(hg:Gl X "range")(hm:X.mg "range"=none)(ha:JA X [a,b] ar)(hs:notStar a=true:=by rfl)(hs2:notStar b=true:=by rfl):JI X tg (.Call (.Name "range" p) [a,b] [] pos) (rJ ar):=by unfold JI;unfold JA at ha;exact Dz (DG hg hm ha (by rw[cv hs,cv hs2];rfl) (cv hs2))
theorem e_{k:Nat}{x:Str}(hN:X.N.Nodup)(hx:Loc X.env.scope x)(hf:X.fn x=true\/X.env.scope.names.lookup x=some .local)(hi:X.N[k]?=some x:=by rfl):JG X (.Name x pos) (cq k):=by unfold JG;exact GC (uV hN hi hx hf)
theorem wM{k j n:Nat}{x y:Str}{px py:Pos}(hc:X.calm=true)(hN:X.N.Nodup)(hx:Loc X.env.scope x)(hf:X.fn x=true\/X.env.scope.names.lookup x=some .local)(hy:Loc X.env.scope y)(hg:X.fn y=true\/X.env.scope.names.lookup y=some .local)(hi:X.N[k]?=some x:=by rfl)(hj:X.N[j]?=some y:=by rfl):
 JG X (.Tuple [.Name x px,.Name y py] n pos) (mv k j):=by unfold JG;exact JU (Ju hc (w_ (uV hN hi hx hf) (w_ (uV hN hj hy hg) GW)))
theorem dy:JC X [] cN:=by unfold JC;exact D_
theorem Kc(h:JT X c t):JC X [c] t:=by unfold JC;unfold JT at h;exact Jv h
theorem fx{scope:Scope}{Nc:List Str}{elt tg iter:Expr}{ifs:List Expr}{src:DI}{fr:List (Option Nat)}{dtg:fN}(S:bU X scope Nc fr)(hi:JI X tg iter src)(hg:∀C s H ex,JG (fj X scope Nc C s H ex) tg dtg)(ht:∀C s H ex,JC (fj X scope Nc C s H ex) ifs t)(he:∀C s H ex,JE (fj X scope Nc C s H ex) elt te)(fit:sJ fr dtg)
 (hx:X.xe=fun _ _=>False:=by rfl) (hc:X.calm=true:=by rfl) (hs:∀x,foldedSetIterable iter X.env x=pure x:=by intro _;rfl):JE X (.ListComp elt [⟨tg,iter,ifs,0⟩] scope pos) (eK src fr dtg t te):=by
 unfold JE JI JG JC at*;exact KG S hi hg ht he fit hx hc hs
theorem uY{scope:Scope}{Nc:List Str}{elt tg iter:Expr}{ifs:List Expr}{src:DI}{fr:List (Option Nat)}{dtg:fN}(S:bU X scope Nc fr)(hi:JI X tg iter src)(hg:∀C s H ex,JG (fj X scope Nc C s H ex) tg dtg)(ht:∀C s H ex,JC (fj X scope Nc C s H ex) ifs t)(he:∀C s H ex,JE (fj X scope Nc C s H ex) elt te)(fit:sJ fr dtg)
 (hx:X.xe=fun _ _=>False:=by rfl) (hc:X.calm=true:=by rfl) (hs:∀x,foldedSetIterable iter X.env x=pure x:=by intro _;rfl):JE X (.ListComp elt [⟨tg,iter,ifs,0⟩] scope pos) (qy src fr dtg t te):=by
 unfold JE JI JG JC at*;exact Gi S hi hg ht he fit hx hc hs
theorem dE:JB X [] dQ:=by unfold JB;exact HL
theorem aC(h:JS X s T):JB X [s] T:=by unfold JB;unfold JS at h;exact HK h
theorem av(h:JS X s T)(h2:JB X ss U):JB X (s::ss) (aL T U):=by unfold JB at*;unfold JS at h;exact Ek h h2
theorem aV(h:JE X e te):JS X (.Return (some e) pos) (bI te):=by unfold JS;unfold JE at h;exact IS h
theorem kE(h:JE X e te)(hc:kr e=true:=by rfl):JS X (.Expr e pos) (la te):=by unfold JS;unfold JE at h;exact DL h hc
theorem d_{x y:List Stmt}(hc:JT X c t)(ha:JB X x T)(hb:JB X y U):JS X (.If c x y pos) (eA t T U):=by unfold JS;unfold JB at*;unfold JT at hc;exact Lp hc ha hb
theorem xT{x:List Stmt}(hc:JT X c t)(hb:JB X x T)(hx:X.xe=fun _ _=>False:=by rfl):JS X (.While c x [] pos) (uj t T):=by unfold JS;unfold JB at hb;unfold JT at hc;exact D0 (Er (by rw[hx];exact PassesOwn.never) hc hb)
theorem jX{tg iter:Expr}{x:List Stmt}{src:DI}{dtg:fN}(hi:JI X tg iter src)(hg:JG X tg dtg)(hb:JB X x T)(hx:X.xe=fun _ _=>False:=by rfl)(hc:X.calm=true:=by rfl)(hs:∀x,foldedSetIterable iter X.env x=pure x:=by intro _;rfl):JS X (.For tg iter x [] pos) (lP src dtg T):=by
 unfold JS;unfold JI at hi;unfold JG at hg;unfold JB at hb;exact KI (Jw (by rw[hx];exact PassesOwn.never) hc hi hg hb hs)
theorem aW{k:Nat}{x:Str}(hN:X.N.Nodup)(hx:Loc X.env.scope x)(he:JE X e te)(hf:X.fn x=true\/X.env.scope.names.lookup x=some .local:=by first|exact .inl rfl|exact .inr rfl)(h:kr e=true:=by rfl)(hi:X.N[k]?=some x:=by rfl):JS X (.Assign [.Name x pos'] e pos) (bf k te):=by
 unfold JS;unfold JE at he;exact Kk (Hj hN hi hx he hf h)
theorem Gx{scope:Scope}{Nc:List Str}{elt tg iter:Expr}{ifs:List Expr}{src:DI}{fr:List (Option Nat)}{dtg:fN}{k:Nat}{x:Str}(hN:X.N.Nodup)(hl:Loc X.env.scope x)(S:bU X scope Nc fr)(hi:JI X tg iter src)(hg:∀C s H ex,JG (fj X scope Nc C s H ex) tg dtg)(ht:∀C s H ex,JC (fj X scope Nc C s H ex) ifs t)(he:∀C s H ex,JE (fj X scope Nc C s H ex) elt te)(fit:sJ fr dtg)
 (hf:X.fn x=true\/X.env.scope.names.lookup x=some .local:=by first|exact .inl rfl|exact .inr rfl) (hsw:swapsWith (.ListComp elt [⟨tg,iter,ifs,0⟩] scope p) (some (.Name x pos')) pos.line X.env=pure true:=by rfl) (hni:X.N[k]?=some x:=by rfl) (hx:X.xe=fun _ _=>False:=by rfl) (hc:X.calm=true:=by rfl) (hs:∀x,foldedSetIterable iter X.env x=pure x:=by intro _;rfl):
 JS X (.Assign [.Name x pos'] (.ListComp elt [⟨tg,iter,ifs,0⟩] scope p) pos) (bf k (eK src fr dtg t te)):=by
 unfold JS;unfold JE JI JG JC at*;exact Hv fit (HV hx hc S hi hg ht he hN hni hl hf hsw hs)
theorem dY(he:JE X e te)(ho:JE X o to)(hi:JE X i ti)(h1:kr e=true:=by rfl)(h2:mZ i=true:=by rfl):JS X (.Assign [.Subscript o i pos'] e pos) (eG to ti te):=by unfold JS;unfold JE at*;exact D4 (Ir he ho hi h1 h2)
theorem Km{k:Nat}{x:Str}{op:Operator}{f:Int->Int->Int}(hN:X.N.Nodup)(hx:Loc X.env.scope x)(he:JE X e te)(ho:Ij X op (Jy f))(hf:X.fn x=true\/X.env.scope.names.lookup x=some .local:=by first|exact .inl rfl|exact .inr rfl)(hi:X.N[k]?=some x:=by rfl):JS X (.AugAssign (.Name x pos') op e pos) (AK k (wZ f) te):=by
 unfold JS;unfold JE at he;exact Ig (HY hN hi hx he ho hf)
theorem Dy{k j kt k2:Nat}{x y:Str}{px py pt pt2:Pos}(hN:X.N.Nodup)(hij:k≠j)(hx:X.env.scope.names.lookup x=some .local)(hy:X.env.scope.names.lookup y=some .local)(ha:JA X [a,b] ar)
 (hw:swappedStores [.Tuple [.Name x px,.Name y py] kt pt] (.Tuple [a,b] k2 pt2) X.env=pure (some [x,y]):=by rfl) (hc:X.calm=true:=by rfl) (hi:X.N[k]?=some x:=by rfl) (hj:X.N[j]?=some y:=by rfl) (hs:swapsWithSole [.Tuple [.Name x px,.Name y py] kt pt] (.Tuple [a,b] k2 pt2) pos.line X.env=pure false:=by rfl):
 JS X (.Assign [.Tuple [.Name x px,.Name y py] kt pt] (.Tuple [a,b] k2 pt2) pos) (Ak k j ar):=by unfold JS;unfold JA at ha;exact J0 (Jo hc hN hi hj hij hx hy ha hw hs)
end
theorem bz{P:Program}{w:World}{K:PySem.W.Frag}{mg:Str->Option Value}{base:Heap}{x qual:Str}{st:Stmt}{f:Addr}{fd:FuncData}{N ps:List Str}{k:Nat}{sp:b_}{t:DS}(F:mX K x qual st f fd)(S:aN N ps (ai st))
 (hbody:∀(cdv:Value) (A:Around) (outer:List Env) (s:Shared) (H:Hp) (E:XK),cC k (A.deeper (envOfC qual (ai st) s.heap.objs.size f cdv))->JB (pM ck P w K mg base N qual (ai st) f cdv A outer s H E).uw (fV st) t)
 (hsp:∀ds st K,sp ds st K->ds.length=ps.length/\t {nx:=fun _ st'=>K .aE st',rt:=K} (aT N ds) st):a9 P w K mg base ck (k+1) f fd ps (cn sp):=by
 unfold JB at hbody;exact Mg F S hbody hsp
end L3
namespace HT
open PySem PyProof.Rows
section
variable {prog:Program}{w:World}{A:Around}{E:Value->Shared->Prop}{s:Shared}
theorem pY{t sl:Addr}{items:Array Value}{vl vu:Value}{lo hi:Option Int}{Q:Value->Shared->Prop}(ht:IsTup s.heap t items)(hs:s.heap.IsSliceOf sl vl vu .none)(pl:IsPart vl lo)(pu:IsPart vu hi)
 (hw:bN items.size 0 lo=0/\bN items.size items.size hi=items.size) (h:Q (.ref t) s):wpAny (model prog w) A (getItem (.ref t) (.ref sl)) Q E s:=by
 obtain⟨os,hos,hcs,hds⟩:=id hs;have hTs:s.TypeIs (.ref sl) "slice":=⟨os,hos,hcs⟩
 unfold getItem;try with_reducible refine wpAny_holding ?_
 first|refine wpAny_bind (wpAny_pure ?_)|skip
 refine wpAny_bind (wpAny_sequenceKey ht.typeIs (by decide) ?_)
 refine wpAny_bind (wpAny_callSpecial?_slot (name:=Str.ofString "__getitem__") ht.typeIs PyProof.Rows.slot_tuple_getitem
  (wpAny_call_entry PyProof.Rows.slot_tuple_getitem ht.typeIs entry_tuple_getitem ?_ (args_tuple_getitem _ _)))
 show wpAny _ _ (Builtin.Tuple.tupleItemsOf (.ref t) >>= _) _ _ s;refine wpAny_bind (tupleItemsOf_ ht ?_);refine wpAny_bind (wpAny_typeOf hTs ?_);rw[if_pos (by decide)];refine wpAny_bind (nq hs pl pu ?_)
 have hyes:(((bN items.size 0 lo:Nat):Int)==0&&(1:Int)==1&&(bN items.size items.size hi-bN items.size 0 lo)==items.size)=true:=by
  rw[hw.1,hw.2];simp
 show wpAny _ _ (if(((bN items.size 0 lo:Nat):Int)==0&&(1:Int)==1&&(bN items.size items.size hi-bN items.size 0 lo)==items.size)=true then _ else _) _ _ s;rw[if_pos hyes];refine wpAny_bind ?_;unfold Builtin.Tuple.tupleIsExact;exact wpAny_bind (wpAny_typeOf ht.typeIs (wpAny_pure (wpAny_bind (wpAny_rule (wpAny_pure ⟨_,rfl,wpAny_pure h⟩)))))
end
end HT
namespace L3
open PySem L2
open PySem.Spec hiding items?
open PyProof.Rows hiding St
abbrev DO:=bG->ag->(Option Int->ag->Prop)->Prop
def kL:DO:=fun _ st K=>K none st
def pU(t:DE):DO:=fun σ st K=>t σ st fun d st1=>match d with| .int i=>K (some i) st1|_=>False
def cutD(xs:List D)(lo hi:Option Int):List D:=(xs.drop (HT.bN xs.length 0 lo)).take (HT.bN xs.length xs.length hi-HT.bN xs.length 0 lo)
def xi(d:D)(lo hi:Option Int)(st:ag)(K:DK):Prop:=match d with
 | .lst xs=>K (.lst (cutD xs lo hi)) st
 | .tup xs=>K (.tup (cutD xs lo hi)) st
 | .ref n=>(match st[n]? with|some (.lst xs)=>K (.lst (cutD xs lo hi)) st|_=>False)
 |_=>False
@[irreducible] def jQ:D->Option Int->Option Int->ag->DK->Prop:=xi
def nt(t:DE)(lo hi:DO):DE:=fun σ st K=>t σ st fun d st1=>lo σ st1 fun l st2=>hi σ st2 fun u st3=>jQ d l u st3 K
theorem sP{α:List (Option Addr)}{G:Hp}{xs:List D}{vs:List V}{lo hi:Option Int}(r:aG α G xs vs):aG α G (cutD xs lo hi) (pB vs lo hi):=by
 unfold cutD pB;rw[<-r.length];exact a_.mpr (si _ (sF _ (a_.mp r)))
def NS(α:List (Option Addr))(G F:Hp)(K:Option Int->ag->Prop)(Q:Option Int->Hp->Prop):Prop:=∀o st',K o st'->∀α' G' H',Step α G α' G'->bQ G' F H'->aR α' st' G'->Q o H'
inductive MO(t:DO)(σ:L2.St)(H:Hp)(Q:Option Int->Hp->Prop):Prop
 |mk (α:List (Option Addr)) (σd:bG) (st:ag) (K:Option Int->ag->Prop) (G F:Hp) (P:bQ G F H) (R:dG α G σd σ) (S:aR α st G) (h:t σd st K) (k:NS α G F K Q):MO t σ H Q
def LO(t:DO):TO:=MO t
section
variable {X:Cx}
theorem PO.imp{e:Option Expr}{t t':TO}(h:PO X e t)(f:∀σ H Q,t' σ H Q->t σ H Q):PO X e t':=fun pins s σ H Q I q=>h pins s σ H Q I (f σ H Q q)
theorem Gk:PO X none (LO kL):=PO.imp Hr fun σ H Q ⟨α,σd,st,K,G,F,P,R,S,t,k⟩=>k none st t α G H Step.refl P S
theorem HI{e:Expr}{te:DE}(h:PE X e (LE te)):PO X (some e) (LO (pU te)):=PO.imp (GD h) fun σ H Q ⟨α,σd,st,K,G,F,P,R,S,t,k⟩=>by
 refine⟨α,σd,st,_,G,F,P,R,S,t,fun d st1 q α1 G1 H1 v s1 P1 S1 r1=>?_⟩;cases d<;>try exact q.elim
 unfold Rep at r1;exact⟨_,r1,k _ st1 q α1 G1 H1 s1 P1 S1⟩
def NH(x:V)(lo hi:Option Int)(H:Hp)(Q:VK):Prop:=∃α d st K G F,bQ G F H/\Rep α G d x/\aR α st G/\jQ d lo hi st K/\LK α G F K Q
theorem HA:CU X (fun x lo hi H Q=>∃a xs,x= .ref a/\H a=some (.tup xs)/\((HT.bN xs.length 0 lo=0/\HT.bN xs.length xs.length hi=xs.length)->Q (.ref a) H)/\(¬(HT.bN xs.length 0 lo=0/\HT.bN xs.length xs.length hi=xs.length)->∀p,H p=none->Q (.ref p) (upd H p (.tup (pB xs lo hi))))):=by
 intro pins s σ H x v vl vu lo hi sl Q I rx hs pl pu h;obtain⟨a,xs,rfl,hx,q1,q2⟩:=h;by_cases hw:HT.bN xs.length 0 lo=0/\HT.bN xs.length xs.length hi=xs.length
 . cases rx;obtain⟨aq,r,ht,hz⟩:=I.tuple (hJ.of hx);have hlen:aq.toArray.size=xs.length:=by rw[List.size_toArray];exact r.length.symm
   exact⟨"tuple",_,PyProof.Rows.slot_tuple_getitem.lookup,ht.typeIs,HT.pY ht hs pl pu (by rw[hlen];exact hw) ⟨.ref a,H,I,rfl,q1 hw⟩⟩
 . exact Ib pins s σ H _ v vl vu lo hi sl Q I rx hs pl pu ⟨a,xs,rfl,.of hx,hw,q2 hw⟩
theorem Ca{xs:List D}{lo hi:Option Int}(hw:HT.bN xs.length 0 lo=0/\HT.bN xs.length xs.length hi=xs.length):cutD xs lo hi=xs:=by
 unfold cutD;rw[hw.1,hw.2];simp
theorem Jj:CU X NH:=by
 intro pins s σ H x v vl vu lo hi sl Q I rx hs pl pu ⟨α,d,st,K,G,F',P,r1,S,q,k⟩;unfold jQ xi at q;cases d<;>try exact q.elim
 . rename_i n;simp only at q;split at q
   . rename_i xs e;obtain⟨a,ea,vs,h1,h2⟩:=S.i3 e;have r1':=dD ea r1;subst r1';exact zB pins s σ H _ v vl vu lo hi sl Q I rx hs pl pu ⟨a,vs,rfl,.inl (.of (P.get h1)),fun p hp=>k.lst P q S (sP h2) hp⟩
   . exact q.elim
 . unfold Rep at r1;obtain⟨a,vs,rfl,na,ha,ra⟩:=r1;exact zB pins s σ H _ v vl vu lo hi sl Q I rx hs pl pu ⟨a,vs,rfl,.inl (gv P ha),fun p hp=>k.lst P q S (sP ra) hp⟩
 . rename_i xs;have r0:=r1;unfold Rep at r1;obtain⟨a,vs,rfl,na,ha,ra⟩:=r1;refine HA pins s σ H _ v vl vu lo hi sl Q I rx hs pl pu ⟨a,vs,rfl,P.get ha,fun hw=>?_,fun _ p hp=>k.tup P q S (sP ra) hp⟩;rw[<-ra.length]at hw;simp only at q;rw[Ca hw]at q;exact k.here P q S r0
theorem HU{e:Expr}{lo hi:Option Expr}{te:DE}{tl th:DO}{p2 pos:Pos}(he:PE X e (LE te))(hl:PO X lo (LO tl))(hh:PO X hi (LO th)):PE X (.Subscript e (.Slice lo hi none p2) pos) (LE (nt te tl th)):=PE.imp (D8 Jj he hl hh) fun σ H Q ⟨α,σd,st,K,G,F,P,R,S,t,k⟩=>by
 refine⟨α,σd,st,_,G,F,P,R,S,t,fun d st1 q α1 G1 H1 v s1 P1 S1 r1=>?_⟩;refine⟨α1,σd,st1,_,G1,F,P1,R.step s1,S1,q,fun l st2 q2 α2 G2 H2 s2 P2 S2=>?_⟩;refine⟨α2,σd,st2,_,G2,F,P2,(R.step s1).step s2,S2,q2,fun u st3 q3 α3 G3 H3 s3 P3 S3=>?_⟩;exact⟨α3,d,st3,K,G3,F,P3,(r1.step s2).step s3,S3,q3,((k.at s1).at s2).at s3⟩
@[irreducible] def JO(X:Cx)(e:Option Expr)(t:DO):Prop:=PO X e (LO t)
theorem oU:JO X none kL:=by unfold JO;exact Gk
theorem oF{e:Expr}{te:DE}(h:JE X e te):JO X (some e) (pU te):=by unfold JO;unfold JE at h;exact HI h
theorem oA{e:Expr}{lo hi:Option Expr}{te:DE}{tl th:DO}{p2 pos:Pos}(he:JE X e te)(hl:JO X lo tl)(hh:JO X hi th):JE X (.Subscript e (.Slice lo hi none p2) pos) (nt te tl th):=by unfold JE at*;unfold JO at*;exact HU he hl hh
end
theorem C8{st:ag}{K:DK}{xs:List D}{lo hi:Option Int}(k:K (.lst (cutD xs lo hi)) st):jQ (.lst xs) lo hi st K:=by unfold jQ;exact k
theorem qk{st:ag}{K:DK}{xs:List D}{lo hi:Option Int}(k:K (.tup (cutD xs lo hi)) st):jQ (.tup xs) lo hi st K:=by unfold jQ;exact k
theorem Df{st:ag}{K:DK}{xs:List D}{lo hi:Option Int}{n:Nat}(h:st[n]?=some (.lst xs))(k:K (.lst (cutD xs lo hi)) st):jQ (.ref n) lo hi st K:=by unfold jQ xi;simp only[h];exact k
section
variable {prog:Program}{w:World}{A:Around}{E:Value->Shared->Prop}{s:Shared}
theorem AA{iT tp:Addr}{n:Nat}{aq:Array Value}{v:Value}{Q:Value->Shared->Prop}(hI:s.heap.IsTupleIter iT tp n)(hT:s.heap.IsTuple tp aq)(hv:aq[n]?=some v)
 (q:∀g,g.IsTupleIter iT tp (n+1)->Heap.SameBut iT s.heap g->Q v {s with heap:=g}):wpAny (model prog w) A (Builtin.SmallTypes.nextOf (.ref iT)) Q E s:=by
 obtain⟨oI,eI,cI,dI⟩:=id hI;obtain⟨oT,eT,_,nT,dT⟩:=hT;unfold Builtin.SmallTypes.nextOf;refine wpAny_bind (wpAny_callSpecial?_slot (name:=Str.ofString "__next__") hI.typeIs F.slot_tuple_iterator_next (wpAny_call_entry F.slot_tuple_iterator_next hI.typeIs F.entry_tuple_iterator_next ?_ (F.args_tuple_iterator_next_1 _)));show wpAny _ _ (field (.ref iT) 0 >>= _) _ _ s;refine wpAny_bind (wpAny_field eI dI (x:= .ref tp) rfl ?_);show wpAny _ _ (if(Value.ref tp==Value.none)=true then _ else _) _ _ s;rw[if_neg (show¬((Value.ref tp==Value.none)=true)from Bool.false_ne_true)];show wpAny _ _ (field (.ref iT) 1 >>= _) _ _ s;refine wpAny_bind (wpAny_field eI dI (x:= .int n 0) rfl ?_);show wpAny _ _ (seqItems? (.ref tp) >>= _) _ _ s;refine wpAny_bind (wpAny_seqItems eT dT ?_);simp only[Int.toNat_natCast,hv];refine wpAny_bind (wpAny_setField eI dI (by simp) (wpAny_pure ⟨v,rfl,wpAny_pure (q _ ?_ (Heap.SameBut.update ..))⟩));refine⟨_,Heap.get?_update_self _ eI (Obj.isFreed_of_fields (Obj.data_mapFields dI _)),(Obj.cls_mapFields ..).trans cI,?_⟩;rw[Obj.data_mapFields dI];simp[rawInt]
theorem Cf{iT tp:Addr}{n:Nat}{aq:Array Value}{Q:Value->Shared->Prop}(hh:A.handled=none)(hI:s.heap.IsTupleIter iT tp n)(hT:s.heap.IsTuple tp aq)(hv:aq[n]?=none)
 (q:∀g e,Heap.ExtBut iT s.heap g->(∃o,g.get? e=some o/\o.cls= .type "StopIteration")->E (.ref e) {s with heap:=g}):wpAny (model prog w) A (Builtin.SmallTypes.nextOf (.ref iT)) Q E s:=by
 obtain⟨oI,eI,cI,dI⟩:=id hI;obtain⟨oT,eT,_,nT,dT⟩:=hT;unfold Builtin.SmallTypes.nextOf;refine wpAny_bind (wpAny_callSpecial?_slot (name:=Str.ofString "__next__") hI.typeIs F.slot_tuple_iterator_next (wpAny_call_entry F.slot_tuple_iterator_next hI.typeIs F.entry_tuple_iterator_next ?_ (F.args_tuple_iterator_next_1 _)));show wpAny _ _ (field (.ref iT) 0 >>= _) _ _ s;refine wpAny_bind (wpAny_field eI dI (x:= .ref tp) rfl ?_);show wpAny _ _ (if(Value.ref tp==Value.none)=true then _ else _) _ _ s;rw[if_neg (show¬((Value.ref tp==Value.none)=true)from Bool.false_ne_true)];show wpAny _ _ (field (.ref iT) 1 >>= _) _ _ s;refine wpAny_bind (wpAny_field eI dI (x:= .int n 0) rfl ?_);show wpAny _ _ (seqItems? (.ref tp) >>= _) _ _ s;refine wpAny_bind (wpAny_seqItems eT dT ?_);simp only[Int.toNat_natCast,hv];refine wpAny_bind (wpAny_rule (wpAny_bind (wpAny_setField eI dI (by simp) ?_)));show wpAny _ _ (newExc (.type "StopIteration") [] >>= _) _ _ _;refine wpAny_bind ?_;simp only[newExc,newTuple];refine wpAny_bind (wpAny_newObj_type ?_ (by size_fits));refine wpAny_bind (m:=firstArgMember _ _) (wpAny_of_eq (a:=Value.none) (by first|rfl|(simp only[firstArgMember];rfl)) ?_);refine wpAny_newObj_type ?_ (by size_fits);simp only[raiseNew];refine wpAny_bind (wpAny_handled ?_);first|rw[show A.in1.handled=none from hh]|rw[hh]
 refine wpAny_bind (wpAny_pure (wpAny_throw ?_));exact q _ _ (((Heap.SameBut.update ..).extBut.push _).push _) ⟨_,Heap.get?_push_size _ rfl,rfl⟩
end
section
variable {st:ag}{K:DK}{i j:Int}{b c:Bool}{xs ys:List D}{d e:D}{n:Nat}
theorem eqT(h:i=j)(k:K (.bl true) st):iK (.int i) (.int j) st K:=yr (by rw[decide_eq_true h];exact k)
theorem NQ(h:i≠j)(k:K (.bl false) st):iK (.int i) (.int j) st K:=yr (by rw[decide_eq_false h];exact k)
theorem eq2(h1:i=j->K (.bl true) st)(h2:i≠j->K (.bl false) st):iK (.int i) (.int j) st K:=by
 by_cases h:i=j
 . exact eqT h (h1 h)
 . exact NQ h (h2 h)
theorem neT(h:i≠j)(k:K (.bl true) st):sI (.int i) (.int j) st K:=Fw (by rw[decide_eq_false h];exact k)
theorem NP(h:i=j)(k:K (.bl false) st):sI (.int i) (.int j) st K:=Fw (by rw[decide_eq_true h];exact k)
theorem ne2(h1:i≠j->K (.bl true) st)(h2:i=j->K (.bl false) st):sI (.int i) (.int j) st K:=by
 by_cases h:i=j
 . exact NP h (h2 h)
 . exact neT h (h1 h)
theorem NI(h:i<j)(k:K (.bl true) st):qi (.int i) (.int j) st K:=FO (by rw[decide_eq_true h];exact k)
theorem NY(h:j<=i)(k:K (.bl false) st):qi (.int i) (.int j) st K:=FO (by rw[decide_eq_false (by omega)];exact k)
theorem FR(h1:i<j->K (.bl true) st)(h2:j<=i->K (.bl false) st):qi (.int i) (.int j) st K:=by
 by_cases h:i<j
 . exact NI h (h1 h)
 . exact NY (by omega) (h2 (by omega))
theorem MA(h:j<i)(k:K (.bl true) st):qH (.int i) (.int j) st K:=Fl (by rw[decide_eq_true h];exact k)
theorem NZ(h:i<=j)(k:K (.bl false) st):qH (.int i) (.int j) st K:=Fl (by rw[decide_eq_false (by omega)];exact k)
theorem JP(h1:j<i->K (.bl true) st)(h2:i<=j->K (.bl false) st):qH (.int i) (.int j) st K:=by
 by_cases h:j<i
 . exact MA h (h1 h)
 . exact NZ (by omega) (h2 (by omega))
theorem NO(h:j<=i)(k:K (.bl true) st):yb (.int i) (.int j) st K:=Fg (by rw[decide_eq_true h];exact k)
theorem NM(h:i<j)(k:K (.bl false) st):yb (.int i) (.int j) st K:=Fg (by rw[decide_eq_false (by omega)];exact k)
theorem Mq{P:Prop}(h:xs.length<=1000)(k:P):xs.length<=sizeLine/\P:=⟨by rw[sizeLine_eq];omega,k⟩
theorem cY{m:Nat}(h:m<=1000):m<=sizeLine:=by rw[sizeLine_eq];omega
theorem u4(h0:0<=i)(e:xs[i.toNat]?=some d):dP xs i=some d:=by
 have:=mF e;rw[Int.toNat_of_nonneg h0]at this;exact this
theorem KQ{m:Nat}(h0:0<=i)(h:i.toNat<m):iL m i=some i.toNat:=by
 unfold iL;have:i<(m:Int):=by omega
 simp[h0,this]
end
theorem ju{tg:fN}{body:DS}{ok:ag->Prop}{E:mx}(I:List D->bG->ag->Prop)(hend:∀σ st,I [] σ st->ok st/\E.nx σ st)
 (hstep:∀x xs σ st,I (x::xs) σ st->(∀σ' st',I xs σ' st'->hO tg body ok E xs σ' st')->ok st/\∃σ1,tg x σ=some σ1/\body {E with nx:=hO tg body ok E xs,ct:=hO tg body ok E xs,bk:=E.nx} σ1 st):
 ∀xs σ st,I xs σ st->hO tg body ok E xs σ st
 | [],σ,st,h=>by unfold hO;exact hend σ st h
 |x::xs,σ,st,h=>by unfold hO;exact hstep x xs σ st h fun σ' st' h'=>ju I hend hstep xs σ' st' h'
theorem kG{tg:fN}{c:DT}{te:DE}{ok:ag->Prop}{σc:bG}{K:List D->ag->Prop}(I:List D->List D->ag->Prop)(hend:∀acc st,I [] acc st->ok st/\K acc st)
 (hstep:∀x xs acc st,I (x::xs) acc st->(∀acc' st',I xs acc' st'->cR tg c te ok σc xs acc' st' K)->ok st/\∃σ2,tg x σc=some σ2/\c σ2 st fun b st1=>if b=true then te σ2 st1 fun y st2=>cR tg c te ok σc xs (acc++[y]) st2 K else cR tg c te ok σc xs acc st1 K):
 ∀xs acc st,I xs acc st->cR tg c te ok σc xs acc st K
 | [],acc,st,h=>by unfold cR;exact hend acc st h
 |x::xs,acc,st,h=>by unfold cR;exact hstep x xs acc st h fun acc' st' h'=>kG I hend hstep xs acc' st' h'
theorem comp_map{tg:fN}{te:DE}{ok:ag->Prop}{σc:bG}{st:ag}{K:List D->ag->Prop}{g:D->D}(aK:ok st)(xs:List D)(hx:∀x∈xs,∀K',K' (g x) st->∃σ2,tg x σc=some σ2/\te σ2 st K')(k:K (xs.map g) st):cR tg cN te ok σc xs [] st K:=by
 refine kG (fun r acc st'=>st'=st/\(∀x∈r,x∈xs)/\acc++r.map g=xs.map g) (fun acc st' h=>?_) (fun x r acc st' h next=>?_) xs [] st ⟨rfl,fun _ h=>h,rfl⟩
 . obtain⟨rfl,_,e⟩:=h;rw[List.map_nil,List.append_nil]at e;rw[e];exact⟨aK,k⟩
 . obtain⟨rfl,hm,e⟩:=h;obtain⟨σ2,e2,q⟩:=hx x (hm x List.mem_cons_self) (fun y st2=>cR tg cN te ok σc r (acc++[y]) st2 K) (next _ _ ⟨rfl,fun z hz=>hm z (List.mem_cons_of_mem _ hz),by rw[<-e];simp⟩);exact⟨aK,σ2,e2,q⟩
theorem mP{A B:DS}{E:mx}{σ:bG}{st:ag}(J:bG->ag->Prop)(h:∀nx,(∀σ' st',J σ' st'->nx σ' st')->A {E with nx:=nx} σ st)(k:∀σ' st',J σ' st'->B E σ' st'):aL A B E σ st:=h (B E) k
def JK(n:Nat)(K:DK)(y:D)(st2:ag):Prop:=∃y',[y]=[y']/\(match st2[n]? with|some (.lst xs)=>xs.length<sizeLine/\K .aE (st2.set n (.lst (xs++[y'])))|_=>False)
theorem zm{n:Nat}{K:DK}{y:D}{st:ag}{xs:List D}(e:st[n]?=some (.lst xs))(h:xs.length<sizeLine)(k:K .aE (st.set n (.lst (xs++[y])))):JK n K y st:=by
 refine⟨y,rfl,?_⟩;simp only[e];exact⟨h,k⟩
@[irreducible] def mM(to te:DE):DE:=oW to te
theorem Dm{σ:bG}{st:ag}{K:DK}{i n:Nat}{xs:List D}{te:DE}(ei:σ[i]?=some (some (.ref n)))(e:st[n]?=some (.lst xs))(h:te σ st (JK n K)):mM (ae i) te σ st K:=by
 unfold mM oW ae;simp only[ei,e];exact h
theorem vO{X:Cx}{o e:Expr}{to te:DE}{apos cpos:Pos}(ho:JE X o to)(he:JE X e te)(hbase:attributeBase o "append" X.env (eval o X.env)=eval o X.env:=by rfl)(hline:(apos.endLine==cpos.line)=true:=by rfl)(hs:notStar e=true:=by rfl):JE X (.Call (.Attribute o "append" apos) [e] [] cpos) (mM to te):=by
 unfold mM;exact EN ho he hbase hline hs
section
variable {X:Cx}
end
structure Src(P:Program)(w:World)(t a:Addr)(J:Nat->Heap->Prop)(us:Array Value):Prop where
 fr:∀n g k,J n g->(∀b,b=t\/b=a->∀o,g.get? b=some o->k.get? b=some o)->J n k
 lv:∀n g,J n g->(∃o,g.get? t=some o)/\∃o,g.get? a=some o
 nx:∀n (A:Around) (s:Shared) (Q:Value->Shared->Prop) (E:Value->Shared->Prop) v,J n s.heap->us[n]?=some v->(∀k,J (n+1) k->Heap.SameBut t s.heap k->Q v {s with heap:=k})->wpAny (model P w) A (Builtin.SmallTypes.nextOf (.ref t)) Q E s
 en:∀n (A:Around) (s:Shared) (Q:Value->Shared->Prop) (E:Value->Shared->Prop),A.handled=none->J n s.heap->us[n]?=none->(∀k e,Heap.ExtBut t s.heap k->(∃o,k.get? e=some o/\o.cls= .type "StopIteration")->E (.ref e) {s with heap:=k})->wpAny (model P w) A (Builtin.SmallTypes.nextOf (.ref t)) Q E s
section
variable {P:Program}{w:World}
theorem src_list(t a:Addr)(hne:a≠t)(us:Array Value):Src P w t a (fun n g=>g.IsListIter t a n/\g.IsList a us) us where
 fr:=fun n g k j kp=>⟨j.1.at fun o e=>kp t (.inl rfl) o e,j.2.at fun o e=>kp a (.inr rfl) o e⟩
 lv:=fun n g j=>⟨let⟨o,e,_⟩:=j.1;⟨o,e⟩,let⟨o,e,_⟩:=j.2;⟨o,e⟩⟩
 nx:=fun n A s Q E v j hv q=>wpAny_nextOf_list_item j.1 j.2 hv fun k jk sb=>q k ⟨jk,j.2.extBut sb.extBut hne⟩ sb
 en:=fun n A s Q E hh j hv q=>wpAny_nextOf_list_end hh j.1 j.2 hv q
theorem HJ(t a:Addr)(hne:a≠t)(us:Array Value):Src P w t a (fun n g=>g.IsTupleIter t a n/\g.IsTuple a us) us where
 fr:=fun n g k j kp=>by
  obtain⟨⟨o,e,r⟩,⟨o2,e2,r2⟩⟩:=j;exact⟨⟨o,kp t (.inl rfl) o e,r⟩,⟨o2,kp a (.inr rfl) o2 e2,r2⟩⟩
 lv:=fun n g j=>⟨let⟨o,e,_⟩:=j.1;⟨o,e⟩,let⟨o,e,_⟩:=j.2;⟨o,e⟩⟩
 nx:=fun n A s Q E v j hv q=>AA j.1 j.2 hv fun k jk sb=>q k ⟨jk,j.2.extBut sb.extBut hne⟩ sb
 en:=fun n A s Q E hh j hv q=>Cf hh j.1 j.2 hv q
theorem Src.ext{t a c:Addr}{J:Nat->Heap->Prop}{us:Array Value}(S:Src P w t a J us){n:Nat}{g k:Heap}(j:J n g)(x:Heap.ExtBut c g k)(h1:c≠t)(h2:c≠a):J n k:=
 S.fr n g k j fun b hb o e=>x b o (by rcases hb with rfl|rfl;exact Ne.symm h1;exact Ne.symm h2) e
structure zx(z ti to t1 t2 a1 a2:Addr):Prop where
 nd: [z,ti,to,t1,t2].Nodup
 a1:a1∉[z,ti,to,t1,t2]
 a2:a2∉[z,ti,to,t1,t2]
section
variable {z ti to t1 t2 a1 a2:Addr}
theorem zx.n(D:zx z ti to t1 t2 a1 a2):(ti≠z/\to≠z/\t1≠z/\t2≠z)/\(ti≠to/\ti≠t1/\ti≠t2)/\(to≠t1/\to≠t2)/\t1≠t2:=by
 have:=D.nd;simp only[List.nodup_cons,List.mem_cons,not_or,List.not_mem_nil,not_false_eq_true,and_true,List.nodup_nil]at this;obtain⟨⟨b1,b2,b3,b4⟩,⟨b5,b6,b7⟩,⟨b8,b9⟩,b10⟩:=this;exact⟨⟨Ne.symm b1,Ne.symm b2,Ne.symm b3,Ne.symm b4⟩,⟨b5,b6,b7⟩,⟨b8,b9⟩,b10⟩
theorem B8{A:Around}{s:Shared}{E:Value->Shared->Prop}{J1 J2:Nat->Heap->Prop}{us vs:Array Value}{n:Nat}{x y a b:Value}{Q:Value->Shared->Prop}(D:zx z ti to t1 t2 a1 a2)(S1:Src P w t1 a1 J1 us)(S2:Src P w t2 a2 J2 vs)
 (Z:IsZip s.heap z ti to .none) (pI:IsPair s.heap ti (.ref t1) (.ref t2)) (pO:IsPair s.heap to a b) (j1:J1 n s.heap) (j2:J2 n s.heap) (ex:us[n]?=some x) (ey:vs[n]?=some y)
 (q:∀k,IsZip k z ti to (rawInt s.heap.objs.size)->IsPair k to x y->J1 (n+1) k->J2 (n+1) k->IsPair k s.heap.objs.size x y->k.objs.size=s.heap.objs.size+1->
   (∀c o,c≠z->c≠to->c≠t1->c≠t2->s.heap.get? c=some o->k.get? c=some o)->Q (.ref s.heap.objs.size) {s with heap:=k}):
 wpAny (model P w) A (Builtin.«zip.__next__» ⟨[.ref z],[]⟩) (fun fin s'=>∃v,fin= .done (.ret v)/\Q v s') E s:=by
 obtain⟨⟨n1,n2,n3,n4⟩,⟨n5,n6,n7⟩,⟨n8,n9⟩,n10⟩:=D.n;have m1:=D.a1;have m2:=D.a2;simp only[List.mem_cons,not_or,List.not_mem_nil,not_false_eq_true,and_true]at m1 m2;show wpAny _ _ (field (.ref z) 2 >>= _) _ _ _;refine wpAny_bind (wpAny_field Z rfl (x:= .bool false) rfl ?_);show wpAny _ _ (field (.ref z) 3 >>= _) _ _ _;refine wpAny_bind (wpAny_field Z rfl (x:= .ref ti) rfl ?_);refine wpAny_bind (wpAny_seqItems pI rfl ?_);show wpAny _ _ (Builtin.SmallTypes.ownedTupleIsFree (.ref z) >>= _) _ _ _;refine wpAny_bind ?_;unfold Builtin.SmallTypes.ownedTupleIsFree;refine wpAny_bind (wpAny_field Z rfl (x:= .none) rfl (wpAny_pure ?_));simp only[if_true];refine wpAny_bind (wpAny_rule ?_);refine wpAny_bind (wpAny_field Z rfl (x:= .ref to) rfl ?_);refine wpAny_bind (wpAny_setField_rec Z (by simp) fun k1 Z1 b1=>?_);replace Z1:IsZip k1 z ti to .ellipsis:=Z1;refine wpAny_bind ?_;simp only[List.zipIdx_cons,List.zipIdx_nil,List.forIn_cons,List.forIn_nil];refine wpAny_bind (wpAny_bind (wpAny_onRaise ?_));show wpAny _ _ (Builtin.SmallTypes.nextOf (.ref t1) >>= _) _ _ _;refine wpAny_bind (S1.nx n _ _ _ _ x (S1.ext j1 b1.extBut (Ne.symm n3) (Ne.symm m1.1)) ex fun k2 j1b b2=>wpAny_pure ?_);have pO2:IsPair k2 to a b:=b2.extBut _ _ n8 (b1.extBut _ _ n2 pO);refine wpAny_bind (wpAny_seqItems pO2 rfl ?_);refine wpAny_bind (wpAny_updateSeq_pair pO2 fun k3 pO3 b3=>?_);replace pO3:IsPair k3 to x b:=pO3;refine wpAny_bind (wpAny_letGo (wpAny_pure ?_));refine wpAny_bind (wpAny_bind (wpAny_onRaise ?_));show wpAny _ _ (Builtin.SmallTypes.nextOf (.ref t2) >>= _) _ _ _;have j2c:J2 n k3:=S2.ext (S2.ext (S2.ext j2 b1.extBut (Ne.symm n4) (Ne.symm m2.1)) b2.extBut n10 (Ne.symm m2.2.2.2.1)) b3.extBut n9 (Ne.symm m2.2.2.1);refine wpAny_bind (S2.nx n _ _ _ _ y j2c ey fun k4 j2d b4=>wpAny_pure ?_);have pO4:IsPair k4 to x b:=b4.extBut _ _ n9 pO3;refine wpAny_bind (wpAny_seqItems pO4 rfl ?_);refine wpAny_bind (wpAny_updateSeq_pair pO4 fun k5 pO5 b5=>?_);replace pO5:IsPair k5 to x y:=pO5;refine wpAny_bind (wpAny_letGo (wpAny_pure (wpAny_pure ?_)));refine wpAny_bind (wpAny_seqItems pO5 rfl ?_);refine wpAny_bind (wpAny_newTuple ?_);have sz:k5.objs.size=s.heap.objs.size:=by rw[b5.1,b4.1,b3.1,b2.1,b1.1]
 have Z5:IsZip k5 z ti to .ellipsis:=b5.extBut _ _ (Ne.symm n2) (b4.extBut _ _ (Ne.symm n4) (b3.extBut _ _ (Ne.symm n2) (b2.extBut _ _ (Ne.symm n3) Z1)));have kp5:∀c o,c≠z->c≠to->c≠t1->c≠t2->s.heap.get? c=some o->k5.get? c=some o:=fun c o c1 c2 c3 c4 e=>b5.extBut _ _ c2 (b4.extBut _ _ c4 (b3.extBut _ _ c2 (b2.extBut _ _ c3 (b1.extBut _ _ c1 e))));have j1e:J1 (n+1) k5:=S1.ext (S1.ext (S1.ext j1b b3.extBut n8 (Ne.symm m1.2.2.1)) b4.extBut (Ne.symm n10) (Ne.symm m1.2.2.2.2)) b5.extBut n8 (Ne.symm m1.2.2.1);have j2e:J2 (n+1) k5:=S2.ext j2d b5.extBut n9 (Ne.symm m2.2.2.1);have ltz:z<k5.objs.size:=Heap.lt_size Z5;show wpAny _ _ (Builtin.SmallTypes.ownedTupleHandOut (.ref z) (.ref k5.objs.size) >>= _) _ _ _;refine wpAny_bind ?_;unfold Builtin.SmallTypes.ownedTupleHandOut;have Z6:IsZip (k5.push {cls:= .type "tuple",data:= .seq #[x,y]}) z ti to .ellipsis:=Heap.get?_push_of_some _ Z5;refine wpAny_bind (wpAny_setField_rec Z6 (by simp) fun k7 Z7 b7=>?_);replace Z7:IsZip k7 z ti to (rawInt k5.objs.size):=Z7;refine wpAny_setField_rec Z7 (by simp) fun k8 Z8 b8=>?_;replace Z8:IsZip k8 z ti to (rawInt k5.objs.size):=Z8;have up:∀c o,c≠z->k5.get? c=some o->k8.get? c=some o:=fun c o c1 e=>b8.extBut _ _ c1 (b7.extBut _ _ c1 (Heap.get?_push_of_some _ e));have pT:IsPair k8 k5.objs.size x y:=b8.extBut _ _ (Nat.ne_of_gt ltz) (b7.extBut _ _ (Nat.ne_of_gt ltz) (Heap.get?_push_size _ rfl));have sz8:k8.objs.size=k5.objs.size+1:=by rw[b8.1,b7.1,Heap.size_push]
 rw[sz]at Z8 pT sz8;refine wpAny_pure ⟨_,rfl,?_⟩;show Q (.ref k5.objs.size) _;rw[sz];refine q k8 Z8 (up _ _ n2 pO5) (S1.fr _ _ _ j1e fun b hb o e=>up b o ?_ e) (S2.fr _ _ _ j2e fun b hb o e=>up b o ?_ e) pT sz8 fun c o c1 c2 c3 c4 e=>up c o c1 (kp5 c o c1 c2 c3 c4 e)
 . rcases hb with rfl|rfl
   . exact n3
   . exact m1.1
 . rcases hb with rfl|rfl
   . exact n4
   . exact m2.1
theorem Ew{A:Around}{s:Shared}{E:Value->Shared->Prop}{J1 J2:Nat->Heap->Prop}{us vs:Array Value}{n:Nat}{a b:Value}{Q:Fin->Shared->Prop}(hh:A.handled=none)(D:zx z ti to t1 t2 a1 a2)(S1:Src P w t1 a1 J1 us)(S2:Src P w t2 a2 J2 vs)
 (Z:IsZip s.heap z ti to .none) (pI:IsPair s.heap ti (.ref t1) (.ref t2)) (pO:IsPair s.heap to a b) (j1:J1 n s.heap) (j2:J2 n s.heap) (he:us[n]?=none\/vs[n]?=none)
 (q:∀k e,(∀c o,c≠z->c≠to->c≠t1->c≠t2->s.heap.get? c=some o->k.get? c=some o)->(∃o,k.get? e=some o/\o.cls= .type "StopIteration")->E (.ref e) {s with heap:=k}):
 wpAny (model P w) A (Builtin.«zip.__next__» ⟨[.ref z],[]⟩) Q E s:=by
 obtain⟨⟨n1,n2,n3,n4⟩,⟨n5,n6,n7⟩,⟨n8,n9⟩,n10⟩:=D.n;have m1:=D.a1;have m2:=D.a2;simp only[List.mem_cons,not_or,List.not_mem_nil,not_false_eq_true,and_true]at m1 m2;show wpAny _ _ (field (.ref z) 2 >>= _) _ _ _;refine wpAny_bind (wpAny_field Z rfl (x:= .bool false) rfl ?_);show wpAny _ _ (field (.ref z) 3 >>= _) _ _ _;refine wpAny_bind (wpAny_field Z rfl (x:= .ref ti) rfl ?_);refine wpAny_bind (wpAny_seqItems pI rfl ?_);show wpAny _ _ (Builtin.SmallTypes.ownedTupleIsFree (.ref z) >>= _) _ _ _;refine wpAny_bind ?_;unfold Builtin.SmallTypes.ownedTupleIsFree;refine wpAny_bind (wpAny_field Z rfl (x:= .none) rfl (wpAny_pure ?_));simp only[if_true];refine wpAny_bind (wpAny_rule ?_);refine wpAny_bind (wpAny_field Z rfl (x:= .ref to) rfl ?_);refine wpAny_bind (wpAny_setField_rec Z (by simp) fun k1 Z1 b1=>?_);replace Z1:IsZip k1 z ti to .ellipsis:=Z1;refine wpAny_bind ?_;simp only[List.zipIdx_cons,List.zipIdx_nil,List.forIn_cons,List.forIn_nil];refine wpAny_bind (wpAny_bind (wpAny_onRaise ?_));show wpAny _ _ (Builtin.SmallTypes.nextOf (.ref t1) >>= _) _ _ _;have j1a:J1 n k1:=S1.ext j1 b1.extBut (Ne.symm n3) (Ne.symm m1.1);cases ex:us[n]? with
 |none=>
  refine wpAny_bind (S1.en n _ _ _ _ hh j1a ex fun k2 e b2 hx=>?_);obtain⟨oe,he1,he2⟩:=hx;have Z2:IsZip k2 z ti to .ellipsis:=b2 _ _ (Ne.symm n3) Z1;have hez:e≠z:=fun c=>by subst c;rw[Z2]at he1;cases he1;simp at he2
  refine wpAny_setField_rec Z2 (by simp) fun k3 _ b3=>q k3 e (fun c o c1 _ c3 _ f=>b3.extBut _ _ c1 (b2 _ _ c3 (b1.extBut _ _ c1 f))) ⟨oe,b3.extBut _ _ hez he1,he2⟩
 |some x=>
  have ey:vs[n]?=none:=by
   rcases he with h|h
   . rw[ex]at h;cases h
   . exact h
  refine wpAny_bind (S1.nx n _ _ _ _ x j1a ex fun k2 j1b b2=>wpAny_pure ?_);have pO2:IsPair k2 to a b:=b2.extBut _ _ n8 (b1.extBut _ _ n2 pO);refine wpAny_bind (wpAny_seqItems pO2 rfl ?_);refine wpAny_bind (wpAny_updateSeq_pair pO2 fun k3 pO3 b3=>?_);refine wpAny_bind (wpAny_letGo (wpAny_pure ?_));refine wpAny_bind (wpAny_bind (wpAny_onRaise ?_));show wpAny _ _ (Builtin.SmallTypes.nextOf (.ref t2) >>= _) _ _ _;have j2c:J2 n k3:=S2.ext (S2.ext (S2.ext j2 b1.extBut (Ne.symm n4) (Ne.symm m2.1)) b2.extBut n10 (Ne.symm m2.2.2.2.1)) b3.extBut n9 (Ne.symm m2.2.2.1);refine wpAny_bind (S2.en n _ _ _ _ hh j2c ey fun k4 e b4 hx=>?_);obtain⟨oe,he1,he2⟩:=hx;have Z4:IsZip k4 z ti to .ellipsis:=b4 _ _ (Ne.symm n4) (b3.extBut _ _ (Ne.symm n2) (b2.extBut _ _ (Ne.symm n3) Z1));have hez:e≠z:=fun c=>by subst c;rw[Z4]at he1;cases he1;simp at he2
  refine wpAny_setField_rec Z4 (by simp) fun k5 _ b5=>q k5 e (fun c o c1 c2 c3 c4 f=>b5.extBut _ _ c1 (b4 _ _ c4 (b3.extBut _ _ c2 (b2.extBut _ _ c3 (b1.extBut _ _ c1 f))))) ⟨oe,b5.extBut _ _ hez he1,he2⟩
end
end
theorem FW{X:Cx}{pins:List (Addr×Obj)}{σ:L2.St}{H:Hp}{s:Shared}{g:Heap}{tk:Nat}{fp:List Addr}{T:Addr}{xs:List V}(I:Inv X pins σ H s)(hf:∀b∈fp,kI X pins H b)
 (k:∀b o,b∉fp->s.heap.get? b=some o->g.get? b=some o) (hT:s.heap.objs.size<=T) (new:cW X.prog X.w (upd H T (.tup xs)) g T (.tup xs)):Inv X pins σ (upd H T (.tup xs)) {s with heap:=g,toks:=tk}:=by
 have hn:H T=none:=I.aK.fresh hT;have nfp:∀b u,H b=some u->b∉fp:=fun b u e z=>by rw[(hf b z).1]at e;cases e
 have nT:∀b u,H b=some u->b≠T:=fun b u e=>cV e hn
 refine I.step (g':=s.gens) (d':=s.drawn) (ch:=fp) (fun b hb=>?_) (fun b o _ _ hc e _=>k b o hc e) (fun b o _ _ hc e _=>⟨o.slots,k b o hc e⟩) (fun b o _ e n=>?_) (fun b o hc e=>⟨o,k b o hc e⟩)
  (fun b ys e=>by rw[ax (nT b _ e)];exact e) (fun b o u e=>by rw[ax (nT b _ e)];exact e) (fun b ps e=>⟨#[],by rw[ax (nT b _ e),e];simp⟩) (fun m hm=>?_) (fun b u e=>?_) I.bare
 . obtain⟨f0,f1,f2,f3,f4,f5⟩:=hf b hb;exact⟨f3,f1,f4,f5⟩
 . rw[ax (Nat.ne_of_lt (Nat.lt_of_lt_of_le (Heap.lt_size e) hT))];exact n
 . obtain⟨o,es,ep,ho,r⟩:=hm;exact⟨o,es,ep,k _ o (fun z=>(hf _ z).2.1 rfl) ho,r⟩
 . by_cases hb:b=T
   . subst hb;rw[aY]at e;cases e;exact new
   . rw[ax hb]at e;refine(I.aK b u e).kC (fun c v hc q=>k c v ?_ q) (fun c q=>by rw[ax (nT c _ q)];exact q) fun c ys q=>by rw[ax (nT c _ q)];exact q
     rcases hc with z|z
     . rw[z];exact nfp b u e
     . exact nfp c _ z
theorem E9{X:Cx}{pins:List (Addr×Obj)}{σ:L2.St}{H:Hp}{s:Shared}{g:Heap}{tk:Nat}{fp:List Addr}(I:Inv X pins σ H s)(hf:∀b∈fp,kI X pins H b)
 (k:∀b o,b∉fp->s.heap.get? b=some o->g.get? b=some o):Inv X pins σ H {s with heap:=g,toks:=tk}:=by
 have nfp:∀b u,H b=some u->b∉fp:=fun b u e z=>by rw[(hf b z).1]at e;cases e
 refine I.step (g':=s.gens) (d':=s.drawn) (ch:=fp) (fun b hb=>?_) (fun b o _ _ hc e _=>k b o hc e) (fun b o _ _ hc e _=>⟨o.slots,k b o hc e⟩) (fun b o _ e n=>n) (fun b o hc e=>⟨o,k b o hc e⟩)
  (fun b ys e=>e) (fun b o u e=>e) (fun b ps e=>⟨#[],by rw[e];simp⟩) (fun m hm=>?_) (fun b u e=>?_) I.bare
 . obtain⟨f0,f1,f2,f3,f4,f5⟩:=hf b hb;exact⟨f3,f1,f4,f5⟩
 . obtain⟨o,es,ep,ho,r⟩:=hm;exact⟨o,es,ep,k _ o (fun z=>(hf _ z).2.1 rfl) ho,r⟩
 . refine(I.aK b u e).kC (fun c v hc q=>k c v ?_ q) (fun c q=>q) fun c ys q=>q;rcases hc with z|z
   . rw[z];exact nfp b u e
   . exact nfp c _ z
inductive SK where
 |l|t
def ou(k:SK)(K:PySem.W.Frag)(H:Hp)(a:Addr)(xs:List V):Prop:=match k with
 | .l=>lI K H a xs
 | .t=>hJ K H a xs
def pX(k:SK)(t a:Addr)(n:Nat)(g:Heap):Prop:=match k with
 | .l=>g.IsListIter t a n
 | .t=>g.IsTupleIter t a n
def ly(k:SK)(g:Heap)(a:Addr)(us:Array Value):Prop:=match k with
 | .l=>g.IsList a us
 | .t=>g.IsTuple a us
def yO(k:SK)(a:Addr):Obj:=match k with
 | .l=>{cls:= .type "list_iterator",data:= .fields #[.ref a,.int 0 0]}
 | .t=>{cls:= .type "tuple_iterator",data:= .fields #[.ref a,.int 0 0]}
theorem mm{P:Program}{w:World}(k:SK)(t a:Addr)(hne:a≠t)(us:Array Value):Src P w t a (fun n g=>pX k t a n g/\ly k g a us) us:=by
 cases k
 . exact src_list t a hne us
 . exact HJ t a hne us
theorem jC{X:Cx}{pins:List (Addr×Obj)}{σ:L2.St}{H:Hp}{s:Shared}{k:SK}{a:Addr}{xs:List V}(I:Inv X pins σ H s)(h:ou k X.K H a xs):∃aq:List Value,Vals xs aq/\ly k s.heap a aq.toArray:=by
 cases k
 . obtain⟨aq,rv,p,_⟩:=I.list h;exact⟨aq,rv,p.isList⟩
 . obtain⟨aq,rv,p,_⟩:=I.tuple h;exact⟨aq,rv,p⟩
theorem u7{X:Cx}{pins:List (Addr×Obj)}{σ:L2.St}{H:Hp}{s:Shared}{k:SK}{a:Addr}{xs ys:List V}(I:Inv X pins σ H s)(h:ou k X.K H a xs)(h':ou k X.K H a ys):xs=ys:=by
 cases k
 . exact I.x9 h h'
 . exact I.vW h h'
theorem Ds{P:Program}{w:World}{A:Around}{s:Shared}{E:Value->Shared->Prop}{k:SK}{a:Addr}{us:Array Value}{Q:Value->Shared->Prop}(h:ly k s.heap a us)(q:Q (.ref s.heap.objs.size) {s with heap:=s.heap.push (yO k a)}):wpAny (model P w) A (pyIter (.ref a)) Q E s:=by
 cases k
 . exact wpAny_pyIter_list h q
 . exact wpAny_pyIter_tuple h q
theorem ly.push{k:SK}{g:Heap}{a:Addr}{us:Array Value}(h:ly k g a us)(o:Obj):ly k (g.push o) a us:=by
 cases k
 . obtain⟨o',e,r⟩:=h;exact⟨o',Heap.get?_push_of_some _ e,r⟩
 . obtain⟨o',e,r⟩:=h;exact⟨o',Heap.get?_push_of_some _ e,r⟩
theorem ly.some{k:SK}{g:Heap}{a:Addr}{us:Array Value}(h:ly k g a us):∃o,g.get? a=Option.some o:=by
 cases k
 . obtain⟨o',e,r⟩:=h;exact⟨o',e⟩
 . obtain⟨o',e,r⟩:=h;exact⟨o',e⟩
theorem zw{k:SK}{g h:Heap}{t a:Addr}(e:g.get? t=Option.some (yO k a)):pX k t a 0 g:=by
 cases k
 . exact⟨_,e,rfl,rfl⟩
 . exact⟨_,e,rfl,rfl⟩
theorem oJ{k:SK}{t a:Addr}{n:Nat}{g g':Heap}(h:pX k t a n g)(kp:∀o,g.get? t=Option.some o->g'.get? t=Option.some o):pX k t a n g':=by
 cases k
 . obtain⟨o,e,r⟩:=h;exact⟨o,kp o e,r⟩
 . obtain⟨o,e,r⟩:=h;exact⟨o,kp o e,r⟩
theorem mE{k:SK}{t a:Addr}{n:Nat}{g:Heap}(h:pX k t a n g):∃o,g.get? t=Option.some o/\∀v,o.data≠ .cell v:=by
 cases k
 . obtain⟨o,e,c,d⟩:=h;exact⟨o,e,fun v z=>by rw[d]at z;cases z⟩
 . obtain⟨o,e,c,d⟩:=h;exact⟨o,e,fun v z=>by rw[d]at z;cases z⟩
def MB(K:PySem.W.Frag)(k1 k2:SK)(a1 a2:Addr):It:=
 ⟨fun i H=>∃xs ys x y,ou k1 K H a1 xs/\ou k2 K H a2 ys/\xs[i]?=some x/\ys[i]?=some y,
  fun i H v H'=>∃T x y,H T=none/\v= .ref T/\H'=upd H T (.tup [x,y])/\(∀xs,ou k1 K H a1 xs->xs[i]?=some x)/\∀ys,ou k2 K H a2 ys->ys[i]?=some y,
  fun i H=>∃xs ys,ou k1 K H a1 xs/\ou k2 K H a2 ys/\(xs.length<=i\/ys.length<=i)⟩
def Lw(z ti to t1 t2 a1 a2:Addr)(k1 k2:SK)(i:Nat)(h:Heap):Prop:=IsZip h z ti to .none/\IsPair h ti (.ref t1) (.ref t2)/\(∃a b,IsPair h to a b)/\pX k1 t1 a1 i h/\pX k2 t2 a2 i h
theorem EE{P:Program}{w:World}{K:PySem.W.Frag}{elts:List Expr}{kx:Nat}{pos:Pos}{z ti to t1 t2 a1 a2:Addr}(k1 k2:SK)(D:zx z ti to t1 t2 a1 a2):
 Turn P w K (.Tuple elts kx pos) (MB K k1 k2 a1 a2) [z,ti,to,t1,t2] z (Lw z ti to t1 t2 a1 a2 k1 k2) where
 mem:=by simp
 obj:=fun i h st b hb=>by
  obtain⟨Z,pI,⟨a,b',pO⟩,i1,i2⟩:=st;simp only[List.mem_cons,List.not_mem_nil,or_false]at hb;rcases hb with rfl|rfl|rfl|rfl|rfl
  . exact⟨_,Z,fun v e=>by cases e⟩
  . exact⟨_,pI,fun v e=>by cases e⟩
  . exact⟨_,pO,fun v e=>by cases e⟩
  . exact mE i1
  . exact mE i2
 keep:=fun i h h' st k=>by
  obtain⟨Z,pI,⟨a,b',pO⟩,i1,i2⟩:=st;exact⟨k z (by simp) _ Z,k ti (by simp) _ pI,⟨a,b',k to (by simp) _ pO⟩,oJ i1 (k t1 (by simp)),oJ i2 (k t2 (by simp))⟩
 item:=by
  intro X hP hw hK hc i pins s σ H E I hf st hg;subst hP hw hK;obtain⟨Z,pI,⟨a,b',pO⟩,i1,i2⟩:=st;obtain⟨xs,ys,x,y,q1,q2,ex,ey⟩:=hg;obtain⟨us,r1,l1⟩:=jC I q1;obtain⟨vs,r2,l2⟩:=jC I q2;obtain⟨u,eu,ru⟩:=r1.get ex;obtain⟨v,ev,rv⟩:=r2.get ey;have m1:=D.a1;have m2:=D.a2;simp only[List.mem_cons,not_or,List.not_mem_nil,not_false_eq_true,and_true]at m1 m2;obtain⟨⟨n1,n2,n3,n4⟩,⟨n5,n6,n7⟩,⟨n8,n9⟩,n10⟩:=D.n;have tz:s.TypeIs (.ref z) "zip":=⟨_,Z,rfl⟩
  unfold pyNext;refine wpAny_bind (wpAny_attempt (wpAny_callSpecial?_slot (name:=Str.ofString "__next__") tz F.slot_zip_next (wpAny_call_entry F.slot_zip_next tz F.entry_zip_next (B8 D (mm k1 t1 a1 m1.2.2.2.1 us.toArray) (mm k2 t2 a2 m2.2.2.2.2 vs.toArray) Z pI pO ⟨i1,l1⟩ ⟨i2,l2⟩ (x:=u) (y:=v) (by simpa using eu) (by simpa using ev) fun k Z2 pO2 j1 j2 pT szk kp=>wpAny_pure ⟨_,rfl,?_⟩) (F.args_zip_next_1 _))));refine wpAny_letOwnedTupleGo_zip (s:={s with heap:=k}) Z2 fun k' Z3 b3=>?_;have hT:s.heap.objs.size≠z:=Nat.ne_of_gt (Heap.lt_size Z)
  have kp3:∀b o,b∉[z,ti,to,t1,t2]->s.heap.get? b=some o->k'.get? b=some o:=fun b o hb e=>by
   simp only[List.mem_cons,not_or,List.not_mem_nil,not_false_eq_true,and_true]at hb;exact b3.extBut _ _ hb.1 (kp b o hb.1 hb.2.2.1 hb.2.2.2.1 hb.2.2.2.2 e)
  refine⟨.ref s.heap.objs.size,upd H s.heap.objs.size (.tup [x,y]),FW (s:=s) (tk:=s.toks) I hf kp3 (Nat.le_refl _) ?_,rfl,⟨s.heap.objs.size,x,y,I.aK.fresh (Nat.le_refl _),rfl,rfl,?_,?_⟩,?_,?_⟩
  . refine⟨Nat.le_of_ble_eq_true rfl,[u,v],.cons ru (.cons rv .nil),?_⟩;exact⟨_,b3.extBut _ _ hT pT,rfl,_,rfl⟩
  . intro xs' q';rw[u7 I q' q1];exact ex
  . intro ys' q';rw[u7 I q' q2];exact ey
  . refine⟨Z3,b3.extBut _ _ n1 (kp _ _ n1 n5 n6 n7 pI),⟨_,_,b3.extBut _ _ n2 pO2⟩,oJ j1.1 fun o e=>b3.extBut _ _ n3 e,oJ j2.1 fun o e=>b3.extBut _ _ n4 e⟩
  . intro b hb
    have:b≠s.heap.objs.size:=by
     obtain⟨o,e,_⟩:∃o,s.heap.get? b=some o/\True:=by
      simp only[List.mem_cons,List.not_mem_nil,or_false]at hb;rcases hb with rfl|rfl|rfl|rfl|rfl
      . exact⟨_,Z,trivial⟩
      . exact⟨_,pI,trivial⟩
      . exact⟨_,pO,trivial⟩
      . obtain⟨o,e,_⟩:=mE i1;exact⟨o,e,trivial⟩
      . obtain⟨o,e,_⟩:=mE i2;exact⟨o,e,trivial⟩
     exact Nat.ne_of_lt (Heap.lt_size e)
    rw[ax this];exact(hf b hb).1
 done:=by
  intro X hP hw hK hc i pins s σ H E I hf st hg;subst hP hw hK;obtain⟨Z,pI,⟨a,b',pO⟩,i1,i2⟩:=st;obtain⟨xs,ys,q1,q2,he⟩:=hg;obtain⟨us,r1,l1⟩:=jC I q1;obtain⟨vs,r2,l2⟩:=jC I q2;have e1:=r1.length;have e2:=r2.length;have m1:=D.a1;have m2:=D.a2;simp only[List.mem_cons,not_or,List.not_mem_nil,not_false_eq_true,and_true]at m1 m2;have tz:s.TypeIs (.ref z) "zip":=⟨_,Z,rfl⟩
  unfold pyNext;refine wpAny_bind (wpAny_attempt (wpAny_callSpecial?_slot (name:=Str.ofString "__next__") tz F.slot_zip_next (wpAny_call_entry F.slot_zip_next tz F.entry_zip_next (Ew (I.ok.hd hc) D (mm k1 t1 a1 m1.2.2.2.1 us.toArray) (mm k2 t2 a2 m2.2.2.2.2 vs.toArray) Z pI pO ⟨i1,l1⟩ ⟨i2,l2⟩ ?_ fun k e kp hx=>?_) (F.args_zip_next_1 _))))
  . rcases he with h|h
    . left;simp;omega
    . right;simp;omega
  . obtain⟨o,ho,hc2⟩:=hx;refine wpAny_bind (wpAny_isInstance (T:="StopIteration") (b:=true) ⟨o,ho,hc2⟩ isSubtype_stop ?_);refine wpAny_pure ⟨rfl,E9 (s:=s) (tk:=s.toks) I hf fun b o hb e=>?_⟩;simp only[List.mem_cons,not_or,List.not_mem_nil,not_false_eq_true,and_true]at hb;exact kp b o hb.1 hb.2.2.1 hb.2.2.2.1 hb.2.2.2.2 e
 self:=fun _ _ _ _ _ st h=>wpAny_pyIter_zip st.1 h
abbrev E_(h:Heap)(k1:SK)(a1:Addr):Heap:=h.push (yO k1 a1)
abbrev FL(h:Heap)(k1 k2:SK)(a1 a2:Addr):Heap:=(E_ h k1 a1).push (yO k2 a2)
abbrev Fb(h:Heap)(k1 k2:SK)(a1 a2:Addr):Heap:=(FL h k1 k2 a1 a2).push {cls:= .type "tuple",data:= .seq #[.ref h.objs.size,.ref (E_ h k1 a1).objs.size]}
abbrev FX(h:Heap)(k1 k2:SK)(a1 a2:Addr):Heap:=(Fb h k1 k2 a1 a2).push {cls:= .type "tuple",data:= .seq #[.none,.none]}
abbrev zP(h:Heap)(k1 k2:SK)(a1 a2:Addr):Heap:=(FX h k1 k2 a1 a2).push {cls:= .type "zip",data:= .fields #[.none,.bool false,.bool false,.ref (FL h k1 k2 a1 a2).objs.size,.ref (Fb h k1 k2 a1 a2).objs.size]}
theorem Dr(k1 k2:SK)(a1 a2:Addr)(us vs:Array Value):Meets (Builtin.«zip.__new__» ⟨[.type "zip",.ref a1,.ref a2],[]⟩) (fun _ R s=>ly k1 s.heap a1 us/\ly k2 s.heap a2 vs/\
 R (.ok (.ret (.ref (FX s.heap k1 k2 a1 a2).objs.size))) {s with heap:=zP s.heap k1 k2 a1 a2}):=
 .of_wp fun P w A R s h=>by
  obtain⟨hp,g,d,tk,os⟩:=s;obtain⟨c1,c2,h⟩:=h;have hsub:=sub_zip;have L1:ly k1 (Shared.heap ⟨hp,g,d,tk,os⟩) a1 us:=c1;have L2:ly k2 (Shared.heap ⟨hp.push (yO k1 a1),g,d,tk,os⟩) a2 vs:=ly.push c2 _
  wp_walk using Ds L1,Ds L2
  exact⟨_,rfl,h⟩
theorem EX{P:Program}{w:World}{A:Around}{s:Shared}{E:Value->Shared->Prop}{k1 k2:SK}{a1 a2:Addr}{us vs:Array Value}{Q:Value->Shared->Prop}(c1:ly k1 s.heap a1 us)(c2:ly k2 s.heap a2 vs)
 (q:∀g n,n=s.heap.objs.size->IsZip g (n+4) (n+2) (n+3) .none->IsPair g (n+2) (.ref n) (.ref (n+1))->IsPair g (n+3) .none .none->pX k1 n a1 0 g->pX k2 (n+1) a2 0 g->(∀c o,s.heap.get? c=some o->g.get? c=some o)->Q (.ref (n+4)) {s with heap:=g}):
 wpAny (model P w) A (call (.type "zip") [.ref a1,.ref a2]) Q E s:=by
 refine callType_new F.called_zip (by decide) (F.typeCall_zip_2 _ _) (F.newCall_zip_2 _ _) (fun ob=>F.args_object_init_3 ob _ _) F.entry_zip_new (Dr k1 k2 a1 a2 us vs) ⟨c1,c2,?_⟩;have y1:(E_ s.heap k1 a1).objs.size=s.heap.objs.size+1:=Heap.size_push ..;have y2:(FL s.heap k1 k2 a1 a2).objs.size=s.heap.objs.size+2:=by rw[Heap.size_push,y1]
 have y3:(Fb s.heap k1 k2 a1 a2).objs.size=s.heap.objs.size+3:=by rw[Heap.size_push,y2]
 have y4:(FX s.heap k1 k2 a1 a2).objs.size=s.heap.objs.size+4:=by rw[Heap.size_push,y3]
 have e5:(zP s.heap k1 k2 a1 a2).get? (FX s.heap k1 k2 a1 a2).objs.size=some _:=Heap.get?_push_size _ rfl;have e4:(zP s.heap k1 k2 a1 a2).get? (Fb s.heap k1 k2 a1 a2).objs.size=some _:=Heap.get?_push_of_some _ (Heap.get?_push_size _ rfl);have e3:(zP s.heap k1 k2 a1 a2).get? (FL s.heap k1 k2 a1 a2).objs.size=some _:=Heap.get?_push_of_some _ (Heap.get?_push_of_some _ (Heap.get?_push_size _ rfl));have e2:(zP s.heap k1 k2 a1 a2).get? (E_ s.heap k1 a1).objs.size=some (yO k2 a2):=Heap.get?_push_of_some _ (Heap.get?_push_of_some _ (Heap.get?_push_of_some _ (Heap.get?_push_size _ (by cases k2<;>rfl))));have e1:(zP s.heap k1 k2 a1 a2).get? s.heap.objs.size=some (yO k1 a1):=Heap.get?_push_of_some _ (Heap.get?_push_of_some _ (Heap.get?_push_of_some _ (Heap.get?_push_of_some _ (Heap.get?_push_size _ (by cases k1<;>rfl)))));show _/\_;rw[y2,y3,y4]at e5;rw[y1,y2]at e3;rw[y3]at e4;rw[y1]at e2;rw[y4];exact⟨⟨_,e5,rfl⟩,q _ _ rfl e5 e3 e4 (zw (h:=s.heap) e1) (zw (h:=s.heap) e2) fun c o x=>Heap.get?_push_of_some _ (Heap.get?_push_of_some _ (Heap.get?_push_of_some _ (Heap.get?_push_of_some _ (Heap.get?_push_of_some _ x))))⟩
def Fx:D->SK
 | .tup _=> .t
 |_=> .l
def Cj(k:SK)(G:Hp)(a:Addr)(vs:List V):Prop:=match k with
 | .l=>Rd G a (.lst vs)
 | .t=>G a=some (.tup vs)
theorem i7{K:PySem.W.Frag}{k:SK}{G F H:Hp}(P:bQ G F H){a:Addr}{vs:List V}(h:Cj k G a vs):ou k K H a vs:=by
 cases k
 . exact .inl (gv P h)
 . exact hJ.of (P.get h)
theorem mR{α:List (Option Addr)}{H:Hp}{st:ag}{d:D}{v:V}{xs:List D}(S:aR α st H)(r:Rep α H d v)(e:items? st d=some xs):∃p vs,v= .ref p/\aG α H xs vs/\Cj (Fx d) H p vs:=by
 cases d<;>try(cases e;done)
 . unfold items? at e;simp only at e;split at e
   . rename_i ys q;cases e;obtain⟨a,ea,vs,h1,h2⟩:=S.i3 q;exact⟨a,vs,dD ea r,h2,Rd.of h1⟩
   . cases e
 . cases e;unfold Rep at r;obtain⟨a,vs,rfl,_,h1,h2⟩:=r;exact⟨a,vs,rfl,h2,h1⟩
 . cases e;unfold Rep at r;obtain⟨a,vs,rfl,_,h1,h2⟩:=r;exact⟨a,vs,rfl,h2,h1⟩
def h7(xs ys:List D):List D:=(xs.zip ys).map fun p=> .tup [p.1,p.2]
theorem xJ{xs ys:List D}:(h7 xs ys).length=min xs.length ys.length:=by unfold h7;simp
theorem sS{xs ys:List D}{n:Nat}{d:D}(e:(h7 xs ys)[n]?=some d):∃x y,xs[n]?=some x/\ys[n]?=some y/\d= .tup [x,y]:=by
 unfold h7 at e;rw[List.getElem?_map]at e;cases q:(xs.zip ys)[n]? with
 |none=>rw[q]at e;cases e
 |some p=>
  rw[q]at e;cases e;rw[List.getElem?_zip_eq_some]at q;exact⟨p.1,p.2,q.1,q.2,rfl⟩
theorem Jc{K:PySem.W.Frag}{k1 k2:SK}{a1 a2:Addr}{α:List (Option Addr)}{G:Hp}{ok:ag->Prop}{xs ys:List D}
 (h:∀α' G' st',Step α G α' G'->aR α' st' G'->ok st'->∃vs ws,Cj k1 G' a1 vs/\Cj k2 G' a2 ws/\aG α' G' xs vs/\aG α' G' ys ws):tm (MB K k1 k2 a1 a2) α G ok (h7 xs ys) where
 stop:=fun n α' G' F' H' st' s P S o hn=>by
  obtain⟨vs,ws,h1,h2,r1,r2⟩:=h α' G' st' s S o;rw[xJ]at hn;refine⟨vs,ws,i7 P h1,i7 P h2,?_⟩;have:=r1.length;have:=r2.length;omega
 go:=fun n d α' G' F' H' st' s P S o hn=>by
  obtain⟨vs,ws,h1,h2,r1,r2⟩:=h α' G' st' s S o;obtain⟨x,y,ex,ey,rfl⟩:=sS hn;obtain⟨v,ev,_⟩:=r1.get ex;obtain⟨u,eu,_⟩:=r2.get ey;exact⟨vs,ws,v,u,i7 P h1,i7 P h2,ev,eu⟩
 nN:=fun n d α' G' F' H' st' x H'' s P S o hn y=>by
  obtain⟨vs,ws,h1,h2,r1,r2⟩:=h α' G' st' s S o;obtain⟨c,e,ec,ee,rfl⟩:=sS hn;obtain⟨T,v,u,hT,rfl,rfl,y1,y2⟩:=y;obtain⟨v',ev,rv⟩:=r1.get ec;obtain⟨u',eu,ru⟩:=r2.get ee;rw[y1 vs (i7 P h1)]at ev;rw[y2 ws (i7 P h2)]at eu;cases ev;cases eu;have hg:=(P.none hT).1;refine⟨upd G' T (.tup [v,u]),Step.laid hg,P.laid hT,S.laid hg,?_⟩;unfold Rep;refine⟨T,[v,u],rfl,S.j4 hg,aY,?_⟩;unfold aG;refine⟨v,[u],rfl,rv.step (Step.laid hg),?_⟩;unfold aG;exact⟨u,[],rfl,ru.step (Step.laid hg),by unfold aG;rfl⟩
def E3(ds:List D)(st1:ag)(K:List D->(ag->Prop)->ag->Prop):Prop:=match ds with
 | [x,y]=>(match items? st1 x,items? st1 y with
   |some xs,some ys=>K (h7 xs ys) (fun st'=>items? st' x=some xs/\items? st' y=some ys) st1
   |_,_=>False)
 |_=>False
@[irreducible] def ui:List D->ag->(List D->(ag->Prop)->ag->Prop)->Prop:=E3
def yq(t:DA):DI:=fun σ st K=>t σ st fun ds st1=>ui ds st1 K
theorem GX{n a1 a2:Nat}(h1:a1<n)(h2:a2<n):zx (n+4) (n+2) (n+3) n (n+1) a1 a2:=by
 have e0:([n+4,n+2,n+3,n,n+1]:List Nat).Nodup:=by
  simp only[List.nodup_cons,List.mem_cons,not_or,List.not_mem_nil,not_false_eq_true,and_true,List.nodup_nil];omega
 have e1:∀a:Nat,a<n->a∉([n+4,n+2,n+3,n,n+1]:List Nat):=fun a ha=>by
  simp only[List.mem_cons,not_or,List.not_mem_nil,not_false_eq_true,and_true];omega
 exact⟨e0,e1 a1 h1,e1 a2 h2⟩
theorem KD{X:Cx}{a b:Expr}{elts:List Expr}{kx:Nat}{tpos p pos:Pos}{t:DA}(hg:Gl X "zip")(hm:X.mg "zip"=none)(ha:PA X [a,b] (LA t))(hs:starEach [a,b] X.env=[(false,eval a X.env),(false,eval b X.env)])(hs2:starEach [b] X.env=[(false,eval b X.env)]):
 PI X (.Tuple elts kx tpos) (.Call (.Name "zip" p) [a,b] [] pos) (LI (yq t)):=by
 intro pins s σ H R I h;obtain⟨α,σd,st,K,G,F,P,RS,S,t,k⟩:=h;refine Call_ (jN I hg hm boot_zip (PyProof.Rows.callWith_type1 (bL (ha pos pins s σ H (fun vs H1=>∃ds α1 G1 st1,Step α G α1 G1/\bQ G1 F H1/\aR α1 st1 G1/\aG α1 G1 ds vs/\ui ds st1 K) I ⟨α,σd,st,_,G,F,P,RS,S,t,fun ds st1 q α1 G1 H1 vs s1 P1 S1 r1=>⟨ds,α1,G1,st1,s1,P1,S1,r1,q⟩⟩) fun us s1 ⟨vs,H1,I1,rv,ds,α1,G1,st1,w1,P1,S1,r1,q⟩=>?_) (by rw[hs,hs2]) (by rw[hs2];rfl)));unfold ui E3 at q;split at q
 . rename_i x y;split at q
   . rename_i xs ys ex ey;obtain⟨v1,v2,rfl,q1,q2⟩:=ph r1 rfl;obtain⟨p1,vs1,rfl,g1,c1⟩:=mR S1 q1 ex;obtain⟨p2,vs2,rfl,g2,c2⟩:=mR S1 q2 ey;obtain⟨u1,u2,rfl,ru1,ru2⟩:=vals2 rv;cases ru1;cases ru2;obtain⟨its1,_,l1⟩:=jC I1 (i7 P1 c1);obtain⟨its2,_,l2⟩:=jC I1 (i7 P1 c2);refine EX l1 l2 fun g n hn Z pI pO i1 i2 kp=>?_;obtain⟨o1,eo1⟩:=l1.some;obtain⟨o2,eo2⟩:=l2.some;refine wpAny_pyIter_zip (s:={s1 with heap:=g}) Z ?_;refine⟨n+4,[n+4,n+2,n+3,n,n+1],_,_,H1,rfl,I1.kept (t':=s1.toks) kp,EE (Fx x) (Fx y) (GX (by rw[hn];exact Heap.lt_size eo1) (by rw[hn];exact Heap.lt_size eo2)),⟨Z,pI,⟨_,_,pO⟩,i1,i2⟩,fun b hb=>?_,?_⟩
     . have hb':s1.heap.objs.size<=b:=by
        simp only[List.mem_cons,List.not_mem_nil,or_false]at hb;rcases hb with rfl|rfl|rfl|rfl|rfl<;>(rw[<-hn];first|exact Nat.le_refl _|exact Nat.le_add_right _ _)
       exact I1.sM hb' (I1.aK.fresh hb')
     . refine k _ _ st1 q _ α1 G1 H1 w1 P1 S1 (Jc fun α' G' st' s' S' o=>?_);obtain⟨p1',ws1,e1,f1,d1⟩:=mR S' (q1.step s') o.1;obtain⟨p2',ws2,e2,f2,d2⟩:=mR S' (q2.step s') o.2;cases e1;cases e2;exact⟨ws1,ws2,d1,d2,f1,f2⟩
   . exact q.elim
 . exact q.elim
theorem yK{st:ag}{x y:D}{xs ys:List D}{K:List D->(ag->Prop)->ag->Prop}(ex:items? st x=some xs)(ey:items? st y=some ys)(k:∀ok:ag->Prop,(∀st',items? st' x=some xs->items? st' y=some ys->ok st')->K (h7 xs ys) ok st):ui [x,y] st K:=by
 unfold ui E3;simp only[ex,ey];exact k _ fun st' h1 h2=>⟨h1,h2⟩
theorem AR{X:Cx}{a b:Expr}{elts:List Expr}{kx:Nat}{tpos p pos:Pos}{ar:DA}(hg:Gl X "zip")(hm:X.mg "zip"=none)(ha:JA X [a,b] ar)(hs:notStar a=true:=by rfl)(hs2:notStar b=true:=by rfl):JI X (.Tuple elts kx tpos) (.Call (.Name "zip" p) [a,b] [] pos) (yq ar):=by
 unfold JI;unfold JA at ha;exact KD hg hm ha (by rw[cv hs,cv hs2];rfl) (cv hs2)
section
variable {X:Cx}
end
section
variable {X:Cx}{pos:Pos}
theorem K5{α:List (Option Addr)}{H:Hp}{ds:List D}{xs:List V}{d e f:D}(r:aG α H ds xs)(q:ds=[d,e,f]):∃v u t,xs=[v,u,t]/\Rep α H d v/\Rep α H e u/\Rep α H f t:=by
 subst q;unfold aG at r;obtain⟨v,q,rfl,h1,h2⟩:=r;obtain⟨u,t,rfl,h3,h4⟩:=ph h2 rfl;exact⟨v,u,t,rfl,h1,h3,h4⟩
end
end L3
namespace L3
open PySem L2 PySem.SeqAt
open PySem.Spec hiding items?
open PyProof.Rows hiding St
section
variable {X:Cx}{pins:List (Addr×Obj)}{σ:L2.St}{H:Hp}{s:Shared}{α:List (Option Addr)}
theorem zJ{A:Around}{d e:D}{x y:V}{u v:Value}(hd:vU d=true)(he:vU e=true)(rd:Rep α H d x)(re:Rep α H e y)(rx:RelV x u)(ry:RelV y v):RcNeAt A s u v (!cx d e):=by
 cases d<;>cases e<;>try(first|(cases hd;done)|(cases he;done))
 all_goals(unfold Rep at rd re;subst rd re)
 all_goals(first|(obtain⟨t,rfl⟩:=rx;obtain⟨t',rfl⟩:=ry)|(obtain⟨t,rfl⟩:=rx;cases ry)|(cases rx;obtain⟨t,rfl⟩:=ry)|(cases rx;cases ry))
 all_goals unfold cx
 . exact RcNeAt.none_none
 . exact RcNeAt.none_bool _
 . exact RcNeAt.none_int _ _
 . exact RcNeAt.none_str _ _
 . exact RcNeAt.bool_none _
 . exact RcNeAt.bool_bool _ _
 . exact RcNeAt.bool_int _ _ _
 . exact RcNeAt.bool_str _ _ _
 . exact RcNeAt.int_none _ _
 . exact RcNeAt.int_bool _ _ _
 . exact RcNeAt.int_int _ _ _ _
 . exact RcNeAt.int_str _ _ _ _
 . exact RcNeAt.str_none _ _
 . exact RcNeAt.str_bool _ _ _
 . exact RcNeAt.str_int _ _ _ _
 . exact RcNeAt.str_str _ _ _ _
theorem vL(I:Inv X pins σ H s){A:Around}{xs:List D}{e:D}{x y:V}{u v:Value}(he:vU e=true)(rd:Rep α H (.lst xs) x)(re:Rep α H e y)(rx:RelV x u)(ry:RelV y v)(hu:A.units<cLine):
 RcNeAt A s u v (!cx (.lst xs) e)/\RcNeAt A s v u (!cx e (.lst xs)):=by
 obtain⟨a,vs,aq,rfl,_,_,hl⟩:=lst_is I rd rx;cases e<;>try(cases he;done)
 all_goals(unfold Rep at re;subst re)
 all_goals(first|(obtain⟨t,rfl⟩:=ry)|(cases ry))
 all_goals unfold cx
 . exact⟨RcNeAt.list_none hl hu,RcNeAt.none_list hl hu⟩
 . exact⟨RcNeAt.list_bool _ hl hu,RcNeAt.bool_list _ hl hu⟩
 . exact⟨RcNeAt.list_int _ _ hl hu,RcNeAt.int_list _ _ hl hu⟩
 . exact⟨RcNeAt.list_str _ _ hl hu,RcNeAt.str_list _ _ hl hu⟩
theorem v9(I:Inv X pins σ H s){A:Around}{xs:List D}{e:D}{x y:V}{u v:Value}(he:vU e=true)(rd:Rep α H (.tup xs) x)(re:Rep α H e y)(rx:RelV x u)(ry:RelV y v)(hu:A.units<cLine):
 RcNeAt A s u v (!cx (.tup xs) e)/\RcNeAt A s v u (!cx e (.tup xs)):=by
 obtain⟨a,vs,aq,rfl,_,_,hl⟩:=tup_is I rd rx;cases e<;>try(cases he;done)
 all_goals(unfold Rep at re;subst re)
 all_goals(first|(obtain⟨t,rfl⟩:=ry)|(cases ry))
 all_goals unfold cx
 . exact⟨RcNeAt.tuple_none hl hu,RcNeAt.none_tuple hl hu⟩
 . exact⟨RcNeAt.tuple_bool _ hl hu,RcNeAt.bool_tuple _ hl hu⟩
 . exact⟨RcNeAt.tuple_int _ _ hl hu,RcNeAt.int_tuple _ _ hl hu⟩
 . exact⟨RcNeAt.tuple_str _ _ hl hu,RcNeAt.str_tuple _ _ hl hu⟩
theorem L7(I:Inv X pins σ H s)(n:Nat)(A:Around)(d e:D)(x y:V)(u v:Value)(hd:pl n d=true)(he:pl n e=true)(rd:Rep α H d x)(re:Rep α H e y)(rx:RelV x u)(ry:RelV y v)(hu:A.units+n<cLine):RcNeAt A s u v (!cx d e):=by
 cases n with
 |zero=>
  refine zJ ?_ ?_ rd re rx ry
  . cases d<;>first|rfl|(cases hd)
  . cases e<;>first|rfl|(cases he)
 |succ n=>
  have hu0:A.units<cLine:=by omega
  have hin:A.in1.units+n<cLine:=by rw[Around.in1_units];omega
  cases d<;>try(cases hd;done)
  case lst xs=>
   cases e<;>try(cases he;done)
   case lst ys=>
    obtain⟨a,vs,aq,rfl,r1,v1,l1⟩:=lst_is I rd rx;obtain⟨b,ws,jts,rfl,r2,v2,l2⟩:=lst_is I re ry;have e1:=r1.length;have e2:=v1.length;have e3:=r2.length;have e4:=v2.length;unfold cx;by_cases hlen:xs.length=ys.length
    . rw[m7 hlen];have hsz:aq.toArray.size=jts.toArray.size:=by simp only[List.size_toArray];omega
      have hx:xs.length=aq.toArray.size:=by simp only[List.size_toArray];omega
      rw[hx];refine RcNeAt.lists l1 l2 hsz hu0 fun j h1 h2=>?_;obtain⟨p,_,q1,q2⟩:=js r1 v1 j (by simpa using h1);obtain⟨p',_,q1',q2'⟩:=js r2 v2 j (by simpa using h2);exact(Bw I n A.in1 _ _ p p' _ _ (ia (by unfold pl at hd;exact hd) j) (ia (by unfold pl at he;exact he) j) q1 q1' (by simpa using q2) (by simpa using q2') hin).2
    . rw[m9 hlen];exact RcNeAt.lists_lengths l1 l2 (by simp only[List.size_toArray,bne_iff_ne,ne_eq];omega) hu0
   case tup ys=>
    obtain⟨a,vs,aq,rfl,r1,v1,l1⟩:=lst_is I rd rx;obtain⟨b,ws,jts,rfl,r2,v2,l2⟩:=tup_is I re ry;unfold cx;exact RcNeAt.list_tuple l1 l2 hu0
   all_goals exact(vL I rfl rd re rx ry hu0).1
  case tup xs=>
   cases e<;>try(cases he;done)
   case tup ys=>
    obtain⟨a,vs,aq,rfl,r1,v1,l1⟩:=tup_is I rd rx;obtain⟨b,ws,jts,rfl,r2,v2,l2⟩:=tup_is I re ry;have e1:=r1.length;have e2:=v1.length;have e3:=r2.length;have e4:=v2.length;unfold cx
    have key:=RcNeAt.tuples (e:=fun j=>cx (xs.getD j .aE) (ys.getD j .aE)) l1 l2 hu0 fun j h1 h2=>by
     obtain⟨p,_,q1,q2⟩:=js r1 v1 j (by simpa using h1);obtain⟨p',_,q1',q2'⟩:=js r2 v2 j (by simpa using h2);exact(Bw I n A.in1 _ _ p p' _ _ (ia (by unfold pl at hd;exact hd) j) (ia (by unfold pl at he;exact he) j) q1 q1' (by simpa using q2) (by simpa using q2') hin).2
    by_cases hlen:xs.length=ys.length
    . rw[m7 hlen];have hsz:aq.toArray.size=jts.toArray.size:=by simp only[List.size_toArray];omega
      have hx:xs.length=aq.toArray.size:=by simp only[List.size_toArray];omega
      rw[hsz,Nat.min_self,beq_self_eq_true,Bool.and_true,<-hsz,<-hx]at key;exact key
    . rw[m9 hlen];have hne:(aq.toArray.size==jts.toArray.size)=false:=by simp only[List.size_toArray,beq_eq_false_iff_ne,ne_eq];omega
      rw[hne,Bool.and_false]at key;exact key
   case lst ys=>
    obtain⟨a,vs,aq,rfl,r1,v1,l1⟩:=tup_is I rd rx;obtain⟨b,ws,jts,rfl,r2,v2,l2⟩:=lst_is I re ry;unfold cx;exact RcNeAt.tuple_list l1 l2 hu0
   all_goals exact(v9 I rfl rd re rx ry hu0).1
  all_goals
   cases e<;>try(cases he;done)
   case lst ys=>exact(vL I rfl re rd ry rx hu0).2
   case tup ys=>exact(v9 I rfl re rd ry rx hu0).2
   all_goals exact zJ rfl rfl rd re rx ry
def Jp:cZ:=fun x y st K=>pl 40 x=true/\pl 40 y=true/\K (.bl (!cx x y)) st
theorem K8{k:Nat}(hr:cC k X.A):bS X (compareOp .NotEq) (LR Jp):=fun pins s σ H x y v u Q I rx ry ⟨α,d,e,st,K,G,F',P,r1,r2,S,q,k⟩=>by
 have hu:=hr.units;exact L7 I 40 X.A d e x y v u q.1 q.2.1 (r1.mono P.same) (r2.mono P.same) rx ry (by omega) _ _ _ _ ⟨.bl (!cx d e),H,I,rfl,k.here P q.2.2 S (by unfold Rep;rfl)⟩
@[irreducible] def qI:cZ:=Jp
theorem Bm{k:Nat}(hr:cC k X.A):bS X (compareOp .NotEq) (LR qI):=by unfold qI;exact K8 hr
end
theorem KL{st:ag}{K:DK}{d e:D}(h1:pl 40 d=true)(h2:pl 40 e=true)(k:K (.bl (!cx d e)) st):qI d e st K:=by unfold qI;exact⟨h1,h2,k⟩
theorem o_{st:ag}{K:DK}{d:D}(h:pl 40 d=true)(k:K (.bl false) st):qI d d st K:=KL h h (by rw[o8 40 d h];exact k)
theorem CO{st:ag}{n:Nat}{xs:List D}(h:items? st (.ref n)=some xs):st[n]?=some (.lst xs):=by
 unfold items? at h;simp only at h;split at h
 . rename_i q;cases h;exact q
 . cases h
end L3
namespace L3
open PySem L2
open PySem.Spec hiding items?
open PyProof.Rows hiding St
section
variable {X:Cx}
def Fy:cZ:=fun x y st K=>match x,y with
 | .lst xs,.int k=>(-(2^63)<=k/\k<2^63/\xs.length*k.toNat<=sizeLine)/\K (.ref st.length) (st++[.lst (List.replicate k.toNat xs).flatten])
 |_,_=>False
theorem Jx:bS X (binaryOp .Mult) (LR Fy):=fun pins s σ H x y v u Q I rx ry ⟨α,d,e,st,K,G,F',P,r1,r2,S,q,k⟩=>by
 cases d<;>cases e<;>try exact q.elim
 unfold Rep at r1 r2;obtain⟨a,vs,rfl,na,ha,ra⟩:=r1;refine zR pins s σ H _ _ v u Q I rx ry ⟨a,_,vs,rfl,r2,gv P ha,q.1.1,q.1.2.1,by rw[<-ra.length];exact q.1.2.2,fun p hp=>?_⟩;exact k.new P q.2 S (a_.mpr (kZ (a_.mp ra) _)) hp
@[irreducible] def uD:cZ:=Fy
theorem II:bS X (binaryOp .Mult) (LR uD):=by unfold uD;exact Jx
end
theorem HR{st:ag}{K:DK}{xs:List D}{i:Int}(h: -(2^63)<=i/\i<2^63/\xs.length*i.toNat<=sizeLine)(k:K (.ref st.length) (st++[.lst (List.replicate i.toNat xs).flatten])):uD (.lst xs) (.int i) st K:=by unfold uD;exact⟨h,k⟩
theorem CK{n:Nat}{d:D}(h:d∈dR 0 n):∃i:Nat,i<n/\d= .int (i:Int):=by
 unfold dR at h;obtain⟨i,hi,rfl⟩:=List.mem_map.mp h;rw[List.mem_range]at hi;exact⟨i,hi,by rw[Int.zero_add]⟩
theorem Cy{f:Nat->D}(n:Nat):(dR 0 n).map (fun d=>match d with| .int i=>f i.toNat|_=> .aE)=(List.range n).map f:=by
 unfold dR;rw[List.map_map];refine List.map_congr_left fun i _=>?_;show f ((0:Int)+(i:Int)).toNat=f i;have:((0:Int)+(i:Int)).toNat=i:=by omega
 rw[this]
theorem pE{tg:fN}{te:DE}{σc:bG}{st:ag}{K:List D->ag->Prop}(f:Nat->D)(n:Nat)(hx:∀i:Nat,i<n->∀K',K' (f i) st->∃σ2,tg (.int (i:Int)) σc=some σ2/\te σ2 st K')(k:K ((List.range n).map f) st):cR tg cN te (fun _=>True) σc (dR 0 n) [] st K:=by
 refine comp_map (g:=fun d=>match d with| .int i=>f i.toNat|_=> .aE) trivial _ (fun d hd K' q=>?_) (by rw[Cy];exact k);obtain⟨i,hi,rfl⟩:=CK hd;exact hx i hi K' q
theorem nR{tg:fN}{body:DS}{E:mx}(n:Nat)(I:Nat->bG->ag->Prop)(hend:∀σ st,I n σ st->E.nx σ st)
 (hstep:∀(j:Nat) σ st (rest:List D),j<n->I j σ st->(∀σ' st',I (j+1) σ' st'->hO tg body (fun _=>True) E rest σ' st')->∃σ1,tg (.int (j:Int)) σ=some σ1/\body {E with nx:=hO tg body (fun _=>True) E rest,ct:=hO tg body (fun _=>True) E rest,bk:=E.nx} σ1 st)
 {σ:bG} {st:ag} (h0:I 0 σ st):hO tg body (fun _=>True) E (dR 0 n) σ st:=by
 refine ju (fun rest σ st=>∃j:Nat,j<=n/\rest=(List.range (n-j)).map (fun i=>D.int (((j+i:Nat):Int)))/\I j σ st) ?_ ?_ _ _ _ ⟨0,Nat.zero_le _,by unfold dR;simp,h0⟩
 . rintro σ st ⟨j,hj,hr,hI⟩
   have:n-j=0:=by
    cases q:n-j with
    |zero=>rfl
    |succ m=>rw[q,List.range_succ_eq_map]at hr;cases hr
   have hjn:j=n:=by omega
   subst hjn;exact⟨trivial,hend σ st hI⟩
 . rintro d rest σ st ⟨j,hj,hr,hI⟩ next
   cases q:n-j with
   |zero=>rw[q]at hr;cases hr
   |succ m=>
    rw[q,List.range_succ_eq_map,List.map_cons,List.map_map]at hr;simp only[List.cons.injEq]at hr;obtain⟨rfl,hrest⟩:=hr;refine⟨trivial,hstep j σ st rest (by omega) hI fun σ' st' h'=>next σ' st' ⟨j+1,by omega,?_,h'⟩⟩;have:n-(j+1)=m:=by omega
    rw[this,hrest];refine List.map_congr_left fun i _=>?_;show D.int (((j+(i+1):Nat):Int))=D.int (((j+1+i:Nat):Int));congr 2;omega
section
variable {X:Cx}
end
section
variable {X:Cx}{pos:Pos}
end
section
variable {X:Cx}
theorem uU{M:Model}{A:Around}{E:Value->Shared->Prop}{s:Shared}{Q:Value->Shared->Prop}{x:V}{v:Value}{b:Bool}(r:RelV x v)(h:Q (.bool (!(v== .bool b))) s):wpAny M A (compareOp .IsNot v (.bool b)) Q E s:=by
 cases x
 case bl c=>
  cases r;cases c<;>cases b<;>exact wpAny_pure h
 all_goals first
  |(cases r;exact wpAny_pure h)
  |(obtain⟨t,rfl⟩:=r;exact wpAny_pure h)
def yF:cZ:=fun x y st K=>match y with| .aE=>live st x=true/\K (.bl (!MR x)) st| .bl b=>live st x=true/\K (.bl (!Iz x b)) st|_=>False
theorem E7:bS X (compareOp .IsNot) (LR yF):=fun pins s σ H x y v u Q I rx ry ⟨α,d,e,st,K,G,F',P,r1,r2,S,q,k⟩=>by
 cases e<;>try exact q.elim
 . refine Gs pins s σ H x y v u Q I rx ry ⟨α,d,.aE,st,K,G,F',P,r1,r2,S,⟨q.1,?_⟩,k⟩;have q2:=q.2;cases d<;>exact q2
 . rename_i b;unfold Rep at r2;subst r2;cases ry;refine uU rx ?_;rw[GH S q.1 r1 rx];exact⟨.bl (!Iz d b),H,I,rfl,k.here P q.2 S (by unfold Rep;rfl)⟩
@[irreducible] def rR:cZ:=yF
theorem C5:bS X (compareOp .IsNot) (LR rR):=by unfold rR;exact E7
end
section
variable {st:ag}{K:DK}{d:D}{b:Bool}
theorem ux(h:live st d=true)(k:K (.bl (!MR d)) st):rR d .aE st K:=by unfold rR;exact⟨h,k⟩
end
section
variable {X:Cx}
end
end L3
namespace L3
open PySem L2
open PySem.Spec hiding items?
open PyProof.Rows hiding St
open AutoSeq1 (wpAny_loadPart')
theorem Hw{P:Program}{w:World}{A:Around}(hh:A.handled=none)(k:SK)(t a:Addr)(hne:a≠t)(us:Array Value):Draws P w A t [t,a] us.size (fun i v=>us[i]?=some v) (fun n g=>pX k t a n g/\ly k g a us) where
 live:=fun i h z=>((mm (P:=P) (w:=w) k t a hne us).lv i h z).1
 frame:=fun i h h' z kp=>(mm (P:=P) (w:=w) k t a hne us).fr i h h' z fun b hb o e=>kp b (by rcases hb with rfl|rfl<;>simp) o e
 item:=fun i s Q E hi z q=>(mm (P:=P) (w:=w) k t a hne us).nx i A s Q E us[i] z (by simp[hi]) fun g j sb=>q _ g s.toks (by simp[hi]) j sb
 done:=fun s Q E z q=>(mm (P:=P) (w:=w) k t a hne us).en us.size A s Q E hh z (by simp) q
theorem pd(l:Addr)(items:Array Value)(n:Nat)(dct:Option Addr)(sl:Array (Option Value)):
 Meets (Builtin.«enumerate.__new__» ⟨[.type "enumerate",.ref l],[]⟩) (fun _ R s=>s.heap.get? l=some {cls:= .type "tuple",dict:=dct,data:= .seq items n,slots:=sl}/\
  R (.ok (.ret (.ref (s.heap.push {cls:= .type "tuple_iterator",data:= .fields #[.ref l,.int 0 0]}).objs.size)))
   {s with heap:=(s.heap.push {cls:= .type "tuple_iterator",data:= .fields #[.ref l,.int 0 0]}).push {cls:= .type "enumerate",data:= .fields #[.none,.bool false,.ref s.heap.objs.size,rawInt 0,.none,.none]}}):=
 .of_wp fun prog w A R s h=>by
  obtain⟨hp,g,d,tk,os⟩:=s;obtain⟨hl,h⟩:=h;have hsub:=sub_enumerate;have hL:Heap.IsTuple (Shared.heap ⟨hp,g,d,tk,os⟩) l items:=⟨_,hl,rfl,n,rfl⟩
  wp_walk using wpAny_loadPart' hl
  refine wpAny_stack_any fun st=>wpAny_pure ?_;split
  . rename_i c _ _ _ _ _;cases (c==Value.type "enumerate")
    . wp_walk using wpAny_loadPart' hl,wpAny_pyIter_tuple hL
      exact⟨_,rfl,h⟩
    . wp_walk using wpAny_loadPart' hl,wpAny_pyIter_tuple hL
      exact⟨_,rfl,h⟩
  . wp_walk using wpAny_loadPart' hl,wpAny_pyIter_tuple hL
    exact⟨_,rfl,h⟩
theorem CH{P:Program}{w:World}{A:Around}{s:Shared}{E:Value->Shared->Prop}{k:SK}{a:Addr}{us:Array Value}{Q:Value->Shared->Prop}(c:ly k s.heap a us)
 (q:∀g,IsEnum g (s.heap.objs.size+1) s.heap.objs.size 0 .none->pX k s.heap.objs.size a 0 g->(∀b o,s.heap.get? b=some o->g.get? b=some o)->Q (.ref (s.heap.objs.size+1)) {s with heap:=g}):
 wpAny (model P w) A (call (.type "enumerate") [.ref a]) Q E s:=by
 cases k
 . exact call_enumerate_list c fun g h1 h2 _ h4=>q g h1 h2 h4
 . obtain⟨⟨c,dct,dt,sl⟩,hl,hc,n,hd⟩:=c;replace hc:c= .type "tuple":=hc;replace hd:dt= .seq us n:=hd;subst hc hd
   refine callType_new F.called_enumerate (by decide) (F.typeCall_enumerate_1 _) (F.newCall_enumerate_1 _) (fun obj=>F.args_object_init_2 obj _) F.entry_enumerate_new
    (pd a us n dct sl) ⟨hl,?_⟩
   have hz:(s.heap.push {cls:= .type "tuple_iterator",data:= .fields #[.ref a,.int 0 0]}).objs.size=s.heap.objs.size+1:=Heap.size_push ..;show _/\_;rw[hz]
   have he:IsEnum ((s.heap.push {cls:= .type "tuple_iterator",data:= .fields #[.ref a,.int 0 0]}).push
    {cls:= .type "enumerate",data:= .fields #[.none,.bool false,.ref s.heap.objs.size,rawInt 0,.none,.none]}) (s.heap.objs.size+1) s.heap.objs.size 0 .none:=by
    have:=Heap.get?_push_size (s.heap.push {cls:= .type "tuple_iterator",data:= .fields #[.ref a,.int 0 0]})
     (o:={cls:= .type "enumerate",data:= .fields #[.none,.bool false,.ref s.heap.objs.size,rawInt 0,.none,.none]}) rfl
    rw[hz]at this;exact this
   exact⟨⟨_,he,rfl⟩,q _ he ⟨_,Heap.get?_push_of_some _ (Heap.get?_push_size _ rfl),rfl,rfl⟩ fun b o x=>Heap.get?_push_of_some _ (Heap.get?_push_of_some _ x)⟩
def Mz(K:PySem.W.Frag)(k:SK)(a:Addr):It:=
 ⟨fun i H=>∃xs x,ou k K H a xs/\xs[i]?=some x,
  fun i H v H'=>∃T x,H T=none/\v= .ref T/\H'=upd H T (.tup [.int (i:Int),x])/\∀xs,ou k K H a xs->xs[i]?=some x,
  fun i H=>∃xs,ou k K H a xs/\xs.length<=i⟩
def M4(e t a:Addr)(k:SK)(i:Nat)(h:Heap):Prop:=(∃old,IsEnum h e t i old)/\pX k t a i h
theorem CD{P:Program}{w:World}{K:PySem.W.Frag}{elts:List Expr}{kx:Nat}{pos:Pos}{e t a:Addr}(k:SK)(n1:e≠t)(n2:a≠e)(n3:a≠t):
 Turn P w K (.Tuple elts kx pos) (Mz K k a) [e,t] e (M4 e t a k) where
 mem:=by simp
 obj:=fun i h st b hb=>by
  obtain⟨⟨old,he⟩,i1⟩:=st;simp only[List.mem_cons,List.not_mem_nil,or_false]at hb;rcases hb with rfl|rfl
  . exact⟨_,he,fun v z=>by cases z⟩
  . exact mE i1
 keep:=fun i h h' st kp=>by
  obtain⟨⟨old,he⟩,i1⟩:=st;exact⟨⟨old,kp e (by simp) _ he⟩,oJ i1 (kp t (by simp))⟩
 item:=by
  intro X hP hw hK hc i pins s σ H E I hf st hg;subst hP hw hK;obtain⟨⟨old,he⟩,i1⟩:=st;obtain⟨xs,x,q1,ex⟩:=hg;obtain⟨us,r1,l1⟩:=jC I q1;obtain⟨u,eu,ru⟩:=r1.get ex
  have hlt:i<us.toArray.size:=by
   have:=(List.getElem?_eq_some_iff.mp eu).1;simpa using this
  refine wpAny_pyNext_enum_itemD (Hw (A:=X.A.in1) (show X.A.in1.handled=none from I.ok.hd hc) k t a n3 us.toArray) he ⟨i1,l1⟩ hlt n1 (by simp only[List.mem_cons,List.not_mem_nil,or_false,not_or];exact⟨n1,Ne.symm n2⟩) fun y h' tk py ho hs hT hsz kp=>⟨_,rfl,?_⟩
  have hy:y=u:=by
   have:us[i]?=some y:=by simpa using py
   rw[eu]at this;cases this;rfl
  subst hy;refine wpAny_letOwnedTupleGo_enum (s:={s with heap:=h',toks:=tk+1}) ho fun k' he' sb=>?_;have hTe:s.heap.objs.size≠e:=Nat.ne_of_gt (Heap.lt_size he)
  have kp3:∀b o,b∉[e,t]->s.heap.get? b=some o->k'.get? b=some o:=fun b o hb eb=>by
   simp only[List.mem_cons,not_or,List.not_mem_nil,not_false_eq_true,and_true]at hb;exact sb.extBut _ _ hb.1 (kp b o hb.1 hb.2 eb)
  refine⟨.ref s.heap.objs.size,upd H s.heap.objs.size (.tup [.int (i:Int),x]),FW (s:=s) (tk:=tk+1) I hf kp3 (Nat.le_refl _) ?_,rfl,⟨s.heap.objs.size,x,I.aK.fresh (Nat.le_refl _),rfl,rfl,?_⟩,?_,?_⟩
  . refine⟨Nat.le_of_ble_eq_true rfl,[.int (i:Int) tk,y],.cons ⟨tk,rfl⟩ (.cons ru .nil),?_⟩;exact⟨_,sb.extBut _ _ hTe hT,rfl,_,rfl⟩
  . intro xs' q';rw[u7 I q' q1];exact ex
  . refine⟨⟨_,by simpa using he'⟩,oJ hs.1 fun o eo=>sb.extBut _ _ (Ne.symm n1) eo⟩
  . intro b hb
    have:b≠s.heap.objs.size:=by
     obtain⟨o,eb⟩:∃o,s.heap.get? b=some o:=by
      simp only[List.mem_cons,List.not_mem_nil,or_false]at hb;rcases hb with rfl|rfl
      . exact⟨_,he⟩
      . obtain⟨o,eo,_⟩:=mE i1;exact⟨o,eo⟩
     exact Nat.ne_of_lt (Heap.lt_size eb)
    rw[ax this];exact(hf b hb).1
 done:=by
  intro X hP hw hK hc i pins s σ H E I hf st hg;subst hP hw hK;obtain⟨⟨old,he⟩,i1⟩:=st;obtain⟨xs,q1,hle⟩:=hg;obtain⟨us,r1,l1⟩:=jC I q1;have e1:=r1.length;have tz:s.TypeIs (.ref e) "enumerate":=⟨_,he,rfl⟩
  unfold pyNext;refine wpAny_bind (wpAny_attempt (wpAny_callSpecial?_slot (name:=Str.ofString "__next__") tz F.slot_enumerate_next (wpAny_call_entry F.slot_enumerate_next tz F.entry_enumerate_next ?_ (F.args_enumerate_next_1 _))));show wpAny _ _ (field (.ref e) 2 >>= _) _ _ _;refine wpAny_bind (wpAny_field he rfl (x:= .ref t) rfl ?_);refine wpAny_bind ((mm k t a n3 us.toArray).en i _ s _ _ (I.ok.hd hc) ⟨i1,l1⟩ (by simp;omega) fun g x sb hx=>?_);obtain⟨o,ho,hc2⟩:=hx;refine wpAny_bind (wpAny_isInstance (T:="StopIteration") (b:=true) ⟨o,ho,hc2⟩ isSubtype_stop ?_);refine wpAny_pure ⟨rfl,E9 (s:=s) (tk:=s.toks) I hf fun b o hb eb=>?_⟩;simp only[List.mem_cons,not_or,List.not_mem_nil,not_false_eq_true,and_true]at hb;exact sb b o hb.2 eb
 self:=fun _ _ _ _ _ st h=>wpAny_pyIter_enum st.1.choose_spec h
def i4:Nat->List D->List D
 |_,[]=>[]
 |i,x::xs=> .tup [.int (i:Int),x]::i4 (i+1) xs
theorem vH:∀ {xs:List D} {i:Nat},(i4 i xs).length=xs.length
 | [],_=>rfl
 |_::xs,i=>by unfold i4;rw[List.length_cons,List.length_cons,vH]
theorem qY:∀ {xs:List D} {i n:Nat} {d:D},(i4 i xs)[n]?=some d->∃x,xs[n]?=some x/\d= .tup [.int ((i+n:Nat):Int),x]
 | [],_,_,_,e=>by unfold i4 at e;cases e
 |x::xs,i,0,d,e=>by
  unfold i4 at e;rw[List.getElem?_cons_zero]at e;cases e;exact⟨x,rfl,rfl⟩
 |x::xs,i,n+1,d,e=>by
  unfold i4 at e;rw[List.getElem?_cons_succ]at e;obtain⟨y,h1,h2⟩:=qY e;refine⟨y,by rw[List.getElem?_cons_succ];exact h1,?_⟩;rw[h2,show i+1+n=i+(n+1) by omega]
theorem Gh{K:PySem.W.Frag}{k:SK}{a:Addr}{α:List (Option Addr)}{G:Hp}{ok:ag->Prop}{xs:List D}
 (h:∀α' G' st',Step α G α' G'->aR α' st' G'->ok st'->∃vs,Cj k G' a vs/\aG α' G' xs vs):tm (Mz K k a) α G ok (i4 0 xs) where
 stop:=fun n α' G' F' H' st' s P S o hn=>by
  obtain⟨vs,h1,r1⟩:=h α' G' st' s S o;rw[vH]at hn;refine⟨vs,i7 P h1,?_⟩;have:=r1.length;omega
 go:=fun n d α' G' F' H' st' s P S o hn=>by
  obtain⟨vs,h1,r1⟩:=h α' G' st' s S o;obtain⟨x,ex,rfl⟩:=qY hn;obtain⟨v,ev,_⟩:=r1.get ex;exact⟨vs,v,i7 P h1,ev⟩
 nN:=fun n d α' G' F' H' st' x H'' s P S o hn y=>by
  obtain⟨vs,h1,r1⟩:=h α' G' st' s S o;obtain⟨c,ec,rfl⟩:=qY hn;obtain⟨T,v,hT,rfl,rfl,y1⟩:=y;obtain⟨v',ev,rv⟩:=r1.get ec;rw[y1 vs (i7 P h1)]at ev;cases ev;have hg:=(P.none hT).1;refine⟨upd G' T (.tup [.int (n:Int),v]),Step.laid hg,P.laid hT,S.laid hg,?_⟩;unfold Rep;refine⟨T,[.int (n:Int),v],rfl,S.j4 hg,aY,?_⟩;unfold aG;refine⟨.int (n:Int),[v],rfl,?_,?_⟩
  . unfold Rep;rw[Nat.zero_add]
  unfold aG;exact⟨v,[],rfl,rv.step (Step.laid hg),by unfold aG;rfl⟩
def Bs(ds:List D)(st1:ag)(K:List D->(ag->Prop)->ag->Prop):Prop:=match ds with
 | [x]=>(match items? st1 x with
   |some xs=>K (i4 0 xs) (fun st'=>items? st' x=some xs) st1
   |_=>False)
 |_=>False
@[irreducible] def qA:List D->ag->(List D->(ag->Prop)->ag->Prop)->Prop:=Bs
def A4(t:DA):DI:=fun σ st K=>t σ st fun ds st1=>qA ds st1 K
theorem Ce:bootBuiltins "enumerate"=some (.type "enumerate"):=by decide+kernel
theorem Gp{X:Cx}{a:Expr}{elts:List Expr}{kx:Nat}{tpos p pos:Pos}{t:DA}(hg:Gl X "enumerate")(hm:X.mg "enumerate"=none)(ha:PA X [a] (LA t))(hs:starEach [a] X.env=[(false,eval a X.env)]):
 PI X (.Tuple elts kx tpos) (.Call (.Name "enumerate" p) [a] [] pos) (LI (A4 t)):=by
 intro pins s σ H R I h;obtain⟨α,σd,st,K,G,F,P,RS,S,t,k⟩:=h;refine Call_ (jN I hg hm Ce (PyProof.Rows.callWith_type1 (bL (ha pos pins s σ H (fun vs H1=>∃ds α1 G1 st1,Step α G α1 G1/\bQ G1 F H1/\aR α1 st1 G1/\aG α1 G1 ds vs/\qA ds st1 K) I ⟨α,σd,st,_,G,F,P,RS,S,t,fun ds st1 q α1 G1 H1 vs s1 P1 S1 r1=>⟨ds,α1,G1,st1,s1,P1,S1,r1,q⟩⟩) fun us s1 ⟨vs,H1,I1,rv,ds,α1,G1,st1,w1,P1,S1,r1,q⟩=>?_) (by rw[hs];rfl) (by rfl)));unfold qA Bs at q;split at q
 . rename_i x;split at q
   . rename_i xs ex;obtain⟨v1,rfl,q1⟩:=ix r1 rfl;obtain⟨p1,vs1,rfl,g1,c1⟩:=mR S1 q1 ex;obtain⟨u1,rfl,ru1⟩:=vals1 rv;cases ru1;obtain⟨its1,_,l1⟩:=jC I1 (i7 P1 c1);refine CH l1 fun g he i1 kp=>?_;obtain⟨o1,eo1⟩:=l1.some;have hp1:p1<s1.heap.objs.size:=Heap.lt_size eo1;refine wpAny_pyIter_enum (s:={s1 with heap:=g}) he ?_;refine⟨s1.heap.objs.size+1,[s1.heap.objs.size+1,s1.heap.objs.size],_,_,H1,rfl,I1.kept (t':=s1.toks) kp,CD (Fx x) (Nat.ne_of_gt (Nat.lt_succ_self _)) (Nat.ne_of_lt (Nat.lt_succ_of_lt hp1)) (Nat.ne_of_lt hp1),⟨⟨_,he⟩,i1⟩,fun b hb=>?_,?_⟩
     . have hb':s1.heap.objs.size<=b:=by
        simp only[List.mem_cons,List.not_mem_nil,or_false]at hb;rcases hb with rfl|rfl
        . exact Nat.le_succ _
        . exact Nat.le_refl _
       exact I1.sM hb' (I1.aK.fresh hb')
     . refine k _ _ st1 q _ α1 G1 H1 w1 P1 S1 (Gh fun α' G' st' s' S' o=>?_);obtain⟨p1',ws1,e1,f1,d1⟩:=mR S' (q1.step s') o;cases e1;exact⟨ws1,d1,f1⟩
   . exact q.elim
 . exact q.elim
theorem Gn{st:ag}{x:D}{xs:List D}{K:List D->(ag->Prop)->ag->Prop}(ex:items? st x=some xs)(k:∀ok:ag->Prop,(∀st',items? st' x=some xs->ok st')->K (i4 0 xs) ok st):qA [x] st K:=by
 unfold qA Bs;simp only[ex];exact k _ fun st' h1=>h1
theorem J9{X:Cx}{a:Expr}{elts:List Expr}{kx:Nat}{tpos p pos:Pos}{ar:DA}(hg:Gl X "enumerate")(hm:X.mg "enumerate"=none)(ha:JA X [a] ar)(hs:notStar a=true:=by rfl):JI X (.Tuple elts kx tpos) (.Call (.Name "enumerate" p) [a] [] pos) (A4 ar):=by
 unfold JI;unfold JA at ha;exact Gp hg hm ha (cv hs)
end L3
namespace L3
open PySem L2
open PySem.Spec hiding items?
open PyProof.Rows hiding St
section
variable {prog:Program}{w:World}{A:Around}{E:Value->Shared->Prop}{s:Shared}
end
section
variable {X:Cx}{tg:Expr}
end
section
variable {X:Cx}
end
end L3
namespace L3
open PySem L2
open PySem.Spec hiding items?
open PyProof.Rows hiding St
open PySem PySem.Spec L2 PySem.SeqAt
section
variable {X:Cx}
end
end L3
namespace L3
open PySem L2
open PySem.Spec hiding items?
open PyProof.Rows hiding St
section
variable {X:Cx}
end
section
variable {P:Program}{w:World}
section
variable {z ti to t1 t2 t3 a1 a2 a3:Addr}
end
end
def ql:DS:=fun _ _ _=>False
theorem o7{X:Cx}{s:Stmt}:JS X s ql:=by
 unfold JS;intro pins s σ H D I h;obtain⟨α,σd,st,DD,G,F,P,R,S,q,k⟩:=h;exact q.elim
section
variable {X:Cx}
end
end L3
namespace L3
open PySem L2
open PySem.Spec hiding items?
open PyProof.Rows hiding St
open Sem (wp)
section
variable {prog:Program}{w:World}{A:Around}{s:Shared}{E:Value->Shared->Prop}
end
section
variable {prog:Program}{w:World}{A:Around}{R:Result->Shared->Prop}{I:Addr}{fp wr:List Addr}{G:Array GenState->Array GenState->Prop}{n:Nat}{P:Nat->Value->Prop}{Sx:Nat->Shared->Prop}
end
section
variable {prog:Program}{w:World}{A:Around}{E:Value->Shared->Prop}{s:Shared}
end
section
variable {X:Cx}{pins:List (Addr×Obj)}{σ:L2.St}{H:Hp}{s:Shared}{α:List (Option Addr)}
end
end L3
namespace L3
open PySem L2
open PySem.Spec hiding items?
open PyProof.Rows hiding St
section
variable {X:Cx}
end
def putD(f:Str)(v:D):List (Str×D)->List (Str×D)
 | []=>[(f,v)]
 |(g,x)::r=>if g=f then(g,v)::r else(g,x)::putD f v r
theorem jf.look{α:List (Option Addr)}{H:Hp}{f:Str}{v:D}:∀ {fs:List (Str×D)} {vs:List (Str×V)},jf α H fs vs->fs.lookup f=some v->∃u,vs.lookup f=some u/\Rep α H v u
 | [],_,_,e=>by cases e
 |(g,x)::fs,_,.cons (b:=q) h t,e=>by
  obtain⟨g',y⟩:=q;obtain⟨h1,h2⟩:=h;simp only at h1 h2;subst h1;rw[List.lookup_cons]at e⊢;cases hb:f==g with
  |true=>rw[hb]at e;cases e;exact⟨y,rfl,h2⟩
  |false=>rw[hb]at e;exact jf.look t e
theorem jf.none{α:List (Option Addr)}{H:Hp}{f:Str}:∀ {fs:List (Str×D)} {vs:List (Str×V)},jf α H fs vs->fs.lookup f=Option.none->vs.lookup f=Option.none
 | [],_,.nil,_=>rfl
 |(g,x)::fs,_,.cons (b:=q) h t,e=>by
  obtain⟨g',y⟩:=q;obtain⟨h1,h2⟩:=h;simp only at h1 h2;subst h1;rw[List.lookup_cons]at e⊢;cases hb:f==g with
  |true=>rw[hb]at e;cases e
  |false=>rw[hb]at e;exact jf.none t e
theorem jf.put{α:List (Option Addr)}{H:Hp}{f:Str}{d:D}{v:V}(r:Rep α H d v):∀ {fs:List (Str×D)} {vs:List (Str×V)},jf α H fs vs->jf α H (putD f d fs) (fX f v vs)
 | [],_,.nil=> .cons ⟨rfl,r⟩ .nil
 |(g,x)::fs,_,.cons (b:=q) h t=>by
  obtain⟨g',y⟩:=q;obtain⟨h1,h2⟩:=h;simp only at h1 h2;subst h1;unfold putD fX;by_cases hb:g=f
  . rw[if_pos hb,if_pos hb];exact .cons ⟨rfl,r⟩ t
  . rw[if_neg hb,if_neg hb];exact .cons ⟨rfl,h2⟩ (jf.put r t)
def Ex(C:Addr)(f:Str)(d:D)(st:ag)(K:DK):Prop:=match d with
 | .ref n=>(match st[n]? with|some (.ins C' fs)=>C'=C/\∃v,fs.lookup f=some v/\K v st|_=>False)
 |_=>False
@[irreducible] def Bj(C:Addr)(f:Str):D->ag->DK->Prop:=Ex C f
def dv(C:Addr)(f:Str)(te:DE):DE:=fun σ st K=>te σ st fun d st1=>Bj C f d st1 K
theorem cp{C:Addr}{f:Str}{n:Nat}{st:ag}{K:DK}{fs:List (Str×D)}{v:D}(e:st[n]?=some (.ins C fs))(h:fs.lookup f=some v)(k:K v st):Bj C f (.ref n) st K:=by
 unfold Bj Ex;simp only[e];exact⟨trivial,v,h,k⟩
def AV(C:Addr)(f:Str)(x d:D)(st:ag)(K:ag->Prop):Prop:=match x with
 | .ref n=>(match st[n]? with|some (.ins C' fs)=>C'=C/\fs.length<1000/\K (st.set n (.ins C (putD f d fs)))|_=>False)
 |_=>False
@[irreducible] def wR(C:Addr)(f:Str):D->D->ag->(ag->Prop)->Prop:=AV C f
def nK(C:Addr)(f:Str)(to te:DE):DS:=fun D σ st=>te σ st fun d st1=>to σ st1 fun x st2=>wR C f x d st2 fun st3=>D.nx σ st3
theorem mz{C:Addr}{f:Str}{n:Nat}{d:D}{st:ag}{K:ag->Prop}{fs:List (Str×D)}(e:st[n]?=some (.ins C fs))(h:fs.length<1000)(k:K (st.set n (.ins C (putD f d fs)))):wR C f (.ref n) d st K:=by
 unfold wR AV;simp only[e];exact⟨trivial,h,k⟩
def Bi(C:Addr)(m:Str)(x:D)(st:ag)(k:Prop):Prop:=match x with
 | .ref n=>(match st[n]? with|some (.ins C' fs)=>C'=C/\fs.lookup m=none/\k|_=>False)
 |_=>False
@[irreducible] def wC(C:Addr)(m:Str):D->ag->Prop->Prop:=Bi C m
theorem jv{C:Addr}{m:Str}{n:Nat}{st:ag}{k:Prop}{fs:List (Str×D)}(e:st[n]?=some (.ins C fs))(h:fs.lookup m=none)(q:k):wC C m (.ref n) st k:=by
 unfold wC Bi;simp only[e];exact⟨trivial,h,q⟩
def iR(C:Addr)(m:Str)(S:b_)(to:DE)(t:DA):DE:=fun σ st K=>to σ st fun x st1=>wC C m x st1 (t σ st1 fun ds st2=>S (x::ds) st2 K)
def Bc(C:Addr)(S:b_)(t:DA):DE:=fun σ st K=>t σ st fun ds st1=>S (.ref st1.length::ds) (st1++[.ins C []]) fun r st2=>r= .aE/\K (.ref st1.length) st2
section
variable {X:Cx}{C f g:Addr}{fd:FuncData}{k:Nat}{x m fl:Str}{e o value:Expr}{es:List Expr}{p pos pos' apos:Pos}{te to:DE}{t:DA}{S:b_}{ps:List Str}
theorem Mn(c:nh X.K C)(na:fB X.K C fl)(he:PE X e (LE te))(hb:attributeBase e fl X.env (eval e X.env)=eval e X.env):PE X (.Attribute e fl pos) (LE (dv C fl te)):=PE.imp (Ku he hb) fun σ H Q ⟨α,σd,st,K,G,F,P,R,S,t,k⟩=>by
 refine⟨α,σd,st,_,G,F,P,R,S,t,fun d st1 q α1 G1 H1 v s1 P1 S1 r1=>?_⟩;unfold Bj Ex at q;cases d<;>try exact q.elim
 simp only at q;split at q
 . rename_i C' fs e';obtain⟨rfl,w,hw,q⟩:=q;obtain⟨a,ea,dx,vs,h1,h2⟩:=S1.wO e';have r1':=dD ea r1;subst r1';obtain⟨u,hu,ru⟩:=h2.look hw;exact⟨a,_,dx,vs,u,rfl,P1.get h1,c,na,hu,(k.at s1).here P1 q S1 ru⟩
 . exact q.elim
theorem IL(c:nh X.K C)(na:fB X.K C fl)(ho:PE X o (LE to))(hv:PE X value (LE te))(hs:swapsWith value (some (.Attribute o fl pos')) pos.line X.env=pure false):PS X (.Assign [.Attribute o fl pos'] value pos) (LS (nK C fl to te)):=PS.imp (IV ho hv hs) fun D σ H ⟨α,σd,st,DD,G,F,P,R,S,t,k⟩=>by
 refine⟨α,σd,st,_,G,F,P,R,S,t,fun d st1 q α1 G1 H1 v s1 P1 S1 r1=>?_⟩;refine⟨α1,σd,st1,_,G1,F,P1,R.step s1,S1,q,fun x st2 q2 α2 G2 H2 v2 s2 P2 S2 r2=>?_⟩;unfold wR AV at q2;cases x<;>try exact q2.elim
 simp only at q2;split at q2
 . rename_i C' fs e';obtain⟨rfl,hl,q2⟩:=q2;obtain⟨a,ea,dx,vs,h1,h2⟩:=S2.wO e';have r2':=dD ea r2;subst r2';have hm:some a∈α2:=List.mem_of_getElem? ea;have lv:vs.length<1000:=by rw[<-h2.length];exact hl
   refine⟨a,_,dx,vs,rfl,P2.get h1,c,na,lv,?_⟩;refine((k.nx.at s1).at s2) σd _ q2 α2 (upd G2 a (.ins _ dx (fX fl v vs))) _ σ (Step.write hm) (P2.write h1) (((R.step s1).step s2).step (Step.write hm)) ?_;exact S2.write ea ⟨dx,fX fl v vs,aY,(h2.put (r1.step s2)).step (Step.write hm)⟩
 . exact q2.elim
theorem LE.Mi{σ:L2.St}{H:Hp}{Q:VK}(h:LE (iR C m S to t) σ H Q):FE C m (cn S) [] E0 (LE to) (LA t) σ H Q:=by
 obtain⟨α,σd,st,K,G,F,P,R,Sr,tt,k⟩:=h;refine⟨α,σd,st,_,G,F,P,R,Sr,tt,fun d st1 q α1 G1 H1 v s1 P1 S1 r1=>?_⟩;unfold wC Bi at q;cases d<;>try exact q.elim
 simp only at q;split at q
 . rename_i n C' fs e';obtain⟨rfl,hl,q⟩:=q;obtain⟨a,ea,dx,vs,h1,h2⟩:=S1.wO e';have r1':=dD ea r1;subst r1';refine⟨a,dx,vs,rfl,P1.get h1,h2.none hl,?_⟩;refine⟨α1,σd,st1,_,G1,F,P1,R.step s1,S1,q,fun ds st2 q2 α2 G2 H2 us s2 P2 S2 r2=>?_⟩;try dsimp only
   rw[List.append_nil];exact⟨α2,_,st2,K,G2,F,P2,by unfold aG;exact⟨_,_,rfl,r1.step s2,r2⟩,S2,q2,(k.at s1).at s2⟩
 . exact q.elim
theorem LE.make{σ:L2.St}{H:Hp}{Q:VK}(h:LE (Bc C S t) σ H Q):FT C (cn S) [] E0 (LA t) σ H Q:=by
 obtain⟨α,σd,st,K,G,F,P,R,Sr,tt,k⟩:=h;refine⟨α,σd,st,_,G,F,P,R,Sr,tt,fun ds st1 q α1 G1 H1 us s1 P1 S1 r1=>?_⟩;intro x dx hx hdx hne;have hgd:=(P1.none hdx).1;have P2:=P1.laid (o:= .own x) hdx;have S2:=S1.laid (o:= .own x) hgd;have hx2:upd H1 dx (.own x) x=none:=by rw[ax (Ne.symm hne)];exact hx
 have hg2:=(P2.none hx2).1;have P3:=P2.laid (o:= .ins C dx []) hx2;have S3:=S2.cell (o:= .ins C dx []) (c:= .ins C []) hg2 ⟨dx,[],aY,.nil⟩;have s2:Step α1 G1 α1 (upd G1 dx (.own x)):=Step.laid hgd;have s3:Step α1 (upd G1 dx (.own x)) (α1++[some x]) (upd (upd G1 dx (.own x)) x (.ins C dx [])):=Step.cell hg2
 have rx:Rep (α1++[some x]) (upd (upd G1 dx (.own x)) x (.ins C dx [])) (.ref st1.length) (.ref x):=by
  unfold Rep;refine .inr ⟨x,?_,rfl⟩;rw[List.getElem?_append_right (by rw[S1.len];exact Nat.le_refl _),S1.len,Nat.sub_self];rfl
 rw[List.append_nil];refine⟨α1++[some x],.ref st1.length::ds,st1++[.ins C []],_,_,F,P3,by unfold aG;exact⟨_,_,rfl,rx,(r1.step s2).step s3⟩,S3,q,fun d st2 q2 α' G' H' v s' P' S' r'=>?_⟩;obtain⟨rfl,q2⟩:=q2;unfold Rep at r';exact⟨r',(((k.at s1).at s2).at s3) _ st2 q2 α' G' H' _ s' P' S' (rx.step s')⟩
end
def IT(a:Int)(n:Nat):It:=⟨fun i _=>i<n,fun i H x H'=>H'=H/\x= .int (a+(i:Nat)*(-1)),fun i _=>n<=i⟩
theorem CL{P:Program}{w:World}{K:PySem.W.Frag}{tg:Expr}(it:Addr)(a:Int)(n:Nat):Turn P w K tg (IT a n) [it] it (fun i h=>IsRangeIter h it (a+(i:Nat)*(-1)) ((n:Int)-(i:Nat)) (-1)) where
 mem:=by simp
 obj:=fun i h st b hb=>by
  have e:b=it:=by simpa using hb
  subst e
  exact⟨_,st,fun v z=>by
   have z':Data.fields _=Data.cell v:=z;cases z'⟩
 keep:=fun i h h' st k=>k it (by simp) _ st
 item:=by
  intro X hP hw hK hc i pins s σ H E I hf st hg;subst hP hw hK;obtain⟨f0,f1,f2,f3,f4,f5⟩:=hf it (by simp);have W:=Walks.range (prog:=X.prog) (w:=X.w) (I.ok.hd hc) it a (-1) n;refine W.item i s _ _ hg st fun v h' tk hv st' kk=>?_;obtain⟨t,rfl⟩:=hv;have I1:Inv X pins σ H {s with heap:=h',toks:=tk}:=I.turned (fun b o hb e=>kk b o (by simpa using hb) e) f0 f1 f3 f4 f5;exact⟨_,rfl,wV (s:={s with heap:=h',toks:=tk}) (n:="range_iterator") st' rfl rfl (by decide) ⟨.int (a+(i:Nat)*(-1)),H,I1,⟨t,rfl⟩,⟨rfl,rfl⟩,st',fun b hb=>(hf b hb).1⟩⟩
 done:=by
  intro X hP hw hK hc i pins s σ H E I hf st hg;subst hP hw hK;obtain⟨f0,f1,f2,f3,f4,f5⟩:=hf it (by simp);exact wpAny_pyNext_range_end (I.ok.hd hc) st (by have:n<=i:=hg;omega) fun h' eb=>⟨rfl,I.turned (t':=s.toks) (fun b o hb e=>eb b o hb e) f0 f1 f3 f4 f5⟩
 self:=fun _ _ _ _ _ st h=>wpAny_pyIter_rangeiter st h
theorem vA(a b:Int):Builtin.Range.rangeSize a b (-1)=((a-b).toNat:Int):=by
 unfold Builtin.Range.rangeSize;rw[if_neg (by decide)];have e:(a-b-1)/(- -1:Int)=a-b-1:=by simp
 rw[e];split<;>omega
theorem small_down{a b:Int}(ha: -(2^62)<=a)(ha':a<2^62)(hb: -(2^62)<=b)(hb':b<2^62):Builtin.Range.small a b (-1)=true:=by
 unfold Builtin.Range.small;rw[vA];simp only[Builtin.Range.rangeFitsLong,Bool.and_eq_true,Bool.or_eq_true,decide_eq_true_eq,beq_iff_eq,show¬((-1:Int)>0) by decide,if_false];omega
def Fj(ta:TA):TI:=fun σ H R=>ta σ H fun vs H1=>∃i j:Int,vs=[.int i,.int j,.int (-1)]/\(-(2^62)<=i/\i<2^62/\ -(2^62)<=j/\j<2^62)/\R (IT i (i-j).toNat) H1
section
variable {X:Cx}{tg:Expr}
theorem Di{a b c:Expr}{ta:TA}{p pos:Pos}(hg:Gl X "range")(hm:X.mg "range"=none)(ha:PA X [a,b,c] ta)(hs:notStar a=true:=by rfl)(hs2:notStar b=true:=by rfl)(hs3:notStar c=true:=by rfl):
 PI X tg (.Call (.Name "range" p) [a,b,c] [] pos) (Fj ta):=by
 intro pins s σ H R I h;refine Call_ (jN I hg hm boot_range (PyProof.Rows.callWith_type1 (bL (ha pos pins s σ H _ I h) fun us s1 ⟨vs,H1,I1,r1,q1⟩=>?_) (cv hs) (jc (by simp[fo,hs2,hs3]))));obtain⟨i,j,e,⟨q1,q2,q3,q4⟩,q⟩:=q1;subst e;cases r1 with
 |cons r rr=>
  cases rr with
  |cons r' rr=>
   cases rr with
   |cons r'' rr=>
    cases rr;obtain⟨t,rfl⟩:=r;obtain⟨t',rfl⟩:=r';obtain⟨t'',rfl⟩:=r'';refine call_range_3 (by decide) ?_ (Or.inl (PyProof.noPylong_of_log2 (by decide+kernel)));refine wpAny_pyIter_range (IsRange.new ..) (small_down q1 q2 q3 q4) ?_;have I2:Inv X pins σ H1 {s1 with heap:=s1.heap.push {cls:= .type "range",data:= .fields #[.int i t,.int j t',.int (-1) t'']},toks:=s1.toks}:=I1.kept fun b o e=>Heap.get?_push_of_some _ e;generalize({s1 with heap:=s1.heap.push {cls:= .type "range",data:= .fields #[.int i t,.int j t',.int (-1) t'']},toks:=s1.toks}:Shared)=s2 at I2⊢;refine⟨s2.heap.objs.size,[s2.heap.objs.size],_,_,H1,rfl,I2.kept (t':=s2.toks) fun b o e=>Heap.get?_push_of_some _ e,CL _ i (i-j).toNat,?_,fun b hb=>?_,q⟩
    . show IsRangeIter _ _ (i+((0:Nat):Int)*(-1)) ((((i-j).toNat:Nat):Int)-((0:Nat):Int)) (-1);have e1:i+((0:Nat):Int)*(-1)=i:=by omega
      have e2:(((i-j).toNat:Nat):Int)-((0:Nat):Int)=Builtin.Range.rangeSize i j (-1):=by rw[vA];omega
      rw[e1,e2];exact Heap.get?_push_size _ rfl
    . have e:b=s2.heap.objs.size:=by simpa using hb
      subst e;exact I2.sM (Nat.le_refl _) (I2.aK.fresh (Nat.le_refl _))
end
def gu(a:Int)(n:Nat):List D:=(List.range n).map fun(k:Nat)=>D.int (a+(k:Nat)*(-1))
theorem wa{a:Int}{n k:Nat}:(gu a n)[k]?=if k<n then some (.int (a+(k:Nat)*(-1)))else none:=by
 unfold gu;rw[List.getElem?_map];by_cases h:k<n
 . rw[List.getElem?_range h,if_pos h];rfl
 . rw[List.getElem?_eq_none (by simpa using h),if_neg h];rfl
theorem lG{a:Int}{n:Nat}:(gu a n).length=n:=by unfold gu;simp
theorem Gf{α:List (Option Addr)}{G:Hp}{a:Int}{n:Nat}:tm (IT a n) α G (fun _=>True) (gu a n) where
 stop:=fun m α' G' F' H' st' s P S o hn=>by rw[lG]at hn;exact hn
 go:=fun m d α' G' F' H' st' s P S o hn=>by
  rw[wa]at hn;split at hn
  . assumption
  . cases hn
 nN:=fun m d α' G' F' H' st' x H'' s P S o hn y=>by
  obtain⟨rfl,rfl⟩:=y;rw[wa]at hn;split at hn
  . cases hn;exact⟨G',Step.refl,P,S,by unfold Rep;rfl⟩
  . cases hn
def Lx(ds:List D)(st1:ag)(K:List D->(ag->Prop)->ag->Prop):Prop:=match ds with
 | [.int i,.int j,.int c]=>(c= -1/\ -(2^62)<=i/\i<2^62/\ -(2^62)<=j/\j<2^62)/\K (gu i (i-j).toNat) (fun _=>True) st1
 |_=>False
@[irreducible] def wW:List D->ag->(List D->(ag->Prop)->ag->Prop)->Prop:=Lx
def uX(t:DA):DI:=fun σ st K=>t σ st fun ds st1=>wW ds st1 K
theorem C1{X:Cx}{tg iter:Expr}{t:DA}(h:PI X tg iter (Fj (LA t))):PI X tg iter (LI (uX t)):=PI.imp h fun σ H R ⟨α,σd,st,K,G,F,P,RS,S,t,k⟩=>by
 refine⟨α,σd,st,_,G,F,P,RS,S,t,fun ds st1 q α1 G1 H1 vs s1 P1 S1 r1=>?_⟩;unfold wW at q;match ds,q,r1 with
 | [.int i,.int j,.int c],q,r1=>
   obtain⟨v,u,w,rfl,r2,r3,r4⟩:=K5 r1 rfl;unfold Rep at r2 r3 r4;subst r2 r3 r4;obtain⟨⟨rfl,q1⟩,q2⟩:=q;exact⟨i,j,rfl,q1,k _ _ st1 q2 _ α1 G1 H1 s1 P1 S1 Gf⟩
theorem F8{st:ag}{i j:Int}{K:List D->(ag->Prop)->ag->Prop}(h: -(2^62)<=i/\i<2^62/\ -(2^62)<=j/\j<2^62)(k:K (gu i (i-j).toNat) (fun _=>True) st):wW [.int i,.int j,.int (-1)] st K:=by unfold wW;exact⟨⟨rfl,h⟩,k⟩
theorem DX{X:Cx}{tg a b c:Expr}{p pos:Pos}{ar:DA}(hg:Gl X "range")(hm:X.mg "range"=none)(ha:JA X [a,b,c] ar)(hs:notStar a=true:=by rfl)(hs2:notStar b=true:=by rfl)(hs3:notStar c=true:=by rfl):JI X tg (.Call (.Name "range" p) [a,b,c] [] pos) (uX ar):=by
 unfold JI;unfold JA at ha;exact C1 (Di hg hm ha hs hs2 hs3)
section
variable {X:Cx}
end
section
variable {X:Cx}{e o i value:Expr}{es:List Expr}{te to ti:DE}{t:DA}{pos pos' tpos apos p:Pos}{C f:Addr}{fl m x:Str}{S:b_}{k:Nat}{fd:FuncData}{ps:List Str}
theorem BN{value o:Expr}{fl:Str}{pos':Pos}{n:Nat}{env:Env}:swapsWith value (some (.Attribute o fl pos')) n env=pure false:=by cases value<;>rfl
theorem cL(c:nh X.K C)(na:fB X.K C fl)(he:JE X e te)(hb:attributeBase e fl X.env (eval e X.env)=eval e X.env:=by rfl):JE X (.Attribute e fl pos) (dv C fl te):=by unfold JE at*;exact Mn c na he hb
theorem mH(c:nh X.K C)(na:fB X.K C fl)(ho:JE X o to)(hv:JE X value te):JS X (.Assign [.Attribute o fl pos'] value pos) (nK C fl to te):=by unfold JS;unfold JE at*;exact IL c na ho hv BN
theorem lH{pl:Sem Bool}(he:JE X o to)(c:nh X.K C)(hm:Meth X.K C m f)(F:a9 X.prog X.w X.K X.mg X.base ck k f fd ps (cn S))(hr:cC k X.A)(hb:Binds X.K fd ps [])(ha:JA X (e::es) t)
 (hs:notStar e=true:=by rfl) (hs2:fo es=true:=by rfl)
 (ht:eval (.Call (.Attribute o m apos) (e::es) [] pos) X.env=(do
   let ov <-eval o X.env
   standAt apos.atName
   let(f,first) <-holding [ov] (getMethod ov m pl)
   callWith pos f first (backTo pos (starEach (e::es) X.env)) (backToKw pos (keywordEach [] X.env))):=by rfl):
 JE X (.Call (.Attribute o m apos) (e::es) [] pos) (iR C m S to t):=by
 unfold JE at*;unfold JA at ha;exact PE.imp (GY he c hm F hr hb .nil Aj ha (cv hs) (jc hs2) ht) fun _ _ _ h=>LE.Mi h
theorem JL(M:Mk X.K C f)(F:a9 X.prog X.w X.K X.mg X.base ck k f fd ps (cn S))(hr:cC (k+1) X.A)(hg:Gl X x)(hmg:X.mg x=some (.ref C))(hb:Binds X.K fd ps [])(ha:JA X (e::es) t)(hdb:(x==("__debug__":Str))=false)
 (hs:notStar e=true:=by rfl) (hs2:fo es=true:=by rfl):JE X (.Call (.Name x p) (e::es) [] pos) (Bc C S t):=by
 unfold JE;unfold JA at ha;exact PE.imp (Ga M F hr hg hmg hb .nil Aj ha hdb (cv hs) (jc hs2)) fun _ _ _ h=>LE.make h
end
end L3
namespace L3
open PySem PySem.Spec L2
open PyProof.Rows hiding St
def Jn(xs:Array Keyed)(i:Nat):Int:=match xs[i]? with
 |some p=>numOf p.2
 |none=>0
theorem nk{xs ys:Array Keyed}{i j:Nat}(h:xs[i]?=ys[j]?):Jn xs i=Jn ys j:=by unfold Jn;rw[h]
theorem ll{xs:Array Keyed}{i j:Nat}(hj:j<=xs.size)(k:Nat):
 K (mirror xs i j ((j-i)/2)) k=K xs (if i<=k/\k<j then i+j-1-k else k)/\Jn (mirror xs i j ((j-i)/2)) k=Jn xs (if i<=k/\k<j then i+j-1-k else k):=by
 have e:=getElem?_mirror_all (i:=i) hj k;split at e<;>rename_i h
 . rw[if_pos h];exact⟨K_congr e,nk e⟩
 . rw[if_neg h];exact⟨K_congr e,nk e⟩
theorem CJ{xs:Array Keyed}{src d:Nat}(hs:src<xs.size)(hd:d<=src)(k:Nat):
 K (bubble xs src d) k=K xs (if k=src-d then src else if src-d<k/\k<=src then k-1 else k)/\Jn (bubble xs src d) k=Jn xs (if k=src-d then src else if src-d<k/\k<=src then k-1 else k):=by
 have e:=getElem?_bubble hs d hd k;split at e<;>rename_i h
 . rw[if_pos h];exact⟨K_congr e,nk e⟩
 . rw[if_neg h];split at e<;>rename_i h2
   . rw[if_pos h2];exact⟨K_congr e,nk e⟩
   . rw[if_neg h2];exact⟨K_congr e,nk e⟩
def lB(xs:Array Keyed)(i j:Nat):Prop:=K xs i<K xs j\/(K xs i=K xs j/\Jn xs i<Jn xs j)
def iS(xs:Array Keyed)(k:Nat):Prop:=∀i j,i<j->j<k->lB xs i j
def hZ(n:Nat)(xs:Array Keyed)(k:Nat):Prop:=∀i j,i<j->k<=j->j<n->Jn xs i<Jn xs j
theorem iS.to{xs:Array Keyed}{k:Nat}(h:iS xs k):SortedTo xs k:=fun i j hij hj=>by
 rcases Nat.lt_or_eq_of_le hij with e|e
 . rcases h i j e hj with q|q<;>omega
 . subst e;exact Int.le_refl _
theorem iS.more{xs:Array Keyed}{n k m:Nat}(h:iS xs k)(t:hZ n xs k)(s:SortedTo xs m)(hm:m<=n):iS xs m:=fun i j hij hj=>by
 by_cases hk:j<k
 . exact h i j hij hk
 . have a:=s i j (Nat.le_of_lt hij) hj;have b:=t i j hij (Nat.le_of_not_lt hk) (Nat.lt_of_lt_of_le hj hm);unfold lB;omega
theorem hZ.up{xs:Array Keyed}{n k m:Nat}(t:hZ n xs k)(h:k<=m):hZ n xs m:=fun i j a b c=>t i j a (Nat.le_trans h b) c
theorem hZ.mix{xs ys:Array Keyed}{n k:Nat}(t:hZ n xs k)(f:Nat->Nat)(hf:∀i,Jn ys i=Jn xs (f i))(h1:∀i,i<k->f i<k)(h2:∀i,k<=i->f i=i):hZ n ys k:=fun i j a b c=>by
 rw[hf,hf,h2 j b];refine t _ _ ?_ b c;by_cases hi:i<k
 . exact Nat.lt_of_lt_of_le (h1 i hi) b
 . rw[h2 i (Nat.le_of_not_lt hi)];exact a
section
variable {prog:Program}{w:World}{A:Around}{E:Value->Shared->Prop}{s:Shared}{a₀:Array Keyed}
theorem Dc{st:SortSt}{ok:Nat}{Q:Bool->SortSt->Prop}(h0:IntKeys a₀)(h1:1<=ok)(aK:ok<=a₀.size)(hB:SBase a₀ st)(hs:iS (arrOf st) ok)(ht:hZ a₀.size (arrOf st) ok)
 (h:∀st',SBase a₀ st'->iS (arrOf st') a₀.size->Q true st'):wpS (model prog w) A E s (binarySort' 0 a₀.size ok) Q st:=by
 rw[binarySort'_eq];simp only[Nat.zero_add]
 refine wpS_bind (wpS_mono (wpS_forRange (I:=fun k c q=>c=(none,())/\SBase a₀ q/\k<=a₀.size/\iS (arrOf q) k/\hZ a₀.size (arrOf q) k)
  (Q:=fun c q=>c=(none,())/\SBase a₀ q/\iS (arrOf q) a₀.size) ?st ?en ?be) ?po)
 case po=>rintro c q ⟨rfl,b1,b2⟩;exact wpS_pure (h q b1 b2)
 case be=>rw[show max ok 1=ok by omega];exact⟨rfl,hB,aK,hs,ht⟩
 case en=>
  rintro c q ⟨rfl,b1,b2,b3,_⟩;rw[show max (max ok 1) a₀.size=a₀.size by omega]at b3;exact⟨rfl,b1,b3⟩
 case st=>
  rintro k c q hk1 hk2 ⟨rfl,qB,_,qS,qT⟩
  refine wpS_bind (wpS_mono (wpS_forRange (I:=fun x c q'=>q'=q/\∃l r,c=(none,l,r)/\l<=r/\r<=k/\r-l<=k-x/\(∀i,i<l->K (arrOf q) i<=K (arrOf q) k)/\(∀i,r<=i->i<k->K (arrOf q) k<K (arrOf q) i))
   (Q:=fun c q'=>q'=q/\∃l,c=(none,l,l)/\l<=k/\(∀i,i<l->K (arrOf q) i<=K (arrOf q) k)/\(∀i,l<=i->i<k->K (arrOf q) k<K (arrOf q) i)) ?a ?b ?c) ?d)
  case c=>exact⟨rfl,0,k,rfl,by omega,by omega,by omega,fun i hi=>by omega,fun i x y=>by omega⟩
  case b=>
   rintro c q' ⟨rfl,l,r,rfl,e1,e2,e3,e4,e5⟩;have:r=l:=by omega
   subst this;exact⟨rfl,r,rfl,e2,e4,e5⟩
  case a=>
   rintro x c q' _ hx ⟨rfl,l,r,rfl,e1,e2,e3,e4,e5⟩;dsimp only;by_cases hlr:l>=r
   . rw[if_pos hlr];have:r=l:=by omega
     subst this;exact wpS_pure ⟨rfl,r,rfl,e2,e4,e5⟩
   . rw[if_neg hlr];refine wpS_bind (wpS_ltK qB h0 hk2 (by omega) ?_);have so:=qS.to;by_cases hl:K (arrOf q') k<K (arrOf q') ((l+r)/2)
     . simp only[hl,decide_true,if_true];exact wpS_pure ⟨rfl,l,(l+r)/2,rfl,by omega,by omega,by omega,e4,fun i x y=>Int.lt_of_lt_of_le hl (so _ _ x y)⟩
     . simp only[hl,decide_false,Bool.false_eq_true,if_false];refine wpS_pure ⟨rfl,(l+r)/2+1,r,rfl,by omega,by omega,by omega,fun i x=>?_,e5⟩;have:=so i ((l+r)/2) (by omega) (by omega);omega
  case d=>
   rintro c q' ⟨rfl,l,rfl,hlk,e4,e5⟩;show wpS _ _ _ _ (do moveDown' k l;pure (ForInStep.yield (none,()))) _ _;rw[moveDown'_eq];have hks:k<(arrOf q').size:=by rw[qB.size];exact hk2
   have bb:=CJ (xs:=arrOf q') hks (show k-l<=k by omega);rw[show k-(k-l)=l by omega]at bb;refine wpS_bind (wpS_modify (wpS_pure ⟨rfl,qB.setArr (bubble_perm _ _ _),by omega,fun i j hij hj=>?_,hZ.mix (qT.up (Nat.le_succ k)) _ (fun i=>(bb i).2) (fun i hi=>?_) (fun i hi=>?_)⟩))
   . show lB (bubble (arrOf q') k (k-l)) i j;unfold lB;rw[(bb i).1,(bb i).2,(bb j).1,(bb j).2];by_cases hil:i<l
     . rw[if_neg (show¬i=l by omega),if_neg (show¬(l<i/\i<=k) by omega)];by_cases hjl:j=l
       . rw[if_pos hjl];have x:=e4 i hil;have y:=qT i k (by omega) (Nat.le_refl _) hk2;omega
       . rw[if_neg hjl];by_cases hj2:l<j/\j<=k
         . rw[if_pos hj2];exact qS i (j-1) (by omega) (by omega)
         . rw[if_neg hj2];exact qS i j hij (by omega)
     . by_cases hie:i=l
       . rw[if_pos hie,if_neg (show¬j=l by omega),if_pos (show l<j/\j<=k by omega)];exact .inl (e5 _ (by omega) (by omega))
       . rw[if_neg hie,if_pos (show l<i/\i<=k by omega),if_neg (show¬j=l by omega),if_pos (show l<j/\j<=k by omega)];exact qS _ _ (by omega) (by omega)
   . show(if i=l then k else if l<i/\i<=k then i-1 else i)<k+1;split
     . omega
     . split<;>omega
   . show(if i=l then k else if l<i/\i<=k then i-1 else i)=i;rw[if_neg (by omega),if_neg (by omega)]
def vE(xs:Array Keyed)(m q:Nat):Prop:=q+1<=m/\∀i j,i<j->j<m->(m<=i+(q+1)->K xs i=K xs j/\Jn xs i<Jn xs j)/\(i+(q+1)<m->(m<=j+(q+1)->K xs j<K xs i)/\lB xs j i)
theorem vE.all{xs:Array Keyed}{m q:Nat}(h:vE xs m q)(hm:m<=xs.size):(q=0\/0<q)/\∀i j,i<j->j<m->lB (mirror xs (m-(q+1)) m ((m-(m-(q+1)))/2)) j i:=by
 refine⟨by omega,fun i j hij hj=>?_⟩;have b:=ll (i:=m-(q+1)) (j:=m) hm;unfold lB;rw[(b i).1,(b i).2,(b j).1,(b j).2];by_cases hi:m-(q+1)<=i/\i<m
 . rw[if_pos hi,if_pos (show m-(q+1)<=j/\j<m by omega)];have:=(h.2 (m-(q+1)+m-1-j) (m-(q+1)+m-1-i) (by omega) (by omega)).1 (by omega);omega
 . rw[if_neg hi];by_cases hj2:m-(q+1)<=j/\j<m
   . rw[if_pos hj2];have:=((h.2 i (m-(q+1)+m-1-j) (by omega) (by omega)).2 (by omega)).1 (by omega);omega
   . rw[if_neg hj2];exact((h.2 i j hij hj).2 (by omega)).2
theorem vE.zero{xs:Array Keyed}{m:Nat}(h:vE xs m 0):∀i j,i<j->j<m->lB xs j i:=fun i j hij hj=>((h.2 i j hij hj).2 (by omega)).2
theorem l7{n:Nat}{xs:Array Keyed}{i j k:Nat}(t:hZ n xs k)(hj:j<=xs.size)(hk:j<=k):hZ n (mirror xs i j ((j-i)/2)) k:=
 t.mix _ (fun a=>(ll hj a).2) (fun a ha=>by split<;>omega) fun a ha=>by rw[if_neg (by omega)]
theorem Ci{st:SortSt}{n:Nat}{Q:DescSt->SortSt->Prop}(h0:IntKeys a₀)(hn:n<=a₀.size)(hB:SBase a₀ st)(hs:vE (arrOf st) n 0)(ht:hZ a₀.size (arrOf st) n)
 (h:∀m q st',SBase a₀ st'->n<=m->m<=a₀.size->vE (arrOf st') m q->hZ a₀.size (arrOf st') m->Q (none,m,q) st'):
 wpS (model prog w) A E s (descLoop n a₀.size) Q st:=by
 unfold descLoop;refine wpS_forRange (I:=fun x c st'=>∃q,c=(none,x,q)/\SBase a₀ st'/\vE (arrOf st') x q/\hZ a₀.size (arrOf st') x) ?st ?en ⟨0,rfl,hB,hs,ht⟩
 case en=>
  rintro c st' ⟨q,rfl,b1,b2,b3⟩;rw[show max n a₀.size=a₀.size by omega]at b2 b3⊢;exact h _ q st' b1 hn (Nat.le_refl _) b2 b3
 case st=>
  rintro x c st' hx1 hx2 ⟨q,rfl,b1,b2,b3⟩;dsimp only;have hq:=b2.1;have hsz:x<=(arrOf st').size:=by rw[b1.size];omega
  refine wpS_bind (wpS_ltK b1 h0 hx2 (by omega) ?_);by_cases hl:K (arrOf st') x<K (arrOf st') (x-1)
  . simp only[hl,decide_true,if_true];by_cases hq0:q>0
    . rw[if_pos hq0];have al:=(b2.all hsz).2;have km:=ll (i:=x-(q+1)) (j:=x) hsz;refine wpS_bind (wpS_reverse (wpS_pure ⟨0,rfl,b1.setArr (mirror_perm _ _ _ _),⟨by omega,fun i j hij hj=>⟨fun hh=>by omega,fun hh=>⟨fun hj2=>?_,?_⟩⟩⟩,(l7 b3 hsz (Nat.le_refl _)).up (Nat.le_succ x)⟩))
      . have hjx:j=x:=by omega
        subst hjx;show K (mirror (arrOf st') _ _ _) j<K (mirror (arrOf st') _ _ _) i;rw[(km i).1,(km j).1,if_neg (show¬(j-(q+1)<=j/\j<j) by omega)]
        have key:∀t,t<j->K (arrOf st') (j-1)<=K (arrOf st') t:=fun t ht=>by
         by_cases e:t=j-1
         . rw[e];exact Int.le_refl _
         . have z:=b2.2 t (j-1) (by omega) (by omega);by_cases g:j<=t+(q+1)
           . have:=(z.1 g).1;omega
           . have:=(z.2 (by omega)).2;unfold lB at this;omega
        split
        . have:=key (j-(q+1)+j-1-i) (by omega);omega
        . have:=key i hij;omega
      . show lB (mirror (arrOf st') _ _ _) j i;by_cases hjx:j<x
        . exact al i j hij hjx
        . have hjx:j=x:=by omega
          subst hjx;refine .inl ?_;rw[(km i).1,(km j).1,if_neg (show¬(j-(q+1)<=j/\j<j) by omega)]
          have key:∀t,t<j->K (arrOf st') (j-1)<=K (arrOf st') t:=fun t ht=>by
           by_cases e:t=j-1
           . rw[e];exact Int.le_refl _
           . have z:=b2.2 t (j-1) (by omega) (by omega);by_cases g:j<=t+(q+1)
             . have:=(z.1 g).1;omega
             . have:=(z.2 (by omega)).2;unfold lB at this;omega
          split
          . have:=key (j-(q+1)+j-1-i) (by omega);omega
          . have:=key i hij;omega
    . rw[if_neg hq0];have hq0:q=0:=by omega
      subst hq0;have z0:=b2.zero
      have lx:∀i,i<x->K (arrOf st') x<K (arrOf st') i:=fun i hi=>by
       by_cases e:i=x-1
       . rw[e];exact hl
       . have:=z0 i (x-1) (by omega) (by omega);unfold lB at this;omega
      refine wpS_pure ⟨0,rfl,b1,⟨by omega,fun i j hij hj=>⟨fun hh=>by omega,fun hh=>⟨fun hj2=>?_,?_⟩⟩⟩,b3.up (Nat.le_succ x)⟩
      . have hjx:j=x:=by omega
        subst hjx;exact lx i hij
      . by_cases hjx:j<x
        . exact z0 i j hij hjx
        . have hjx:j=x:=by omega
          subst hjx;exact .inl (lx i hij)
  . simp only[hl,decide_false,Bool.false_eq_true,if_false];refine wpS_bind (wpS_ltK b1 h0 (by omega) hx2 ?_);by_cases hg:K (arrOf st') (x-1)<K (arrOf st') x
    . simp only[hg,decide_true,if_true];exact wpS_pure (h x q st' b1 hx1 (by omega) b2 b3)
    . simp only[hg,decide_false,Bool.false_eq_true,if_false];have he:K (arrOf st') x=K (arrOf st') (x-1):=by omega
      refine wpS_pure ⟨q+1,rfl,b1,⟨by omega,fun i j hij hj=>⟨fun hh=>?_,fun hh=>⟨fun hj2=>?_,?_⟩⟩⟩,b3.up (Nat.le_succ x)⟩
      . by_cases hjx:j<x
        . exact(b2.2 i j hij hjx).1 (by omega)
        . have hjx:j=x:=by omega
          subst hjx;refine⟨?_,b3 i j hij (Nat.le_refl _) hx2⟩;rw[he];by_cases e:i=j-1
          . rw[e]
          . exact((b2.2 i (j-1) (by omega) (by omega)).1 (by omega)).1
      . by_cases hjx:j<x
        . exact((b2.2 i j hij hjx).2 (by omega)).1 (by omega)
        . have hjx:j=x:=by omega
          subst hjx;rw[he];exact((b2.2 i (j-1) (by omega) (by omega)).2 (by omega)).1 (by omega)
      . by_cases hjx:j<x
        . exact((b2.2 i j hij hjx).2 (by omega)).2
        . have hjx:j=x:=by omega
          subst hjx;refine .inl ?_;rw[he];exact((b2.2 i (j-1) (by omega) (by omega)).2 (by omega)).1 (by omega)
theorem v8{st:SortSt}{n:Nat}{Q:Option Nat->SortSt->Prop}(h0:IntKeys a₀)(h1:1<=n)(hn:n<=a₀.size)(hB:SBase a₀ st)(hs:∀i j,i<j->j<n->lB (arrOf st) j i)(ht:hZ a₀.size (arrOf st) n)
 (h:∀m st',SBase a₀ st'->1<=m->m<=a₀.size->iS (arrOf st') m->hZ a₀.size (arrOf st') m->Q (some m) st'):wpS (model prog w) A E s (tail3 n a₀.size) Q st:=by
 unfold tail3;have hsz:n<=(arrOf st).size:=by rw[hB.size];exact hn
 refine wpS_bind (wpS_reverse ?_);have km:=ll (xs:=arrOf st) (i:=0) (j:=n) hsz
 have s1:iS (mirror (arrOf st) 0 n ((n-0)/2)) n:=fun i j hij hj=>by
  unfold lB;rw[(km i).1,(km i).2,(km j).1,(km j).2,if_pos (by omega),if_pos (by omega)];exact hs _ _ (by omega) (by omega)
 have t1:=l7 (i:=0) ht hsz (Nat.le_refl _);have hB':SBase a₀ (setArr st (mirror (arrOf st) 0 n ((n-0)/2))):=hB.setArr (mirror_perm _ _ _ _);refine wpS_bind (wpS_ascLoop h0 (Nat.le_refl _) h1 hn hB' s1.to fun m m1 m2 sm _=>wpS_pure (h m _ hB' (by omega) m2 (s1.more t1 sm m2) (t1.up m1)))
theorem vV{st:SortSt}{n:Nat}{Q:Option Nat->SortSt->Prop}(h0:IntKeys a₀)(hn:n+1<=a₀.size)(hB:SBase a₀ st)(hs:vE (arrOf st) (n+1) 0)(ht:hZ a₀.size (arrOf st) (n+1))
 (h:∀m st',SBase a₀ st'->1<=m->m<=a₀.size->iS (arrOf st') m->hZ a₀.size (arrOf st') m->Q (some m) st'):wpS (model prog w) A E s (descPart n a₀.size) Q st:=by
 unfold descPart;refine wpS_bind (wpS_lift (wpAny_rule ⟨rfl,?_⟩));refine wpS_bind (Ci h0 hn hB hs ht fun m q st' b1 b2 b3 b4 b5=>?_);dsimp only;have hsz:m<=(arrOf st').size:=by rw[b1.size];exact b3
 by_cases hq:q>0
 . rw[if_pos hq];exact wpS_bind (wpS_reverse (v8 h0 (by omega) b3 (b1.setArr (mirror_perm _ _ _ _)) (b4.all hsz).2 (l7 b5 hsz (Nat.le_refl _)) h))
 . rw[if_neg hq];have:q=0:=by omega
   subst this;exact v8 h0 (by omega) b3 b1 b4.zero b5 h
theorem CV{st:SortSt}{Q:Option Nat->SortSt->Prop}(h0:IntKeys a₀)(h1:1<=a₀.size)(hB:SBase a₀ st)(ht:hZ a₀.size (arrOf st) 1)
 (h:∀m st',SBase a₀ st'->1<=m->m<=a₀.size->iS (arrOf st') m->hZ a₀.size (arrOf st') m->Q (some m) st'):wpS (model prog w) A E s (countRun' 0 a₀.size) Q st:=by
 rw[countRun0_eq];have s1:iS (arrOf st) 1:=fun i j hij hj=>by omega
 refine wpS_bind (wpS_ascLoop h0 (Nat.le_refl _) (Nat.le_refl 1) h1 hB s1.to fun n n1 n2 sn hor=>?_);dsimp only;have s2:=s1.more ht sn n2;by_cases hn:n=a₀.size
 . rw[if_pos (by simpa using hn)];exact wpS_pure (h n st hB n1 n2 s2 (ht.up n1))
 . rw[if_neg (by simpa using hn)];have hl:=hor.resolve_left hn;by_cases hg:n>1
   . rw[if_pos hg];refine wpS_bind (wpS_ltK hB h0 (by omega) (by omega) ?_);by_cases hr:K (arrOf st) 0<K (arrOf st) (n-1)
     . simp only[hr,decide_true,if_true];exact wpS_pure (h n st hB n1 n2 s2 (ht.up n1))
     . simp only[hr,decide_false,Bool.false_eq_true,if_false];have hsz:n<=(arrOf st).size:=by rw[hB.size];exact n2
       have eqs:∀k,k<n->K (arrOf st) k=K (arrOf st) (n-1):=fun k hk=>by
        have x:=sn 0 k (by omega) hk;have y:=sn k (n-1) (by omega) (by omega);omega
       have km:=ll (xs:=arrOf st) (i:=0) (j:=n) hsz;refine wpS_bind (wpS_reverse (vV h0 (by omega) (hB.setArr (mirror_perm _ _ _ _)) ⟨by omega,fun i j hij hj=>⟨fun hh=>by omega,fun hh=>⟨fun hj2=>?_,?_⟩⟩⟩ (l7 (ht.up (by omega)) hsz (by omega)) h))
       . have hjn:j=n:=by omega
         subst hjn;show K (mirror (arrOf st) _ _ _) j<K (mirror (arrOf st) _ _ _) i;rw[(km i).1,(km j).1,if_neg (show¬(0<=j/\j<j) by omega),if_pos (by omega),eqs (0+j-1-i) (by omega)];exact hl
       . show lB (mirror (arrOf st) _ _ _) j i;unfold lB;rw[(km i).1,(km i).2,(km j).1,(km j).2,if_pos (show 0<=i/\i<n by omega)];by_cases hjn:j<n
         . rw[if_pos (by omega)];refine .inr ⟨(eqs _ (by omega)).trans (eqs _ (by omega)).symm,ht _ _ (by omega) (by omega) (by omega)⟩
         . have hjn:j=n:=by omega
           subst hjn;rw[if_neg (by omega),eqs (0+j-1-i) (by omega)];exact .inl hl
   . rw[if_neg hg];have hn1:n=1:=by omega
     subst hn1;refine vV h0 (by omega) hB ⟨by omega,fun i j hij hj=>⟨fun hh=>by omega,fun hh=>?_⟩⟩ (ht.up (by omega)) h;have hi0:i=0:=by omega
     have hj1:j=1:=by omega
     subst hi0;subst hj1;exact⟨fun _=>hl,.inl hl⟩
theorem C2{st:SortSt}{Q:Unit->SortSt->Prop}(h0:IntKeys a₀)(hB:SBase a₀ st)(ht:hZ a₀.size (arrOf st) 1)(h2:2<=a₀.size)(h64:a₀.size<64)
 (h:∀st',(arrOf st').Perm a₀->failedOf st'=none->iS (arrOf st') a₀.size->Q () st'):wpS (model prog w) A E s sortRuns' Q st:=by
 rw[sortRuns'_eq];refine wpS_bind (wpS_get ?_);dsimp only
 have hmr:minRun' a₀.size a₀.size 0=a₀.size:=by
  cases e:a₀.size with
  |zero=>rw[e]at h2;omega
  |succ f=>rw[minRun'_succ,if_pos (by omega)]
 simp only[hB.size,hmr]
 have dn:∀ {q:SortSt},SBase a₀ q->iS (arrOf q) a₀.size->∃p,p=setPending q ((pendingOf q).push (0,a₀.size,0))/\(arrOf p).Perm a₀/\failedOf p=none/\pendingOf p= #[(0,a₀.size,0)]/\iS (arrOf p) a₀.size:=fun{q} b s=>
  ⟨_,rfl,b.perm,b.failed,by show(pendingOf q).push _=_;rw[b.pend];rfl,s⟩
 refine wpS_bind (wpS_mono (wpS_forRange
  (I:=fun x c q=>(x=0/\c=(none,0)/\q=st)\/(1<=x/\c=(none,a₀.size)/\(arrOf q).Perm a₀/\failedOf q=none/\pendingOf q= #[(0,a₀.size,0)]/\iS (arrOf q) a₀.size))
  (Q:=fun c q=>c=(none,a₀.size)/\(arrOf q).Perm a₀/\failedOf q=none/\pendingOf q= #[(0,a₀.size,0)]/\iS (arrOf q) a₀.size) ?st ?en (.inl ⟨rfl,rfl,rfl⟩)) ?po)
 case en=>
  rintro c q (⟨hx,_,_⟩|⟨_,hc,hD⟩)
  . omega
  . exact⟨hc,hD⟩
 case st=>
  rintro x c q _ hx (⟨rfl,rfl,rfl⟩|⟨_,rfl,hD⟩)
  . dsimp only;rw[if_neg (by omega)];simp only[Nat.sub_zero,Nat.min_self,Nat.zero_add];refine wpS_bind (CV h0 (by omega) hB ht fun m q2 b1 b2 b3 b4 b5=>?_);dsimp only;by_cases hm:m<a₀.size
    . rw[if_pos hm];refine wpS_bind (wpS_lift (wpAny_rule ⟨rfl,?_⟩));refine wpS_bind (Dc h0 b2 b3 b1 b4 b5 fun q3 d1 d2=>?_);simp only[Bool.not_true,Bool.false_eq_true,if_false];refine wpS_bind (wpS_get ?_);have hb:(pendingOf q3).back?=none:=by rw[d1.pend];rfl
      rw[hb];dsimp only;obtain⟨p,rfl,z⟩:=dn d1 d2;exact wpS_bind (wpS_modify (wpS_pure (.inr ⟨by omega,rfl,z⟩)))
    . rw[if_neg hm];have hm:m=a₀.size:=by omega
      subst hm;refine wpS_bind (wpS_get ?_);have hb:(pendingOf q2).back?=none:=by rw[b1.pend];rfl
      rw[hb];dsimp only;obtain⟨p,rfl,z⟩:=dn b1 b4;exact wpS_bind (wpS_modify (wpS_pure (.inr ⟨by omega,rfl,z⟩)))
  . dsimp only;rw[if_pos (Nat.le_refl _)];exact wpS_pure ⟨rfl,hD⟩
 case po=>
  rintro c q ⟨rfl,d1,d2,d3,d4⟩;dsimp only;refine wpS_bind (wpS_mono (wpS_forRange (I:=fun _ c q'=>q'=q/\c=(none,())) (Q:=fun c q'=>q'=q/\c=(none,())) ?_ (fun _ _ z=>z) ⟨rfl,rfl⟩) ?_)
  . rintro x c q' _ _ ⟨rfl,rfl⟩;refine wpS_bind (wpS_get ?_);rw[if_pos (by rw[d3];exact Nat.le_refl 1)];exact wpS_pure ⟨rfl,rfl⟩
  . rintro c q' ⟨rfl,rfl⟩;exact wpS_pure (h _ d1 d2 d4)
end
end L3
namespace L2
open PySem PySem.Spec PyProof.Rows
structure Entry(K:PySem.W.Frag)(ts:List (Addr×Addr))(a:Addr)(ns:List Int)(H:Hp):Prop where
 lst:lI K H a (ns.map V.int)
 tab:∀q∈ts,H q.2=some (.jz #[])/\q.2≠a
theorem vP:∀ {vs:List Value} {ns:List Int},IntsAre vs ns->Vals (ns.map V.int) vs
 |_,_,.nil=> .nil
 |_,_,.cons n t h=> .cons ⟨t,rfl⟩ (vP h)
structure Jh(K:PySem.W.Frag)(ts:List (Addr×Addr))(h:Heap):Prop where
 hd:∀q∈ts,PySem.W.codeHdIn K q.1 q.2=true
 no:∀q∈ts,K.lookup q.2=none
 at':∀q∈ts,h.get? q.2=some (PySem.W.tabObj #[])
theorem Cg{P:Program}{w:World}{K:PySem.W.Frag}{mg mb:Str->Option Value}{k:Nat}{fa a:Addr}{fd:FuncData}{x:Str}{sp:Sp}{s₁:Shared}{vs:List Value}{ns:List Int}{ts:List (Addr×Addr)}
 (KX:K.In s₁.heap) (hns:s₁.heap.Ns mainGlobals mg) (hb:s₁.heap.Ns builtinsNs mb) (hbb:∀x:Str,x≠"__name__"->mb x=bootBuiltins x) (hlim:s₁.heap.NoLimit) (hse:s₁.heap.NoSeer) (hgt:P.given.tree=none)
 (hbm:∃bm ob,mg "__builtins__"=some (.ref bm)/\bm≠builtinsNs/\s₁.heap.get? bm=some ob/\ob.cls= .type "module"/\ob.dict=some builtinsNs/\ob.data= .plain) (hT:Jh K ts s₁.heap) (hg:s₁.gens= #[])
 (ha:s₁.heap.get? a=some {cls:= .type "list",data:= .seq vs.toArray}) (hi:IntsAre vs ns) (hl:ns.length<=sizeLine) (hr:cC k callerA)
 (F:∀base:Heap,K.In base->base.Ns mainGlobals mg->a9 P w K mg base (fun _ _ _ _ _ _=>False) k fa fd [x] sp) (hbind:∀(s:Shared) (u:Value),BindsTo s fd ⟨[u],[]⟩ [(x,u)])
 (hsp:∀H:Hp,Entry K ts a ns H->sp [.ref a] H (fun v _=>v= .bl true) fun _ _ _=>False):
 codeAny (model P w) callerA (.call (.ref fa) ⟨[.ref a],[]⟩) (fun r s'=>r= .ok (.ret (.bool true))/\OldK s₁.heap s'.heap/\s'.os=s₁.os/\AllBare s'.gens) s₁:=by
 have rv:=vP hi;have lenV:=hi.length
 have nta:∀q∈ts,q.2≠a:=fun q hq z=>by
  have:=hT.at' q hq;rw[z,ha]at this;cases this
 let sc:Option HO:=match K.lookup a with
  |some _=>none
  |none=>some (.fP {cls:= .type "list",data:= .seq vs.toArray} (.lst (ns.map V.int)))
 let H:Hp:=fun b=>if b=a then sc else if b∈ts.map (·.2)then some (.jz #[])else none
 have Ha:H a=sc:=if_pos rfl
 have Ht:∀q∈ts,H q.2=some (.jz #[]):=fun q hq=>by
  show(if q.2=a then sc else if q.2∈ts.map (·.2)then some (HO.jz #[])else none)=_;rw[if_neg (nta q hq),if_pos (List.mem_map_of_mem hq)]
 have Hs:∀b u,H b=some u->(b=a/\K.lookup a=none/\u= .fP {cls:= .type "list",data:= .seq vs.toArray} (.lst (ns.map V.int)))\/(∃q∈ts,q.2=b/\u= .jz #[]):=fun b u e=>by
  have e':(if b=a then sc else if b∈ts.map (·.2)then some (HO.jz #[])else none)=some u:=e;by_cases hba:b=a
  . rw[if_pos hba]at e'
    have e2:(match K.lookup a with
     |some _=>none
     |none=>some (HO.fP {cls:= .type "list",data:= .seq vs.toArray} (.lst (ns.map V.int))))=some u:=e'
    cases q:K.lookup a with
    |some o=>rw[q]at e2;cases e2
    |none=>rw[q]at e2;cases e2;exact .inl ⟨hba,rfl,rfl⟩
  . rw[if_neg hba]at e';by_cases hbt:b∈ts.map (·.2)
    . rw[if_pos hbt]at e';cases e';obtain⟨q,hq,e⟩:=List.mem_map.mp hbt;exact .inr ⟨q,hq,e,rfl⟩
    . rw[if_neg hbt]at e';cases e'
 have aK:gB P w H s₁.heap:=fun b u e=>by
  rcases Hs b u e with⟨rfl,_,rfl⟩|⟨q,hq,rfl,rfl⟩
  . exact⟨ha,by rw[List.length_map];exact hl,vs,_,rv,ha⟩
  . exact hT.at' q hq
 have hE:Entry K ts a ns H:=by
  refine⟨?_,fun q hq=>⟨Ht q hq,nta q hq⟩⟩;cases q:K.lookup a with
  |some o=>
   have e:=KX a o q;rw[ha]at e;cases e;exact .inr ⟨_,vs.toArray,_,q,rfl,rfl,rfl,by rw[List.size_toArray,lenV];exact hl,by simpa using rv⟩
  |none=>
   refine .inl (.inr ⟨{cls:= .type "list",data:= .seq vs.toArray},?_⟩);rw[Ha]
   show(match K.lookup a with
    |some _=>none
    |none=>some (HO.fP {cls:= .type "list",data:= .seq vs.toArray} (.lst (ns.map V.int))))=_
   rw[q]
 have dictNo:∀ {b:Addr} {o:Obj},s₁.heap.get? b=some o->(∀es ep,o.data≠ .seq es ep)->o.cls≠ .none->H b=none:=fun{b o} e d1 d2=>by
  cases q:H b with
  |none=>rfl
  |some u=>
   rcases Hs b u q with⟨rfl,_,_⟩|⟨t,ht,rfl,_⟩
   . rw[ha]at e;cases e;exact absurd rfl (d1 _ _)
   . rw[hT.at' t ht]at e;cases e;exact absurd rfl d2
 have nsK:∀ {b:Addr} {m:Str->Option Value},s₁.heap.Ns b m->(oi s₁.heap H).Ns b m:=fun{b m} ⟨o,es,ep,e,d,r⟩=>by
  refine⟨o,es,ep,o6 e ?_,d,r⟩;cases q:H b with
  |none=>rfl
  |some u=>
   rcases Hs b u q with⟨rfl,_,_⟩|⟨t,ht,rfl,_⟩
   . rw[ha]at e;cases e;cases d
   . rw[hT.at' t ht]at e;cases e;cases d
 have hKb:K.In (oi s₁.heap H):=fun b o e=>o6 (KX b o e) (by
  cases q:H b with
  |none=>rfl
  |some u=>
   rcases Hs b u q with⟨rfl,z,_⟩|⟨t,ht,rfl,_⟩
   . rw[z]at e;cases e
   . rw[hT.no t ht]at e;cases e)
 obtain⟨bm,ob,b1,b2,b3,b4,b5,b6⟩:=hbm;have hbmK:(oi s₁.heap H).get? bm=some ob:=o6 b3 (dictNo b3 (fun es ep z=>by rw[b6]at z;cases z) (fun z=>by rw[b4]at z;cases z))
 have seK:(oi s₁.heap H).NoSeer:=by
  obtain⟨⟨m1,a1,a2⟩,⟨m2,c1,c2⟩,⟨m3,d1,d2⟩,⟨mg',bm',ob',e1,e2,e3,e4,e5⟩⟩:=hse;refine⟨⟨m1,nsK a1,a2⟩,⟨m2,nsK c1,c2⟩,⟨m3,nsK d1,d2⟩,⟨mg',bm',ob',nsK e1,e2,o6 e3 ?_,e4,e5⟩⟩;cases q:H bm' with
  |none=>rfl
  |some u=>
   rcases Hs bm' u q with⟨rfl,_,_⟩|⟨t,ht,rfl,_⟩
   . rw[ha]at e3;cases e3;exact absurd (show Value.type "list"=Value.type "module" from e4) (by intro z;injection z with z;exact absurd z (by decide))
   . rw[hT.at' t ht]at e3;cases e3;cases e4
 have hM:Mod K mg (oi s₁.heap H):=⟨hKb,nsK hns,⟨mb,nsK hb,hbb⟩,let⟨mc,h1,h2⟩:=hlim;⟨mc,nsK h1,h2⟩,seK,⟨bm,ob,b1,b2,hbmK,b4,b5,b6⟩⟩
 have e0:tj P w K mg (oi s₁.heap H) callerA [] s₁ H:=⟨rfl,hM,fun b o e=>Gr e,Nat.le_of_eq (C7 _ _),trivial,fun b hb=>absurd (show b∈([]:List Addr)from hb) (by simp),aK,.of_eq hg,hgt⟩
 refine codeAny_mono ((F _ hKb (nsK hns)).run callerA [] s₁ H ⟨[.ref a],[]⟩ [.ref a] [.ref a] _ _ hr e0 (hbind s₁ (.ref a)) (.cons rfl .nil) (hsp H hE)) fun r s' h=>?_;cases r with
 |error e=>exact False.elim h
 |ok fl=>
  cases fl with
  |next=>exact False.elim h
  |brk=>exact False.elim h
  |cont=>exact False.elim h
  |ret u=>
   obtain⟨v,H',os,bare,un,hok',r',q⟩:=h;have q':v= .bl true:=q;subst q';obtain rfl:u=Value.bool true:=r';have noF:∀b:Addr,b∉oP ([]:List Env):=fun b z=>absurd (show b∈([]:List Addr)from z) (by simp);refine⟨rfl,⟨fun b o e=>?_,fun b o e=>un.there b o e (by simp)⟩,os,bare⟩;cases q:H b with
   |none=>exact .inl (un.keep b o e q (noF b) (by simp))
   |some u=>
    rcases Hs b u q with⟨rfl,_,rfl⟩|⟨t,ht,rfl,rfl⟩
    . obtain⟨e2,_⟩:=hok' b _ (un.mV b _ _ q);rw[ha]at e;cases e;exact .inl e2
    . obtain⟨more,e1⟩:=un.mT _ _ q;have e2:s'.heap.get? t.2=some {cls:= .none,data:= .fields (#[]++more)}:=hok' _ _ e1;have e3:=hT.at' t ht;rw[e3]at e;cases e;have C:PySem.W.CodeHd s₁.heap t.1 t.2:=PySem.W.codeHd_of_K KX (hT.hd t ht);exact .inr (.inl ⟨(C.tab e3).isCodeTable,rfl,#[],more,rfl,e2⟩)
theorem KY{l:PySem.W.OpenLaw}{n k:Nat}{q:Program}{loose:List Str}{XP:(Str->Option Value)->Heap->Prop}{YP:World->Heap->Prop}{d:DefRec}{K:Params->PySem.W.Frag}{sp:World->Sp}{x:Str}{ts:List (Addr×Addr)}
 (hn:l.most=some n) (hn2:n<=sizeLine) (hdf:d.params.defaults=[]) (hr:cC k callerA) (hq:importsNone q=true) (hgt:l.prog.given.tree=none)
 (hY:∀(w:World) (h:Heap),YP w h->(K w.params).In h/\Jh (K w.params) ts h)
 (F:∀(w:World) (mg:Str->Option Value) (fa:Addr) (h:Heap),(K w.params).In h->h.Ns mainGlobals mg->mg d.name=some (.ref fa)->
   ∃fd:FuncData,(∀(s:Shared) (u:Value),BindsTo s fd ⟨[u],[]⟩ [(x,u)])/\
    ∀base:Heap,(K w.params).In base->base.Ns mainGlobals mg->a9 l.prog w (K w.params) mg base (fun _ _ _ _ _ _=>False) k fa fd [x] (sp w))
 (hsp:∀(w:World) (H:Hp) (a:Addr) (ns:List Int),ns.length<=n->Entry (K w.params) ts a ns H->sp w [.ref a] H (fun v _=>v= .bl true) fun _ _ _=>False):
 PySem.W.WalkO q loose XP YP l.row.toRowW d [] (fun f vs=>PySem.call f vs):=by
 refine Att.zk hn hdf fun w s₀ s₁ mg mb fa o pm cd doc a vs ns G Y ho hd hcd hmg hobj hints hlen hg=>?_;obtain⟨KX,hT⟩:=hY w _ Y;obtain⟨fd,hb,hF⟩:=F w mg fa _ KX G.T.g hmg;exact Cg KX G.T.g G.T.b G.T.builtins G.T.nolimit (G.T.seer hq) hgt G.T.bmain hT hg hobj hints (Nat.le_trans hlen hn2) hr hF hb fun H hE=>hsp w H a ns hlen hE
end L2
namespace L3
open PySem PySem.Spec L2
open PyProof.Rows hiding St
section
variable {X:Cx}{pins:List (Addr×Obj)}{σ:L2.St}{H:Hp}{s:Shared}{p:Addr}{o o':Obj}{h':Heap}
theorem kg{t':Nat}(I:Inv X pins σ H s)(hd:∀v,o.data≠ .cell v)(hfr:o.isFreed=false:=by rfl):Inv X (pins++[(s.heap.objs.size,o)]) σ H {s with heap:=s.heap.push o,toks:=t'}:=by
 have I':=I.kept (h':=s.heap.push o) (t':=t') (fun b u e=>Heap.get?_push_of_some _ e);refine I'.rF fun q hq=>?_;rcases List.mem_append.mp hq with hq|hq
 . exact I'.pin q (List.mem_append_right _ hq)
 . have e:q=(s.heap.objs.size,o):=by simpa using hq
   subst e;exact⟨Heap.get?_push_size _ hfr,I.aK.fresh (Nat.le_refl _),Nat.ne_of_gt I.lt,I.KH (Nat.le_refl _),hd⟩
theorem ff(I:Inv X (pins++[(p,o)]) σ H s):s.heap.get? p=some o/\H p=none/\p≠X.env.locals/\p∉X.fs/\∀v,o.data≠ .cell v:=
 I.pin (p,o) (List.mem_append_right _ (List.mem_append_right _ (List.mem_singleton.mpr rfl)))
theorem yk(I:Inv X (pins++[(p,o)]) σ H s):∀x c,X.env.cells.lookup x=some c->c≠p:=fun x c e z=>by
 obtain⟨v,u,hu,hd⟩:=I.cell x c e;obtain⟨h1,_,_,_,h5⟩:=ff I;rw[z,h1]at hu;cases hu;exact h5 v hd
theorem m_{t':Nat}(I:Inv X (pins++[(p,o)]) σ H s)(hs:Heap.SameBut p s.heap h')(hn:h'.get? p=some o')(hd:∀v,o'.data≠ .cell v)(h0:X.s₀.heap.objs.size<=p)(hp:∀q∈X.pn++pins,q.1≠p):
 Inv X (pins++[(p,o')]) σ H {s with heap:=h',toks:=t'}:=by
 obtain⟨_,n,neL,nfs,_⟩:=ff I;have I0:Inv X pins σ H s:=I.gh;have I1:=I0.turned (t':=t') (h':=h') (it:=p) (fun b u hb e=>(hs.2 b hb).trans e) n neL (.inr h0) (yk I) hp;refine I1.rF fun q hq=>?_;rcases List.mem_append.mp hq with hq|hq
 . exact I1.pin q (List.mem_append_right _ hq)
 . have e:q=(p,o'):=by simpa using hq
   subst e;exact⟨hn,n,neL,nfs,hd⟩
theorem Cr{u:HO}(I:Inv X (pins++[(p,o)]) σ H s)(h0:X.s₀.heap.objs.size<=p)(hp:∀q∈X.pn++pins,q.1≠p)(new:cW X.prog X.w (upd H p u) s.heap p u):Inv X pins σ (upd H p u) s:=by
 obtain⟨e0,n,neL,nfs,_⟩:=ff I;have ne:∀ {b:Addr} {w:HO},H b=some w->b≠p:=fun e=>cV e n;have ne0:∀ {b:Addr} {w:Obj},X.s₀.heap.get? b=some w->b≠p:=fun e=>Nat.ne_of_lt (Nat.lt_of_lt_of_le (Heap.lt_size e) h0);refine⟨I.ok,I.os,I.bare,⟨I.base.keep,I.base.slot,fun b w e q hx=>?_,I.base.there,fun b xs e=>?_,fun b w y e=>?_,fun b ps e=>?_⟩,I.loc,I.cell,?_,fun x c e=>?_,fun q hq=>?_,fun b w e=>?_,I.len⟩
 . rw[ax (ne0 e)];exact I.base.free b w e q hx
 . have:=I.base.oq b xs e;rw[ax (ne this)];exact this
 . have:=I.base.mV b w y e;rw[ax (ne this)];exact this
 . obtain⟨m,q⟩:=I.base.mT b ps e;exact⟨m,by rw[ax (ne q)];exact q⟩
 . rw[ax (Ne.symm neL)];exact I.free
 . rw[ax (yk I x c e)];exact I.gY x c e
 . have hq':q∈X.pn++(pins++[(p,o)]):=by
    rcases List.mem_append.mp hq with z|z
    . exact List.mem_append_left _ z
    . exact List.mem_append_right _ (List.mem_append_left _ z)
   obtain⟨a1,a2,a3⟩:=I.pin q hq';exact⟨a1,by rw[ax (hp q hq)];exact a2,a3⟩
 . by_cases hb:b=p
   . subst hb;rw[aY]at e;cases e;exact new
   . rw[ax hb]at e;exact(I.aK b w e).kC (fun _ _ _ q=>q) (fun c q=>by rw[ax (ne q)];exact q) fun c xs q=>by rw[ax (ne q)];exact q
end
def l6(X:Cx)(pins:List (Addr×Obj))(σ:L2.St)(R:Hp->Prop)(own:List (Addr×Obj))(s:Shared):Prop:=∃H,Inv X (pins++own) σ H s/\R H
section
variable {X:Cx}{pins:List (Addr×Obj)}{σ:L2.St}{R:Hp->Prop}{s:Shared}{A:Around}{E:Value->Shared->Prop}{a kS:Addr}{e1 e:Nat}{keys:Array Value}{P:PySem.Fin->Shared->Prop}
structure Own(X:Cx)(pins:List (Addr×Obj))(p:Addr):Prop where
 ge:X.s₀.heap.objs.size<=p
 ne:∀q∈X.pn++pins,q.1≠p
theorem rV{H:Hp}(I:Inv X pins σ H s):Own X pins s.heap.objs.size:=⟨I.sz,fun q hq=>Nat.ne_of_lt (Heap.lt_size (I.pin q hq).1)⟩
theorem ya{p:Addr}{q:Addr×Obj}(h:Own X pins p)(hq:q.1≠p):Own X (pins++[q]) p:=⟨h.ge,fun r hr=>by
 rcases List.mem_append.mp hr with z|z
 . exact h.ne r (List.mem_append_left _ z)
 . rcases List.mem_append.mp z with z|z
   . exact h.ne r (List.mem_append_right _ z)
   . have e:r=q:=by simpa using z
     rw[e];exact hq⟩
theorem yB{x y:Addr×Obj}(J:l6 X pins σ R [x,y] s):∃H,Inv X ((pins++[x])++[y]) σ H s/\R H:=by
 obtain⟨H,I,r⟩:=J;exact⟨H,by rw[List.append_assoc];exact I,r⟩
theorem Dg{x y:Addr×Obj}{H:Hp}(I:Inv X ((pins++[x])++[y]) σ H s)(r:R H):l6 X pins σ R [x,y] s:=⟨H,by rw[List.append_assoc]at I;exact I,r⟩
theorem xS{st:SortSt}(J:l6 X pins σ R [(a,seqObj "list" #[] e1),(kS,seqObj "list" keys e)] s)(ha:Own X pins a)(hk:Own X pins kS)(hka:kS≠a)(hz1:keys.size<=sizeLine)(hz2:(arrOf st).size<=sizeLine)(hf:failedOf st=none)
 (h:∀s' c,l6 X pins σ R [(a,seqObj "list" ((arrOf st).map (·.2)) c)] s'->P (.done (.ret .none)) s'):
 wpAny (model X.prog X.w) A (PyProof.Rows.ksk_tail a false e1 (.ref kS) st) P E s:=by
 obtain⟨H,I,r⟩:=yB J;have k1:=(ff I).1;have s1:=Heap.SameBut.update s.heap kS (Obj.mapSeq fun _=>(#[]:Array Value));have I1:=m_ (t':=s.toks) I s1 (get?_update_seq k1 fun _=> #[]) (fun v z=>by cases z) hk.ge (ya hk hka.symm).ne;have I2:Inv X (pins++[(a,seqObj "list" #[] e1)]) σ H {s with heap:=s.heap.update kS (Obj.mapSeq fun _=>(#[]:Array Value)),toks:=s.toks}:=I1.gh;have a1:=(ff I2).1;have s2:=Heap.SameBut.update (s.heap.update kS (Obj.mapSeq fun _=>(#[]:Array Value))) a (Obj.mapSeq fun _=>(arrOf st).map (·.2));have I3:=m_ (t':=s.toks) I2 s2 (get?_update_seq a1 fun _=>(arrOf st).map (·.2)) (fun v z=>by cases z) ha.ge ha.ne;unfold ksk_tail;simp only[Bool.false_eq_true,if_false];refine wpAny_bind (listUpdate_at k1 rfl ?_ hz1 (Nat.zero_le _));refine wpAny_bind (wpAny_letGo ?_);refine wpAny_bind (seqEpoch_at a1 rfl ?_);refine wpAny_bind (listUpdate_at a1 rfl ?_ (Nat.zero_le _) (Nat.le_succ_of_le (by rw[Array.size_map];exact hz2)));rw[hf];simp only[bne_self_eq_false,Bool.false_eq_true,if_false];exact wpAny_pure (h _ _ ⟨H,I3,r⟩)
def A7(kz:List Int)(vs out:List Value):Prop:=
 ∃ps:List (Int×Value),ps.Perm (kz.zip vs)/\out=ps.map Prod.snd/\ps.Pairwise fun p q=>p.1<q.1\/(p.1=q.1/\numOf p.2<numOf q.2)
theorem zu{kz:List Int}{vs:List Value}(hk:IntsAre keys.toList kz){xs:Array Keyed}(hp:xs.Perm (keys.zip vs.toArray))(hs:iS xs xs.size):A7 kz vs (xs.map (·.2)).toList:=by
 have hl:xs.toList.Perm (keys.toList.zip vs):=by rw[<-ksk_zip];exact Array.perm_iff_toList_perm.mp hp
 refine⟨xs.toList.map fun p=>(numOf p.1,p.2),?_,?_,?_⟩
 . have e2:(keys.toList.zip vs).map (fun p:Keyed=>(numOf p.1,p.2))=kz.zip vs:=by
    rw[<-hk.nums,List.zip_map_left];exact List.map_congr_left fun⟨x,y⟩ _=>rfl
   rw[<-e2];exact hl.map _
 . rw[Array.toList_map,List.map_map];rfl
 . rw[List.pairwise_iff_getElem];intro i j hi hj hij;have hi':i<xs.size:=by simpa using hi
   have hj':j<xs.size:=by simpa using hj
   have q:=hs i j hij hj';unfold lB Jn at q;rw[K_eq hi',K_eq hj',getElem?_pos xs i hi',getElem?_pos xs j hj']at q;simpa using q
theorem Hf{kz:List Int}{vs:List Value}(J:l6 X pins σ R [(a,seqObj "list" #[] e1),(kS,seqObj "list" keys e)] s)(ha:Own X pins a)(hk:Own X pins kS)(hka:kS≠a)(hi:IntsAre keys.toList kz)(hl:kz.length=vs.length)(h64:vs.length<64)
 (hup:vs.Pairwise fun x y=>numOf x<numOf y)
 (h:∀s' out c,l6 X pins σ R [(a,seqObj "list" out c)] s'->A7 kz vs out.toList->P (.done (.ret .none)) s'):
 wpAny (model X.prog X.w) A (ksk_end a false vs.toArray e1 (.ref kS) keys) P E s:=by
 have hsz:keys.size=vs.length:=by have:=hi.length;rw[Array.length_toList]at this;omega
 have hzs:(keys.zip vs.toArray).size=vs.length:=by rw[Array.size_zip,hsz,List.size_toArray,Nat.min_self]
 have hbig:vs.length<=sizeLine:=Nat.le_trans (Nat.le_of_lt h64) (by decide)
 have hta:hZ (keys.zip vs.toArray).size (keys.zip vs.toArray) 1:=fun i j hij _ hj=>by
  rw[hzs]at hj
  have e1:(keys.zip vs.toArray)[i]?=some (keys.toList[i]'(by rw[Array.length_toList];omega),vs[i]'(by omega)):=by
   rw[<-Array.getElem?_toList,ksk_zip,List.getElem?_eq_getElem (by rw[List.length_zip,Array.length_toList];omega),List.getElem_zip]
  have e2:(keys.zip vs.toArray)[j]?=some (keys.toList[j]'(by rw[Array.length_toList];omega),vs[j]'(by omega)):=by
   rw[<-Array.getElem?_toList,ksk_zip,List.getElem?_eq_getElem (by rw[List.length_zip,Array.length_toList];omega),List.getElem_zip]
  unfold Jn;rw[e1,e2];exact List.pairwise_iff_getElem.mp hup i j (by omega) (by omega) hij
 unfold ksk_end;simp only[Bool.false_eq_true,if_false];by_cases h2:vs.toArray.size<2
 . rw[if_pos h2,if_pos h2];refine wpAny_bind (wpAny_pure ?_);rw[StateT.run_pure];refine wpAny_bind (wpAny_pure ?_);refine xS (st:=SortSt.mk' general' (keys.zip vs.toArray) #[] 7 none) J ha hk hka (by omega) (by show(keys.zip vs.toArray).size<=_;omega) rfl fun s' c J'=>h s' _ c J' ?_;refine zu hi (Array.Perm.refl _) fun i j hij hj=>?_;have hj':j<(keys.zip vs.toArray).size:=hj;rw[List.size_toArray]at h2;omega
 . rw[if_neg h2,if_neg h2];rw[List.size_toArray]at h2;rw[ksk_kind hi (by omega)];refine wpAny_bind (wpAny_pure ?_)
   refine wpAny_bind (wpAny_mono (C2 (a₀:=keys.zip vs.toArray) (st:=SortSt.mk' oneType' (keys.zip vs.toArray) #[] 7 none)
    (Q:=fun _ st'=>(arrOf st').Perm (keys.zip vs.toArray)/\failedOf st'=none/\iS (arrOf st') (keys.zip vs.toArray).size)
    (ksk_intKeys hi) ⟨Array.Perm.refl _,rfl,rfl,rfl⟩ hta (by omega) (by omega) fun st' b1 b2 b3=>⟨b1,b2,b3⟩) ?_ fun _ _ z=>z)
   rintro⟨⟨⟩,st'⟩ s' ⟨rfl,hp,hf,hs⟩;have hz2:=hp.size_eq;refine xS (st:=st') J ha hk hka (by omega) (by rw[hz2];omega) hf fun s' c J'=>h s' _ c J' (zu hi hp (by rw[hz2];exact hs))
theorem EJ{f:Value}{kz:List Int}{vs:List Value}(J:l6 X pins σ R [(a,seqObj "list" #[] e1),(kS,seqObj "list" #[] 0)] s)(ha:Own X pins a)(hk:Own X pins kS)(hka:kS≠a)(hl:kz.length=vs.length)(h64:vs.length<64)
 (hup:vs.Pairwise fun x y=>numOf x<numOf y)
 (turn:∀(i:Nat) (v:Value) (k:Int),vs[i]?=some v->kz[i]?=some k->∀(own:List (Addr×Obj)) (s:Shared),l6 X pins σ R own s->wpAny (model X.prog X.w) A (call f [v]) (fun u s'=>(∃t,u= .int k t)/\l6 X pins σ R own s') (fun _ _=>False) s)
 (h:∀s' out c,l6 X pins σ R [(a,seqObj "list" out c)] s'->A7 kz vs out.toList->P (.done (.ret .none)) s'):
 wpAny (model X.prog X.w) A (ksk_rest a f false vs.toArray e1 (.ref kS)) P E s:=by
 have hbig:vs.length<=sizeLine:=Nat.le_trans (Nat.le_of_lt h64) (by decide);unfold ksk_rest;refine wpAny_bind (wpAny_rule ?_)
 first
  |rw[List.forIn_toArray]
  |(rw[<-Array.forIn_toList];simp only[List.toList_toArray])
  |rw[<-Array.forIn_toList]
 refine wpAny_bind (ksk_fold (fun i s'=>∃kA e,l6 X pins σ R [(a,seqObj "list" #[] e1),(kS,seqObj "list" kA e)] s'/\IntsAre kA.toList (kz.take i)) vs 0 s ⟨#[],0,J,by simpa using IntsAre.nil⟩ ?st ?en)
 case st=>
  rintro j x s' hx ⟨kA,e,J',hk'⟩;simp only[Nat.zero_add]at hk'⊢;have hj:j<vs.length:=(List.getElem?_eq_some_iff.mp hx).1;have hkj:kz[j]?=some (kz[j]'(by omega)):=List.getElem?_eq_getElem _
  have hz:kA.size<=vs.length:=by
   have:=hk'.length;rw[Array.length_toList,List.length_take]at this;omega
  refine wpAny_bind (wpAny_attempt (wpAny_mono (turn j x _ hx hkj _ s' J') (fun v s2 he=>?_) fun _ _ z=>z.elim));obtain⟨⟨t,rfl⟩,J2⟩:=he;obtain⟨H,I,r⟩:=yB J2;have k1:=(ff I).1;have s1:=Heap.SameBut.update s2.heap kS (Obj.mapSeq (·.push (.int (kz[j]'(by omega)) t)));have I1:=m_ (t':=s2.toks) I s1 (get?_update_seq k1 (·.push (.int (kz[j]'(by omega)) t))) (fun v z=>by cases z) hk.ge (ya hk hka.symm).ne;refine wpAny_bind (listUpdate_at k1 rfl ?_ (by omega) (Nat.le_trans (Nat.le_of_eq (Array.size_push ..)) (by omega)));refine wpAny_pure ⟨rfl,_,_,Dg I1 r,?_⟩;have ek:kz.take (j+1)=kz.take j++[kz[j]'(by omega)]:=by rw[List.take_add_one,hkj];simp
  rw[ek,Array.toList_push];exact ksk_snoc hk'
 case en=>
  rintro s' ⟨kA,e,J',hk'⟩;rw[show kz.take (0+vs.length)=kz from List.take_of_length_le (by omega)]at hk';obtain⟨H,I,r⟩:=yB J';refine wpAny_bind (listItems_at (ff I).1 rfl ?_);exact Hf J' ha hk hka hk' hl h64 hup h
theorem Af{f:Addr}{l:Addr}{kz:List Int}{vs:List Value}{H:Hp}{Q:Value->Shared->Prop}(I:Inv X pins σ H s)(r:R H)(hli:s.heap.IsList l vs.toArray)(hl:kz.length=vs.length)(h64:vs.length<64)
 (hup:vs.Pairwise fun x y=>numOf x<numOf y)
 (turn:∀(i:Nat) (v:Value) (k:Int),vs[i]?=some v->kz[i]?=some k->∀(own:List (Addr×Obj)) (s:Shared),l6 X pins σ R own s->wpAny (model X.prog X.w) A.in1.in1 (call (.ref f) [v]) (fun u s'=>(∃t,u= .int k t)/\l6 X pins σ R own s') (fun _ _=>False) s)
 (h:∀D s' out c,Own X pins D->l6 X pins σ R [(D,seqObj "list" out c)] s'->A7 kz vs out.toList->Q (.ref D) s'):
 wpAny (model X.prog X.w) A (call (.builtin "sorted") [.ref l] [(Str.ofString "key",.ref f)]) Q E s:=by
 have hbig:vs.length<=sizeLine:=Nat.le_trans (Nat.le_of_lt h64) (by decide);refine call_function_entry_kw kind_sorted plain_sorted entry_sorted (ksk_s1 _ _) ?_;unfold Builtin.«sorted»;refine wpAny_bind (m:=checkCount "sorted" 1 1 _) (wpAny_pure ?_);refine wpAny_bind (collect_list hli ?_ hbig);have I1:=kg (o:=seqObj "list" #[] 0) (t':=s.toks) I (fun v z=>by cases z);have s1:=Heap.SameBut.update (s.heap.push (seqObj "list" #[] 0)) s.heap.objs.size (Obj.mapSeq (· ++vs.toArray));have I2:=m_ (t':=s.toks) I1 s1 (get?_update_seq (ff I1).1 (· ++vs.toArray)) (fun v z=>by cases z) (rV I).ge (rV I).ne;have I3:Inv X pins σ H {s with heap:=(s.heap.push (seqObj "list" #[] 0)).update s.heap.objs.size (Obj.mapSeq (· ++vs.toArray)),toks:=s.toks}:=I2.gh;refine wpAny_bind (wpAny_newList ?_ hbig);generalize hs3:({s with heap:=(s.heap.push (seqObj "list" #[] 0)).update s.heap.objs.size (Obj.mapSeq (· ++vs.toArray))}:Shared)=s3;have I3':Inv X pins σ H s3:=by rw[<-hs3];exact I3
 have oD:=rV I3';have I4:=kg (o:=seqObj "list" vs.toArray 0) (t':=s3.toks) I3' (fun v z=>by cases z);have hD:=(ff I4).1;refine wpAny_bind (wpAny_holding (wpAny_call_entry_kw slot_list_sort ⟨_,hD,rfl⟩ entry_list_sort ?body (ksk_l1 _ _)))
 case body=>
  show wpAny (model X.prog X.w) A.in1.in1 (Builtin.«list.sort» ⟨[.ref s3.heap.objs.size],[(Str.ofString "key",.ref f)]⟩) _ _ _;rw[ksk_t1];unfold ksk_tree;refine wpAny_bind (listItems_at hD rfl ?_);have s5:=Heap.SameBut.update (s3.heap.push (seqObj "list" vs.toArray 0)) s3.heap.objs.size (Obj.mapSeq fun _=>(#[]:Array Value));have I5:=m_ (t':=s3.toks) I4 s5 (get?_update_seq hD fun _=> #[]) (fun v z=>by cases z) oD.ge oD.ne;have hD5:=(ff I5).1;refine wpAny_bind (listUpdate_at hD rfl ?_ (by rw[List.size_toArray];exact hbig) (Nat.zero_le _));refine wpAny_bind (seqEpoch_at hD5 rfl ?_);refine wpAny_bind (wpAny_newTuple ?_ (by show vs.length<=_;exact hbig));have I6:=(kg (o:=seqObj "tuple" vs.toArray 0) (t':=s3.toks) I5 (fun v z=>by cases z)).gh;refine wpAny_bind (wpAny_newList ?_ (Nat.zero_le _));have ok:=rV I6;have I7:=kg (o:=seqObj "list" #[] 0) (t':=s3.toks) I6 (fun v z=>by cases z);refine wpAny_holding ?_
  have okp:Own X pins _:=⟨ok.ge,fun q hq=>ok.ne q (by
   rcases List.mem_append.mp hq with z|z
   . exact List.mem_append_left _ z
   . exact List.mem_append_right _ (List.mem_append_left _ z))⟩
  refine EJ (Dg I7 r) oD okp (fun z=>ok.ne (s3.heap.objs.size,_) (List.mem_append_right _ (List.mem_append_right _ (List.mem_singleton.mpr rfl))) z.symm) hl h64 hup turn fun s' out c J' so=>⟨_,rfl,?_⟩
  exact wpAny_pure ⟨_,rfl,h _ s' out c oD J' so⟩
end
structure my(X:Cx)(scope:Scope)(Nc:List Str)(fr:List (Option Nat))(p:Str):Prop where
 sc:bU X scope Nc fr
 BJ:∀x∈scope.names,x.2≠ .cell
 co:scope.isCoroutine=false
 gen:scope.isGenerator=false
 p0:Nc[0]?=some p
 f0:fr[0]?=some none
 loc:scope.names.lookup p=some .local
abbrev AE(X:Cx)(scope:Scope)(qual:Str)(f c:Addr)(s:Shared):Env:=PySem.W.envX qual scope s.heap.objs.size f (.ref c) (cQ X.env.cells scope.names [])
def CI(X:Cx)(scope:Scope)(Nc:List Str)(qual:Str)(f c:Addr)(s:Shared)(H:Hp):Cx:=
 {X with A:=X.A.in1.in1.deeper (AE X scope qual f c s),N:=Nc,s₀:=s,H₀:=H,env:=AE X scope qual f c s,outer:=X.stack,stack:=AE X scope qual f c s::X.stack,ex:=[],fn:=fun _=>false,calm:=true,pn:=[],xe:=fun _ _=>False}
section
variable {X:Cx}{scope:Scope}{Nc:List Str}{fr:List (Option Nat)}{p qual:Str}{f c:Addr}{pins:List (Addr×Obj)}{σ:L2.St}{H:Hp}{s:Shared}
theorem IZ(S:my X scope Nc fr p)(I:Inv X pins σ H s)(hc:X.calm=true):(CI X scope Nc qual f c s H).Ok where
 mod:=I.ok.mod
 kind:=S.sc.kind
 glob:=rfl
 blt:=rfl
 above:=Nat.le_refl _
 inj:=fun x y a h1 h2=>I.ok.inj x y a (cA _ [] (fun _ _ e=>by cases e) x a h1) (cA _ [] (fun _ _ e=>by cases e) y a h2)
 has:=fun x hx=>by
  have hx':scope.names.lookup x=some .cell\/scope.names.lookup x=some .free:=hx;rcases hx' with hx|hx
  . exact absurd rfl (S.BJ _ (PySem.mem_of_lookup hx))
  . exact g8 scope.names [] (I.ok.has x (S.sc.free _ (PySem.mem_of_lookup hx) rfl)) (.inl (PySem.mem_of_lookup hx))
 yg:=fun x a hf _=>by cases hf
 hd:=fun _=>I.ok.hd hc
 frames:=Around.frames_deeper (by show X.A.frames=_;exact I.ok.frames)
 zD:= .inr ⟨rfl,rfl⟩
 Cs:=fun b hb=>by cases hb
 bs:=I.bs
 qz:=Nat.le_trans I.ok.qz I.sz
 tE:=fun b o e hb=>by cases hb
 sR:=fun b hb=>by cases hb
 jD:=I.stack
 tY:=I.vt
 gt:=I.ok.gt
theorem Gv{h':Heap}{t':Nat}{v:V}{u:Value}(S:my X scope Nc fr p)(I:Inv X pins σ H s)(hc:X.calm=true)(r:RelV v u)(hn:h'.Ns s.heap.objs.size (fun x=>[(p,u)].reverse.lookup x))
 (k:∀b o,s.heap.get? b=some o->h'.get? b=some o):Inv (CI X scope Nc qual f c s H) [] ((σC fr σ).set 0 (some v)) H {s with heap:=h',toks:=t'} where
 ok:=IZ S I hc
 os:=rfl
 bare:=I.bare
 base:=Un.kept k
 loc:=⟨_,hn,fun i x w h1 h2 h3=>by
  by_cases hi:i=0
  . subst hi;have hp:=S.p0;have e:p=x:=Option.some.inj (hp.symm.trans h1);subst e
    have hl:0<(σC fr σ).length:=by
     have:=(List.getElem?_eq_some_iff.mp h2).1;rw[List.length_set]at this;exact this
    rw[List.getElem?_set_self hl]at h2;cases h2;exact⟨u,r,.inl ⟨S.loc,by simp⟩⟩
  . rw[List.getElem?_set_ne (Ne.symm hi)]at h2;obtain⟨j,q1,q2⟩:=zT h2;obtain⟨n1,n2,n3⟩:=S.sc.map i j x h1 q1;obtain⟨m,hm,hl⟩:=I.loc;obtain⟨u',r',lk⟩:=hl j x w n1 q2 (n3.elim (fun z=> .inr (.inl z)) fun z=> .inr (.inr z));refine⟨u',r',?_⟩;rcases lk with⟨z,_⟩|⟨_,a,e,ic⟩
    . rcases n3 with y|y<;>(rw[y]at z;cases z)
    . obtain⟨a',e'⟩:=g8 scope.names [] ⟨a,e⟩ (.inl (PySem.mem_of_lookup n2));have e2:=cA _ [] (fun _ _ e=>by cases e) x a' e';rw[e]at e2;cases e2;exact .inr ⟨.inr n2,a,e',ic.keeps k⟩⟩
 cell:=fun x a h=>by
  obtain⟨v,q⟩:=I.cell x a (cA _ [] (fun _ _ e=>by cases e) x a h);exact⟨v,q.keeps k⟩
 free:=I.aK.fresh (Nat.le_refl _)
 gY:=fun x a h=>I.gY x a (cA _ [] (fun _ _ e=>by cases e) x a h)
 pin:=fun q hq=>by cases hq
 aK:=I.aK.kept k
 len:=by rw[List.length_set];unfold σC;rw[List.length_map];exact S.sc.len
theorem EK{R:Hp->Prop}{params:Arguments}{body:Expr}{tb:TE}{own:List (Addr×Obj)}{k:Int}{v:V}{u pm ctv:Value}(S:my X scope Nc fr p)(hc:X.calm=true)(hr:X.A.depth<recursionLimit)
 (hb:∀(s:Shared) (H:Hp),PE (CI X scope Nc qual f c s H) body tb)
 (hbind:∀(cl:List (Str×Addr)) (pm cd ct v:Value),bindArgs (PySem.W.kla_fn "<lambda>" qual params body scope cl pm cd ct) ⟨[v],[]⟩=pure [(p,v)])
 (r:RelV v u) (hf:(f,PySem.W.kla_obj "<lambda>" qual params body scope (cQ X.env.cells scope.names []) pm c ctv)∈pins)
 (hcr:∀(H:Hp) (s:Shared),Inv X (pins++own) σ H s->R H->s.heap.CodeRec (.ref c) qual)
 (hq:∀H,R H->tb ((σC fr σ).set 0 (some v)) H fun x H'=>x= .int k/\R H') (J:l6 X pins σ R own s):
 wpAny (model X.prog X.w) X.A.in1.in1 (call (.ref f) [u]) (fun u' s'=>(∃t,u'= .int k t)/\l6 X pins σ R own s') (fun _ _=>False) s:=by
 obtain⟨H,I,rH⟩:=J;have ho:=(I.pin _ (List.mem_append_right _ (List.mem_append_left _ hf))).1;refine wpAny_call (PySem.W.kla_callFunE (fd:=PySem.W.kla_fn "<lambda>" qual params body scope (cQ X.env.cells scope.names []) pm (.ref c) ctv) (by show X.A.depth<_;exact hr) ho rfl S.co S.gen rfl (hcr H s I rH) ?_);rw[hbind]
 refine wpAny_pure (wpAny_newFunctionEnv S.BJ (fun y hy=>by
  have e:y=(p,u):=by simpa using hy
  rw[e];exact S.loc) (fun h₁ hns hsb=>?_) S.sc.kind)
 have hk:∀b o,s.heap.get? b=some o->h₁.get? b=some o:=fun b o e=>hsb.extBut b o (Nat.ne_of_lt (Heap.lt_size e)) (Heap.get?_push_of_some _ e);refine⟨I.nolimit.keeps hk,?_⟩;show codeAny _ X.A.in1.in1 (.expr body (AE X scope qual f c s)) _ _;refine PySem.W.kla_codeExpr (wpAny_mono (hb s H [] _ _ H _ (Gv S I hc r hns hk) (hq H rH)) (fun w s' he=>?_) fun e s' z=>False.elim z);obtain⟨x,H',I',rx,rfl,rH'⟩:=he;exact⟨rx,H',I.A_ (s':=s') (ch:=[]) I'.os I'.base I'.aK I'.bare (fun b z=>absurd z (by simp)),rH'⟩
theorem set_same{α:Type}:∀ {l:List α} {n:Nat} {x:α},l[n]?=some x->l.set n x=l
 | [],n,x,h=>by simp at h
 |a::l,0,x,h=>by simp at h;subst h;rfl
 |a::l,n+1,x,h=>by
  rw[List.set_cons_succ,set_same (n:=n) (by simpa using h)]
theorem EU{params:Arguments}{body:Expr}{lpos:Pos}{c0 T:Addr}{α:List (Option Addr)}{G F:Hp}{st:ag}{n0:Nat}{b:Bool}{E:Value->Shared->Prop}{Q:Value->Shared->Prop}(S:my X scope Nc fr p)(hcode:X.env.code= .ref c0)(hC:PySem.W.codeHdIn X.K c0 T=true)
 (hdef:defaultsOf params X.env=([],[])) (hql:X.env.qual++"<lambda>"=qual) (I:Inv X pins σ H s) (Sp:bQ G F H) (SR:aR α st G) (hn0:st[n0]?=some (.tab T lpos qual b))
 (h:∀(f c:Addr) (ctv pm:Value) (G2 H2:Hp) (s2:Shared),Inv X (pins++[(f,PySem.W.kla_obj "<lambda>" qual params body scope (cQ X.env.cells scope.names []) pm c ctv)]) σ H2 s2->Step α G α G2->bQ G2 F H2->aR α (st.set n0 (.tab T lpos qual true)) G2->
   (some c∉α/\∃o vs t,G2 c=some (.fP o (.own c))/\o.data= .fields vs/\vs[1]?=some (.str qual t))->Q (.ref f) s2):
 wpAny (model X.prog X.w) X.A (eval (.Lambda params body scope lpos) X.env) Q E s:=by
 refine PySem.W.kla_eval hdef ?_;rw[hql];rcases SR.at' n0 _ hn0 with⟨z,_⟩|⟨a,ha,rfl,ps,gP,tr,cs⟩
 . cases z
 have hP:=I.aK a _ (Sp.get gP);have hP:s.heap.get? a=some (PySem.W.tabObj ps):=hP;have hg:s.heap.Ns mainGlobals X.mg:=I.mod.glob.keeps I.bk;obtain⟨bm,ob,b1,b2,b3,b4,b5,b6⟩:=I.mod.bmain;have b3':=I.bk _ _ b3
 have hgP:mainGlobals≠a:=fun q=>by
  obtain⟨o,es,ep,e,hd,_⟩:=hg;rw[q,hP]at e;cases e;cases hd
 have n1:bm≠mainGlobals:=fun q=>by
  obtain⟨o,es,ep,e,hd,_⟩:=hg;rw[q,e]at b3';cases b3';rw[hd]at b6;cases b6
 have n2:bm≠a:=fun q=>by rw[q,hP]at b3';cases b3';cases b4
 have hB:s.heap.BuiltinsAt X.mg a:=⟨bm,ob,b1,b2,n1,n2,b3',b4,b5,b6⟩
 have hcl:closureFor scope X.env=pure (cQ X.env.cells scope.names []):=lS fun x hx hk=>I.ok.has x.1 (S.sc.free x hx hk);have C:PySem.W.CodeHd s.heap c0 a:=PySem.W.codeHd_of_K I.gc hC;rcases cs with⟨rfl,hnf⟩|⟨rfl,c,o,vs,t,q1,q2,q3,q4,q5⟩
 . refine PySem.W.kla_makeFunction hcl I.ok.glob hg hcode C hP tr hnf hgP hB fun c' ctv h' tk hx hge hlt hrec htb=>?_;obtain⟨c2,oc,vs,t,e2,hoc,hd,hv⟩:=hrec;cases e2;have hHc:H c'=none:=I.aK.fresh hge;have hGc:G c'=none:=(Sp.none hHc).1;have hHa:H a=some (.jz ps):=Sp.get gP;have hac:a≠c':=cV hHa hHc
   let ps':=ps++ #[rawInt lpos.line,rawInt lpos.col,.ref c']
   have nb:∀ {b:Addr},H b=none->b≠a:=fun e z=>by rw[z,hHa]at e;cases e
   have I1:Inv X pins σ (upd (upd H c' (.fP oc (.own c'))) a (.jz ps')) {s with heap:=h',gens:=s.gens,drawn:=s.drawn,toks:=tk}:=by
    have old:∀ {b:Addr} {u:HO},H b=some u->b≠a->upd (upd H c' (.fP oc (.own c'))) a (.jz ps') b=some u:=fun e n=>by rw[ax n,ax (cV e hHc)];exact e
    refine I.step (ch:=[]) (fun _ z=>nomatch z) (fun b o _ _ _ e n=>hx b o (nb n) e) (fun b o _ _ _ e n=>⟨o.slots,hx b o (nb n) e⟩) (fun b o _ e n=>?_) (fun b o _ e=>?_) (fun b xs e=>?_) (fun b o u e=>?_) (fun b qs e=>?_) (fun m hm=>?_) (fun b u e=>?_) I.bare
    . rw[ax (nb n),ax (Nat.ne_of_lt (Nat.lt_of_lt_of_le (Heap.lt_size e) hge))];exact n
    . by_cases hb:b=a
      . exact⟨_,by rw[hb];exact htb⟩
      . exact⟨o,hx b o hb e⟩
    . exact old e fun z=>by rw[z,hHa]at e;cases e
    . exact old e fun z=>by rw[z,hHa]at e;cases e
    . by_cases hb:b=a
      . subst hb;rw[hHa]at e;cases e;exact⟨_,aY⟩
      . exact⟨#[],by rw[old e hb];simp⟩
    . obtain⟨o,es,ep,ho,r⟩:=hm;exact⟨o,es,ep,hx _ o (nb I.free) ho,r⟩
    . by_cases hb:b=a
      . subst hb;rw[aY]at e;cases e;exact htb
      . rw[ax hb]at e;by_cases hbc:b=c'
        . subst hbc;rw[aY]at e;cases e;exact⟨hoc,_,hoc⟩
        . rw[ax hbc]at e;refine(I.aK b u e).kC (fun d w hd q=>hx d w ?_ q) (fun d q=>old q fun z=>by rw[z,hHa]at q;cases q) fun d xs q=>old q fun z=>by rw[z,hHa]at q;cases q
          rcases hd with rfl|hd
          . exact hb
          . intro z;rw[z,hHa]at hd;cases hd
   have I2:=kg (o:=PySem.W.kla_obj "<lambda>" qual params body scope (cQ X.env.cells scope.names []) ((X.mg "__name__").getD .none) c' ctv) (t':=tk) I1 (fun v z=>by cases z);have gP':upd G c' (.fP oc (.own c')) a=some (.jz ps):=by rw[ax hac];exact gP
   refine h _ c' ctv _ (upd (upd G c' (.fP oc (.own c'))) a (.jz ps')) _ _ I2 ((Step.laid hGc).trans (Step.write (List.mem_of_getElem? ha))) ((Sp.laid hHc).write gP') ((SR.laid hGc).write ha ⟨rfl,ps',aY,?_,.inr ⟨rfl,c',oc,vs,t,?_,SR.j4 hGc,?_,hd,hv⟩⟩) ⟨SR.j4 hGc,oc,vs,t,?_,hd,hv⟩
   . show TriplesOk (ps++ #[rawInt lpos.line,rawInt lpos.col,.ref c']).toList;rw[Array.toList_append];exact TriplesOk_snoc _ _ _ _ tr
   . show codeAmong lpos (ps++ #[rawInt lpos.line,rawInt lpos.col,.ref c']).toList=_;rw[Array.toList_append];exact codeAmong_snoc _ tr hnf
   . rw[ax hac.symm,aY]
   . rw[ax hac.symm,aY]
 . refine PySem.W.kla_makeFunctionHit hcl I.ok.glob hg hcode C hP tr q1 hB fun ctv h' tk hk hsz=>?_;have I1:=I.kept (t':=tk) hk;have I2:=kg (o:=PySem.W.kla_obj "<lambda>" qual params body scope (cQ X.env.cells scope.names []) ((X.mg "__name__").getD .none) c ctv) (t':=tk) I1 (fun v z=>by cases z);refine h _ c ctv _ G H _ I2 Step.refl Sp (by rw[set_same hn0];exact SR) ⟨q2,o,vs,t,q3,q4,q5⟩
end
def slt(p q:Int×Int):Prop:=p.1<q.1\/(p.1=q.1/\p.2<q.2)
def yt(n0:Nat)(T:Addr)(lpos:Pos)(qual:Str)(fr:List (Option Nat))(tb te:DE):DE:=fun σ st K=>te σ st fun d st1=>∃(ns ks:List Int) (b:Bool),d= .lst (ns.map .int)/\ns.length<64/\ns.Pairwise (· < ·)/\ks.length=ns.length/\
 st1[n0]?=some (.tab T lpos qual b)/\(∀(i:Nat) (n k:Int),ns[i]?=some n->ks[i]?=some k->tb ((fY fr σ).set 0 (some (.int n))) (st1.set n0 (.tab T lpos qual true)) fun v st2=>v= .int k/\st2=st1.set n0 (.tab T lpos qual true))/\
 ∀os:List (Int×Int),os.Perm (ks.zip ns)->os.Pairwise slt->K (.lst (os.map fun p=> .int p.2)) (st1.set n0 (.tab T lpos qual true))
theorem xB{α:List (Option Addr)}{H:Hp}:∀ {ns:List Int} {vs:List V},aG α H (ns.map D.int) vs->vs=ns.map V.int
 | [],vs,h=>by unfold aG at h;exact h
 |n::ns,vs,h=>by
  unfold aG at h;obtain⟨v,r,rfl,h1,h2⟩:=h;unfold Rep at h1;rw[h1,xB h2];rfl
theorem xw{α:List (Option Addr)}{H:Hp}:∀(ns:List Int),aG α H (ns.map D.int) (ns.map V.int)
 | []=>by unfold aG;rfl
 |n::ns=>by unfold aG;exact⟨_,_,rfl,by unfold Rep;rfl,xw ns⟩
theorem yl:∀ {ns:List Int} {us:List Value},Vals (ns.map V.int) us->IntsAre us ns
 | [],_,.nil=> .nil
 |n::ns,_,.cons ⟨t,rfl⟩ h=> .cons n t (yl h)
section
variable {X:Cx}{scope:Scope}{Nc:List Str}{fr:List (Option Nat)}{p x qual:Str}{params:Arguments}{e body:Expr}{te tb:DE}{lpos kpos pos ppos:Pos}{c0 T:Addr}{n0:Nat}
theorem HM(S:my X scope Nc fr p)(hc:X.calm=true)(hr:cC 2 X.A)(hcode:X.env.code= .ref c0)(hC:PySem.W.codeHdIn X.K c0 T=true)(hdef:defaultsOf params X.env=([],[]))(hql:X.env.qual++"<lambda>"=qual)
 (hbind:∀(cl:List (Str×Addr)) (pm cd ct v:Value),bindArgs (PySem.W.kla_fn "<lambda>" qual params body scope cl pm cd ct) ⟨[v],[]⟩=pure [(p,v)])
 (hb:∀(f c:Addr) (s:Shared) (H:Hp),PE (CI X scope Nc qual f c s H) body (LE tb)) (ha:PA X [e] (LA (af te ao)))
 (hg:Gl X "sorted") (hm:X.mg "sorted"=none) (hv:bootBuiltins "sorted"=some (.builtin "sorted"))
 (he:backTo pos (starEach [e] X.env)=(false,eval e X.env)::backTo pos (starEach [] X.env):=by rfl) (hpl:(backTo pos (starEach [e] X.env)).any (·.1)=false:=by rfl):
 PE X (.Call (.Name "sorted" ppos) [e] [⟨some "key",.Lambda params body scope lpos,kpos⟩] pos) (LE (yt n0 T lpos qual fr tb te)):=by
 intro pins s σ H Q I h;obtain⟨α,σd,st,K,G,F,Sp,RS,SR,t,k⟩:=h;refine wpAny_Call_Name_kw (jN I hg hm hv ?_);refine callWith_kw ?_ he hpl
 let K1:DK:=fun d st1=>∃(ns ks:List Int) (b:Bool),d= .lst (ns.map .int)/\ns.length<64/\ns.Pairwise (· < ·)/\ks.length=ns.length/\
  st1[n0]?=some (.tab T lpos qual b)/\(∀(i:Nat) (n k:Int),ns[i]?=some n->ks[i]?=some k->tb ((fY fr σd).set 0 (some (.int n))) (st1.set n0 (.tab T lpos qual true)) fun v st2=>v= .int k/\st2=st1.set n0 (.tab T lpos qual true))/\
  ∀os:List (Int×Int),os.Perm (ks.zip ns)->os.Pairwise slt->K (.lst (os.map fun p=> .int p.2)) (st1.set n0 (.tab T lpos qual true))
 refine bL (ha pos pins s σ H (fun vs H1=>∃d v st1 α1 G1,vs=[v]/\K1 d st1/\Step α G α1 G1/\bQ G1 F H1/\aR α1 st1 G1/\Rep α1 G1 d v) I
  ⟨α,σd,st,fun ds st1=>match ds with| [d]=>K1 d st1|_=>False,G,F,Sp,RS,SR,t,fun ds st1 q α1 G1 H1 vs s1 P1 S1 r1=>?_⟩) fun us s1 ⟨vs,H1,I1,rv,d,v,st1,α1,G1,hvs,kd,s1',P1,S1,r1⟩=>?_
 . match ds,q,r1 with
   | [d],q,r1=>
     unfold aG at r1;obtain⟨v,r,rfl,h1,h2⟩:=r1;unfold aG at h2;subst h2;exact⟨d,v,st1,α1,G1,rfl,q,s1,P1,S1,h1⟩
 subst hvs;obtain⟨ns,ks,b,rfl,h64,hup,hlen,hn0,hkey,hK⟩:=kd;show wpAny _ _ (evalAll ((do let v <-eval (.Lambda params body scope lpos) X.env;standAt pos;pure v)::[])) _ _ s1;refine wpAny_evalAll_cons (wpAny_bind (EU S hcode hC hdef hql I1 P1 S1 hn0 fun f c ctv pm G2 H2 s2 I2 st2 P2 S2 ⟨hc1,o,vs,tq,hc2,hc3,hc4⟩=>wpAny_bind (wpAny_standAt (wpAny_pure (wpAny_evalAll_nil ?_)))));have r2:=r1.step st2;unfold Rep at r2;obtain⟨l,xs,rfl,hl1,hl2,hl3⟩:=r2;have exs:=xB hl3;subst exs;cases rv with
 |cons ru rn=>
  cases rn;cases ru
  have hrd:Rd H2 l (.lst (ns.map V.int)):=by
   rcases hl2 with z|⟨w,z⟩
   . exact .inl (P2.get z)
   . exact .inr ⟨w,P2.get z⟩
  obtain⟨_,aq,nn,vv,hobj⟩:=hrd.ok I2.aK;have hints:=yl vv;have hlen2:=hints.length;have key:∀(H':Hp),(∃α' G',Step α1 G2 α' G'/\bQ G' F H'/\aR α' (st1.set n0 (.tab T lpos qual true)) G')->H' c=some (.fP o (.own c)):=fun H' ⟨α',G',q1,q2,q3⟩=>q2.get (q1.ext c _ hc1 hc2);show wpAny _ _ (call (.builtin "sorted") [.ref l] [(Str.ofString "key",.ref f)]) _ _ _
  refine Af (X:=X) (pins:=pins++[(f,PySem.W.kla_obj "<lambda>" qual params body scope (cQ X.env.cells scope.names []) pm c ctv)]) (R:=fun H'=>∃α' G',Step α1 G2 α' G'/\bQ G' F H'/\aR α' (st1.set n0 (.tab T lpos qual true)) G') (kz:=ks) (vs:=aq)
   I2 ⟨α1,G2,Step.refl,P2,S2⟩ ⟨_,hobj,rfl,nn,rfl⟩ (by omega) (by omega) ?_ (fun i u kk hu hk own s' J=>?_) fun D s' out cc oD J so=>?_
  . rw[<-List.pairwise_map,hints.nums];exact hup
  . have hi:i<ns.length:=by
     have:=(List.getElem?_eq_some_iff.mp hu).1;omega
    obtain⟨tt,ht⟩:=hints.get i ns[i] (List.getElem?_eq_getElem hi);have ht:some u=some (Value.int ns[i] tt):=by rw[<-hu];exact ht
    cases ht;refine EK (v:= .int ns[i]) (u:= .int ns[i] tt) S hc (by have:=hr.dp;omega) (hb f c) hbind ⟨tt,rfl⟩ (List.mem_append_right _ (List.mem_singleton.mpr rfl)) (fun H' s'' J' r'=>?_) (fun H' r'=>?_) J
    . have q:=J'.aK c _ (key H' r');exact⟨c,o,vs,tq,rfl,q.1,hc3,hc4⟩
    . obtain⟨α',G',q1,q2,q3⟩:=r';refine⟨α',(fY fr σd).set 0 (some (.int ns[i])),_,_,G',F,q2,?_,q3,hkey i ns[i] kk (List.getElem?_eq_getElem hi) hk,fun d' st' hd α'' G'' H'' v' s'' P'' S'' r''=>?_⟩
      . exact((RS.step ((s1'.trans st2).trans q1)).comp).set 0 (by unfold Rep;rfl)
      . obtain⟨rfl,rfl⟩:=hd;unfold Rep at r'';exact⟨r'',α'',G'',q1.trans s'',P'',S''⟩
  . obtain⟨H',I',α',G',q1,q2,q3⟩:=J;obtain⟨ps,hp,ho,hs⟩:=so
    have hps:∀q∈ps,∃t,q.2= .int (numOf q.2) t:=fun q hq=>by
     have h1:=hp.mem_iff.mp hq;have h2:q.2∈aq:=(List.of_mem_zip (show(q.1,q.2)∈ks.zip aq from h1)).2;obtain⟨n,t,e⟩:=hints.all _ h2;exact⟨t,by rw[e];rfl⟩
    have hos:(ps.map fun q=>(q.1,numOf q.2)).Perm (ks.zip ns):=by
     have h1:=hp.map fun q:Int×Value=>(q.1,numOf q.2)
     have e:(ks.zip aq).map (fun q:Int×Value=>(q.1,numOf q.2))=ks.zip ns:=by
      rw[<-hints.nums,List.zip_map_right];exact List.map_congr_left fun⟨a,b⟩ _=>rfl
     rw[e]at h1;exact h1
    have hpw:(ps.map fun q=>(q.1,numOf q.2)).Pairwise slt:=by rw[List.pairwise_map];exact hs
    have kk:=hK _ hos hpw;rw[List.map_map]at kk;have hD0:=ff I'
    have vout:Vals ((ps.map fun q=>numOf q.2).map V.int) out.toList:=by
     rw[ho];clear hos hpw kk hs hp ho;induction ps with
     |nil=>exact .nil
     |cons q r ih=>
      obtain⟨t,e⟩:=hps q (List.mem_cons_self ..);exact .cons ⟨t,e⟩ (ih fun z hz=>hps z (List.mem_cons_of_mem _ hz))
    have hlo:(ps.map fun q=>numOf q.2).length<=sizeLine:=by
     rw[List.length_map,hp.length_eq,List.length_zip];exact Nat.le_trans (Nat.min_le_left _ _) (Nat.le_trans (show ks.length<=64 by omega) (by decide))
    have I3:=Cr (u:= .lst ((ps.map fun q=>numOf q.2).map V.int)) I' oD.ge oD.ne ⟨by rw[List.length_map];exact hlo,out.toList,cc,vout,hD0.1⟩;have hG:=(q2.none hD0.2.1).1;refine⟨.ref D,_,I3.gh,rfl,k _ _ kk α' _ _ _ ((s1'.trans st2).trans (q1.trans (Step.laid hG))) (q2.laid hD0.2.1) (q3.laid hG) ?_⟩;unfold Rep;refine⟨D,_,rfl,q3.j4 hG,.inl aY,?_⟩;have e:List.map ((fun p:Int×Int=>L3.D.int p.snd)∘fun q:Int×Value=>(q.fst,numOf q.snd)) ps=(ps.map fun q=>numOf q.2).map L3.D.int:=by rw[List.map_map];rfl
    rw[e];exact xw _
end
end L3
namespace L3
open PySem L2
open PySem.Spec hiding items?
open PyProof.Rows hiding St
def ET(sc:Scope)(N gl:List Str):Bool:=
 N.all (fun x=>(sc.names.lookup x==some .local||sc.names.lookup x==some .cell)&&x != "__debug__"&&x != "__classdict__")&&gl.all (fun x=>sc.names.lookup x==some .globalImplicit&&x != "__debug__")
structure VS(sc:Scope)(N gl:List Str):Prop where
 ok:ET sc N gl=true
theorem VS.at_{sc:Scope}{N gl:List Str}(V:VS sc N gl){i:Nat}{x:Str}(h:N[i]?=some x):Loc sc x/\(x==("__debug__":Str))=false/\(x==("__classdict__":Str))=false:=by
 have o:=V.ok;unfold ET at o;have:=List.all_eq_true.mp (Bool.and_eq_true_iff.mp o).1 x (List.mem_of_getElem? h);simp only[Bool.and_eq_true,Bool.or_eq_true,beq_iff_eq,bne_iff_ne,ne_eq]at this;exact⟨this.1.1,beq_false_of_ne this.1.2,beq_false_of_ne this.2⟩
theorem VS.ME{sc:Scope}{N gl:List Str}(V:VS sc N gl){i:Nat}{x:Str}(h:gl[i]?=some x):sc.names.lookup x=some .globalImplicit/\(x==("__debug__":Str))=false:=by
 have o:=V.ok;unfold ET at o;have:=List.all_eq_true.mp (Bool.and_eq_true_iff.mp o).2 x (List.mem_of_getElem? h);simp only[Bool.and_eq_true,beq_iff_eq,bne_iff_ne,ne_eq]at this;exact⟨this.1,beq_false_of_ne this.2⟩
section
variable {X:Cx}{sc:Scope}{N gl:List Str}{x:Str}{pos:Pos}
theorem VS.nm(V:VS X.env.scope X.N gl)(i:Nat)(h:X.N[i]?=some x:=by rfl):JE X (.Name x pos) (ae i):=
 let q:=V.at_ h
 BC q.2.1 q.2.2 (q.1.elim .inl fun z=> .inr (.inl z)) h
theorem VS.l(V:VS sc N gl)(i:Nat)(h:N[i]?=some x:=by rfl):Loc sc x:=(V.at_ h).1
theorem VS.g(V:VS sc N gl)(i:Nat)(h:gl[i]?=some x:=by rfl):sc.names.lookup x=some .globalImplicit:=(V.ME h).1
theorem VS.d(V:VS sc N gl)(i:Nat)(h:gl[i]?=some x:=by rfl):(x==("__debug__":Str))=false:=(V.ME h).2
theorem eh{n:Nat}(hN:X.N[n]?=some x:=by rfl)(hd:((x==("__debug__":Str))||(x==("__classdict__":Str)))=false:=by decide+kernel)
 (hv:ye X.env.scope x:=by first|exact Or.inl rfl|exact Or.inr (Or.inl rfl)|exact Or.inr (Or.inr rfl)):JE X (.Name x pos) (ae n):=
 BC (Bool.or_eq_false_iff.mp hd).1 (Bool.or_eq_false_iff.mp hd).2 hv hN
@[irreducible] def jH:cZ:=tZ (fun _ j=>j≠0) fun i j=> .int (i.fdiv j)
theorem oN{k:Nat}(hr:cC k X.A)(hs:X.stack=X.env::X.outer)(hgen:X.env.scope.isGenerator=false)(hco:X.env.scope.isCoroutine=false):bS X (binaryOp .FloorDiv) (LR jH):=by
 unfold jH;refine lJ (g':=fun i j=> .int (i.fdiv j)) (fun _ _ _ _=>by unfold Rep;rfl) ?_;intro pins s σ H x y v u Q I rx ry h;obtain⟨i,j,rfl,rfl,hc,q⟩:=h;obtain⟨t,rfl⟩:=rx;obtain⟨t',rfl⟩:=ry;refine floordiv_int hc ⟨.int (i.fdiv j),H,I.tok _,⟨_,rfl⟩,q⟩ (.inr (PySem.PylongRoom.of I.nolimit ?_ ?_))
 . have:=hr.dp;show X.A.depth+100<_;omega
 . exact PySem.SeerAt.of (env:=X.env) (l:=X.outer) (I.mod.seer.keeps I.bk) I.ok.gt (by rw[I.ok.frames,hs]) hgen hco I.ok.blt I.ok.glob
theorem jj{st:ag}{K:DK}{i j:Int}(h0:j≠0)(k:K (.int (i.fdiv j)) st):jH (.int i) (.int j) st K:=by unfold jH;exact⟨h0,k⟩
theorem my.look{scope:Scope}{Nc:List Str}{fr:List (Option Nat)}{p:Str}(S:bU X scope Nc fr)(h:(scope.names.all (fun x=>x.2 != .cell)&&(!scope.isCoroutine&& !scope.isGenerator)&&(scope.names.lookup p==some .local))=true:=by decide+kernel)
 (p0:Nc[0]?=some p:=by rfl) (f0:fr[0]?=some none:=by rfl):my X scope Nc fr p:=by
 simp only[Bool.and_eq_true,Bool.not_eq_true',beq_iff_eq]at h;exact⟨S,fun x hx=>by simpa using List.all_eq_true.mp h.1.1 x hx,h.1.2.1,h.1.2.2,p0,f0,h.2⟩
theorem GU{scope:Scope}{Nc:List Str}{fr:List (Option Nat)}{p qual:Str}{params:Arguments}{e body:Expr}{te tb:DE}{lpos kpos pos ppos:Pos}{c0 T:Addr}{n0 k:Nat}(S:my X scope Nc fr p)(hc:X.calm=true)(hr:cC k X.A)(hcode:X.env.code= .ref c0)(hC:PySem.W.codeHdIn X.K c0 T=true)
 (hb:∀(f c:Addr) (s:Shared) (H:Hp),JE (CI X scope Nc qual f c s H) body tb) (he:JE X e te) (hg:X.env.kindOf "sorted"=some .globalImplicit) (hm:X.mg "sorted"=none)
 (hdef:defaultsOf params X.env=([],[]):=by rfl) (hql:X.env.qual++"<lambda>"=qual:=by rfl)
 (hbind:∀(cl:List (Str×Addr)) (pm cd ct v:Value),bindArgs (PySem.W.kla_fn "<lambda>" qual params body scope cl pm cd ct) ⟨[v],[]⟩=pure [(p,v)]:=by(intros;rfl)) (hk:2<=k:=by decide)
 (he1:starEach [e] X.env=(false,eval e X.env)::starEach [] X.env:=by rfl):
 JE X (.Call (.Name "sorted" ppos) [e] [⟨some "key",.Lambda params body scope lpos,kpos⟩] pos) (yt n0 T lpos qual fr tb te):=by
 unfold JE at he hb⊢;refine HM S hc (hr.mono hk) hcode hC hdef hql hbind hb (uW he yR he1) hg hm rfl ?_ ?_
 . rw[he1];rfl
 . rw[he1];rfl
end
structure Jl(K:PySem.W.Frag)(x qual:Str)(st:Stmt)(f:Addr)(fd:FuncData)(c:Addr):Prop where
 ex:∃(oc:Value) (od:Option Addr) (kV doc pm:Value) (an:Option Addr) (ct:Value) (osl:Array (Option Value)),
  fd=PySem.W.fnOf x qual (jy st) (fV st) (ai st) .none kV doc pm an (.ref c) ct/\K.lookup f=some ⟨oc,od,.func fd,osl⟩/\PySem.W.codeIn K (.ref c) qual=true
theorem JN{P:Program}{w:World}{K:PySem.W.Frag}{mg:Str->Option Value}{base:Heap}{x qual:Str}{st:Stmt}{f c:Addr}{fd:FuncData}{N ps:List Str}{k:Nat}{sp:b_}{t:DS}(F:Jl K x qual st f fd c)(S:aN N ps (ai st))
 (hbody:∀(A:Around) (outer:List Env) (s:Shared) (H:Hp) (E:XK),cC k (A.deeper (envOfC qual (ai st) s.heap.objs.size f (.ref c)))->JB (pM ck P w K mg base N qual (ai st) f (.ref c) A outer s H E).uw (fV st) t)
 (hsp:∀ds st K,sp ds st K->ds.length=ps.length/\t {nx:=fun _ st'=>K .aE st',rt:=K} (aT N ds) st):a9 P w K mg base ck (k+1) f fd ps (cn sp):=by
 obtain⟨oc,od,kV,doc,pm,an,ct,osl,rfl,lk,hcd⟩:=F.ex;unfold JB at hbody;refine F0 lk hcd S (fun vs H Q E h=>?_) fun A outer s H vs Q E hr h=>?_
 . obtain⟨α,ds,st,K,G,F,P,R,S,q,k⟩:=h;rw[<-R.length];exact(hsp ds st K q).1
 . obtain⟨α,ds,st,K,G,F',P,R,SR,q,k⟩:=h;refine⟨_,(hbody A outer s H E hr).uw,α,aT N ds,st,_,G,F',P,dG.start R,SR,(hsp ds st K q).2,?_,k,?_,?_⟩
   . intro σd' st' kk α' G' H' σ' s' P' R' S';exact k .aE st' kk α' G' H' .aE s' P' S' (by unfold Rep;rfl)
   . intro σd' st' kk;exact kk.elim
   . intro σd' st' kk;exact kk.elim
def CB(tl:List (Addr×Pos×Str)):b_:=fun ds st K=>∃ns:List Int,ds=[.lst (ns.map .int)]/\ns.length<=63/\st=tl.map (fun q=> .tab q.1 q.2.1 q.2.2 false)/\∀st',K (.bl true) st'
def Cp(K:PySem.W.Frag)(ts:List (Addr×Addr)):Sp:=fun vs H Q _=>∃(a:Addr) (ns:List Int),vs=[.ref a]/\Entry K ts a ns H/\ns.length<=63/\∀H',Q (.bl true) H'
theorem Dh{K:PySem.W.Frag}{ts:List (Addr×Addr)}{tl:List (Addr×Pos×Str)}(nl:DC K=true)(hts:ts.map (·.2)=tl.map (·.1))(nd:(tl.map (·.1)).Nodup){vs:List V}{H:Hp}{Q:VK}{E:XK}(h:Cp K ts vs H Q E):cn (CB tl) vs H Q E:=by
 obtain⟨a,ns,rfl,hE,hl,q⟩:=h
 have tabs:∀q∈tl,H q.1=some (.jz #[])/\q.1≠a:=fun q hq=>by
  have h1:q.1∈ts.map (·.2):=by rw[hts];exact List.mem_map_of_mem hq
  obtain⟨t,ht,e⟩:=List.mem_map.mp h1;rw[<-e];exact hE.tab t ht
 have at_:∀(i:Nat) (x:Addr),(tl.map fun q=>some q.1)[i]?=some (some x)->∃q,tl[i]?=some q/\q.1=x:=fun i x e=>by
  rw[List.getElem?_map]at e;cases z:tl[i]? with
  |none=>rw[z]at e;cases e
  |some w=>rw[z]at e;simp at e;exact⟨w,rfl,e⟩
 have nota:some a∉tl.map fun q=>some q.1:=fun z=>by
  obtain⟨w,hw,e⟩:=List.mem_map.mp z;exact(tabs w hw).2 (Option.some.inj e)
 rcases hE.lst with hS|⟨o,aq,n,e,hc,_⟩
 . refine⟨tl.map fun q=>some q.1,[.lst (ns.map .int)],tl.map (fun q=> .tab q.1 q.2.1 q.2.2 false),fun d _=>d= .bl true,H,fun _=>none,⟨fun b=>by cases H b<;>rfl,fun _ _ _=>rfl⟩,?_,⟨by simp,fun i j x e1 e2=>?_,fun n c e=>?_⟩,⟨ns,rfl,hl,rfl,fun _=>rfl⟩,?_⟩
   . unfold aG;refine⟨.ref a,[],rfl,?_,by unfold aG;rfl⟩;unfold Rep;exact⟨a,ns.map V.int,rfl,nota,hS,vz ns⟩
   . obtain⟨p,hp,e3⟩:=at_ i x e1;obtain⟨r,hr,e4⟩:=at_ j x e2;have k1:(tl.map (·.1))[i]?=some x:=by rw[List.getElem?_map,hp,<-e3];rfl
     have k2:(tl.map (·.1))[j]?=some x:=by rw[List.getElem?_map,hr,<-e4];rfl
     have hi:=(List.getElem?_eq_some_iff.mp k1).1;exact(List.getElem?_inj hi nd).mp (k1.trans k2.symm)
   . rw[List.getElem?_map]at e;cases z:tl[n]? with
     |none=>rw[z]at e;cases e
     |some w=>
      rw[z]at e;have e':Cell.tab w.1 w.2.1 w.2.2 false=c:=Option.some.inj e;subst e';refine .inr ⟨w.1,by rw[List.getElem?_map,z];rfl,rfl,#[],(tabs w (List.mem_of_getElem? z)).1,trivial,.inl ⟨rfl,rfl⟩⟩
   . rintro d st' rfl α' G' H' v _ _ _ r;unfold Rep at r;subst r;exact q H'
 . exact absurd hc (wk nl e)
section
variable {K:PySem.W.Frag}{x qual p1 p2 p3 p4 p5:Str}{st:Stmt}{f:Addr}{fd:FuncData}
abbrev su(x qual:Str)(st:Stmt)(kV doc pm:Value)(an:Option Addr)(cdv ct:Value):FuncData:=PySem.W.fnOf x qual (jy st) (fV st) (ai st) .none kV doc pm an cdv ct
theorem fF{α:Type}{n:Nat}{us:List α}(h:us.length=n+1):∃a r,us=a::r/\r.length=n:=by
 cases us with
 |nil=>cases h
 |cons a r=>exact⟨a,r,rfl,Nat.succ.inj h⟩
theorem rj{α:Type}{us:List α}(h:us.length=0):us=[]:=List.length_eq_zero_iff.mp h
theorem N2(F:mX K x qual st f fd)(h:∀kV doc pm an cdv ct a,bindArgs (su x qual st kV doc pm an cdv ct) ⟨[a],[]⟩=pure [(p1,a)]):Binds K fd [p1] []:=
 F.binds fun kV doc pm an cdv ct us hl=>by
  obtain⟨a,r1,rfl,h1⟩:=fF hl;cases rj h1;exact h kV doc pm an cdv ct a
theorem MG(F:mX K x qual st f fd)(h:∀kV doc pm an cdv ct a b,bindArgs (su x qual st kV doc pm an cdv ct) ⟨[a,b],[]⟩=pure [(p1,a),(p2,b)]):Binds K fd [p1,p2] []:=
 F.binds fun kV doc pm an cdv ct us hl=>by
  obtain⟨a,r1,rfl,h1⟩:=fF hl;obtain⟨b,r2,rfl,h2⟩:=fF h1;cases rj h2;exact h kV doc pm an cdv ct a b
theorem ML(F:mX K x qual st f fd)(h:∀kV doc pm an cdv ct a b c,bindArgs (su x qual st kV doc pm an cdv ct) ⟨[a,b,c],[]⟩=pure [(p1,a),(p2,b),(p3,c)]):Binds K fd [p1,p2,p3] []:=
 F.binds fun kV doc pm an cdv ct us hl=>by
  obtain⟨a,r1,rfl,h1⟩:=fF hl;obtain⟨b,r2,rfl,h2⟩:=fF h1;obtain⟨c,r3,rfl,h3⟩:=fF h2;cases rj h3;exact h kV doc pm an cdv ct a b c
theorem NL(F:mX K x qual st f fd)(h:∀kV doc pm an cdv ct a b c d,bindArgs (su x qual st kV doc pm an cdv ct) ⟨[a,b,c,d],[]⟩=pure [(p1,a),(p2,b),(p3,c),(p4,d)]):Binds K fd [p1,p2,p3,p4] []:=
 F.binds fun kV doc pm an cdv ct us hl=>by
  obtain⟨a,r1,rfl,h1⟩:=fF hl;obtain⟨b,r2,rfl,h2⟩:=fF h1;obtain⟨c,r3,rfl,h3⟩:=fF h2;obtain⟨d,r4,rfl,h4⟩:=fF h3;cases rj h4;exact h kV doc pm an cdv ct a b c d
end
section
variable {X:Cx}
def uw(X:Cx):Cx:={X with xe:=fun _ _=>False}
end
variable {st:ag}{K:D->ag->Prop}{i j:Int}
section
variable {X:Cx}{pos:Pos}
end
end L3
namespace L3
open PySem L2
structure ClsAt(K:PySem.W.Frag)(mg:Str->Option Value)(x:Str)(C:Addr):Prop where
 cl:nh K C
 mg:mg x=some (.ref C)
 N5:PySem.W.makesIn K C=true
 kp:PySem.W.keepIn K (.ref C)=true
structure MethAt(K:PySem.W.Frag)(C:Addr)(m qual:Str)(st:Stmt)(ps:List Str)(f:Addr)(fd:FuncData):Prop where
 fn:mX K m qual st f fd
 me:Meth K C m f
 bd:Binds K fd ps []
end L3
namespace Hd
open PySem PySem.W L2 L3
open PySem.Spec hiding items?
open PyProof.Rows hiding St
section
variable {K:Frag}{mg:Str->Option Value}{h:Heap}{x q:Str}{st:Stmt}{f c C:Addr}{pm:Value}{p1 p2 p3 p4 p5 p6:Str}
abbrev Ed(K:Frag)(x:Str)(st:Stmt)(f:Addr)(pm:Value)(c:Addr):Prop:=(nsIn K mainGlobals x,K.lookup f,codeIn K (.ref c) x,keepIn K (.ref f))=(some (some (.ref f)),some (fq st x x pm c),true,true)
abbrev Em(K:Frag)(C:Addr)(x q:Str)(st:Stmt)(f:Addr)(pm:Value)(c:Addr):Prop:=(findIn K (.ref C) x,isFn K (.ref f),K.lookup f,codeIn K (.ref c) q,keepIn K (.ref f))=(some (some (.ref f)),true,some (fq st x q pm c),true,true)
theorem Ed.fn(e:Ed K x st f pm c):mX K x x st f (fd st x x pm c)/\nsIn K mainGlobals x=some (some (.ref f)):=by
 obtain⟨e1,e2,e3,e4⟩:_/\_/\_/\_:=by simpa only[Prod.mk.injEq]using e
 exact⟨DF (st:=st) e2 e3 e4,e1⟩
theorem Em.fn(e:Em K C x q st f pm c):mX K x q st f (fd st x q pm c)/\Meth K C x f:=by
 obtain⟨e1,e2,e3,e4,e5⟩:_/\_/\_/\_/\_:=by simpa only[Prod.mk.injEq]using e
 exact⟨DF (st:=st) e3 e4 e5,e1,e2,e5⟩
theorem ox(X:K.In h)(G:h.Ns mainGlobals mg)(e:Ed K x st f pm c)(b:∀kV doc pm an cdv ct a,bindArgs (su x x st kV doc pm an cdv ct) ⟨[a],[]⟩=pure [(p1,a)]):bo K mg x x st [p1] f (fd st x x pm c):=⟨e.fn.1,mg_of X G e.fn.2,N2 e.fn.1 b⟩
theorem iV(X:K.In h)(G:h.Ns mainGlobals mg)(e:Ed K x st f pm c)(b:∀kV doc pm an cdv ct a1 a2,bindArgs (su x x st kV doc pm an cdv ct) ⟨[a1,a2],[]⟩=pure [(p1,a1),(p2,a2)]):bo K mg x x st [p1,p2] f (fd st x x pm c):=⟨e.fn.1,mg_of X G e.fn.2,MG e.fn.1 b⟩
theorem w6(X:K.In h)(G:h.Ns mainGlobals mg)(e:Ed K x st f pm c)(b:∀kV doc pm an cdv ct a1 a2 a3,bindArgs (su x x st kV doc pm an cdv ct) ⟨[a1,a2,a3],[]⟩=pure [(p1,a1),(p2,a2),(p3,a3)]):bo K mg x x st [p1,p2,p3] f (fd st x x pm c):=⟨e.fn.1,mg_of X G e.fn.2,ML e.fn.1 b⟩
theorem Mu(e:Em K C x q st f pm c)(b:∀kV doc pm an cdv ct a1 a2,bindArgs (su x q st kV doc pm an cdv ct) ⟨[a1,a2],[]⟩=pure [(p1,a1),(p2,a2)]):MethAt K C x q st [p1,p2] f (fd st x q pm c):=⟨e.fn.1,e.fn.2,MG e.fn.1 b⟩
theorem F4(e:Em K C x q st f pm c)(b:∀kV doc pm an cdv ct a1 a2 a3,bindArgs (su x q st kV doc pm an cdv ct) ⟨[a1,a2,a3],[]⟩=pure [(p1,a1),(p2,a2),(p3,a3)]):MethAt K C x q st [p1,p2,p3] f (fd st x q pm c):=⟨e.fn.1,e.fn.2,ML e.fn.1 b⟩
theorem N3(e:Em K C x q st f pm c)(b:∀kV doc pm an cdv ct a1 a2 a3 a4,bindArgs (su x q st kV doc pm an cdv ct) ⟨[a1,a2,a3,a4],[]⟩=pure [(p1,a1),(p2,a2),(p3,a3),(p4,a4)]):MethAt K C x q st [p1,p2,p3,p4] f (fd st x q pm c):=⟨e.fn.1,e.fn.2,NL e.fn.1 b⟩
theorem fc(e:(K.lookup f,codeIn K (.ref c) q)=(some (fq st x q pm c),true)):Jl K x q st f (fd st x q pm c) c:=by
 obtain⟨e1,e2⟩:_/\_:=by simpa only[Prod.mk.injEq]using e
 exact⟨_,_,_,_,_,_,_,_,rfl,e1,e2⟩
theorem na{a:Str}(e:findIn K (.ref C) a=some none):fB K C a:=e
end
end Hd
namespace L3
open PySem L2
open PySem.Spec hiding items?
open PyProof.Rows hiding St
section
variable {X:Cx}{pos:Pos}
end
end L3
namespace L3
open PySem L2
open PySem.Spec hiding items?
end L3
namespace Mx
def S:Nat->(Nat->Int)->Int
 |0,_=>0
 |n+1,f=>S n f+f n
theorem aH{n:Nat}{f g:Nat->Int}(h:∀i,i<n->f i=g i):S n f=S n g:=by
 induction n with
 |zero=>rfl
 |succ n ih=>unfold S;rw[ih fun i hi=>h i (by omega),h n (by omega)]
theorem lO{n:Nat}{f:Nat->Int}(h:∀i,i<n->f i=0):S n f=0:=by
 induction n with
 |zero=>rfl
 |succ n ih=>unfold S;rw[ih fun i hi=>h i (by omega),h n (by omega)];rfl
theorem iD(n:Nat)(f g:Nat->Int):S n (fun i=>f i+g i)=S n f+S n g:=by
 induction n with
 |zero=>rfl
 |succ n ih=>unfold S;rw[ih];dsimp only;omega
theorem eN(n:Nat)(c:Int)(f:Nat->Int):S n (fun i=>c*f i)=c*S n f:=by
 induction n with
 |zero=>unfold S;rw[Int.mul_zero]
 |succ n ih=>unfold S;rw[ih,Int.mul_add]
theorem uN(n:Nat)(c:Int)(f:Nat->Int):S n (fun i=>f i*c)=S n f*c:=by
 induction n with
 |zero=>unfold S;rw[Int.zero_mul]
 |succ n ih=>unfold S;rw[ih,Int.add_mul]
theorem A5(n:Nat)(f:Nat->Int):S n (fun i=> -f i)= -S n f:=by
 induction n with
 |zero=>rfl
 |succ n ih=>unfold S;rw[ih];dsimp only;omega
theorem qU(m n:Nat)(f:Nat->Nat->Int):S m (fun i=>S n fun j=>f i j)=S n fun j=>S m fun i=>f i j:=by
 induction m with
 |zero=>exact(lO (n:=n) (fun i _=>rfl)).symm
 |succ m ih=>
  have:S n (fun j=>S (m+1) fun i=>f i j)=S n fun j=>(S m fun i=>f i j)+f m j:=aH fun j _=>rfl;rw[this,iD,<-ih];rfl
theorem pj{n:Nat}{k:Nat}(hk:k<n){f:Nat->Int}(h:∀i,i<n->i≠k->f i=0):S n f=f k:=by
 induction n with
 |zero=>omega
 |succ n ih=>
  unfold S;by_cases e:k=n
  . subst e;rw[lO fun i hi=>h i (by omega) (by omega),Int.zero_add]
  . rw[ih (by omega) fun i hi hn=>h i (by omega) hn,h n (by omega) (by omega),Int.add_zero]
theorem C0(n:Nat)(f:Nat->Int):S (n+1) f=f 0+S n fun i=>f (i+1):=by
 induction n with
 |zero=>unfold S S;omega
 |succ n ih=>
  have:S (n+1+1) f=S (n+1) f+f (n+1):=rfl;rw[this,ih];have:S (n+1) (fun i=>f (i+1))=S n (fun i=>f (i+1))+f (n+1):=rfl;rw[this];omega
def dl(i j:Nat):Int:=if i=j then 1 else 0
theorem dW(i:Nat):dl i i=1:=if_pos rfl
theorem eg{i j:Nat}(h:i≠j):dl i j=0:=if_neg h
theorem oV{n k:Nat}(hk:k<n)(f:Nat->Int):S n (fun i=>dl k i*f i)=f k:=by
 rw[pj hk (fun i _ h=>by rw[eg (Ne.symm h),Int.zero_mul]),dW,Int.one_mul]
theorem qV{n k:Nat}(hk:k<n)(f:Nat->Int):S n (fun i=>f i*dl i k)=f k:=by
 rw[pj hk (fun i _ h=>by rw[eg h,Int.mul_zero]),dW,Int.mul_one]
abbrev Row:=List Int
abbrev Rows:=List (List Int)
def g(A:Rows)(i j:Nat):Int:=(A.getD i []).getD j 0
structure cy(m n:Nat)(A:Rows):Prop where
 len:A.length=m
 fO:∀r∈A,r.length=n
theorem a7{α:Type}{l:List α}{i:Nat}{d:α}(h:i<l.length):l.getD i d=l[i]:=by
 rw[List.getD_eq_getElem?_getD,List.getElem?_eq_getElem h];rfl
theorem j8{α:Type}{l:List α}{i:Nat}{d:α}(h:l.length<=i):l.getD i d=d:=by
 rw[List.getD_eq_getElem?_getD,List.getElem?_eq_none h];rfl
theorem u0{a b:Row}{n:Nat}(ha:a.length=n)(hb:b.length=n)(h:∀j,j<n->a.getD j 0=b.getD j 0):a=b:=by
 refine List.ext_getElem (by omega) fun i h1 h2=>?_;have:=h i (by omega);rwa [a7 h1,a7 h2]at this
theorem cy.row{m n:Nat}{A:Rows}(h:cy m n A){i:Nat}(hi:i<m):(A.getD i []).length=n:=by
 have hl:=h.len;rw[a7 (by omega)];exact h.fO _ (List.getElem_mem _)
theorem cy.ext{m n:Nat}{A B:Rows}(ha:cy m n A)(hb:cy m n B)(h:∀i j,i<m->j<n->g A i j=g B i j):A=B:=by
 have h1:=ha.len;have h2:=hb.len;refine List.ext_getElem (by omega) fun i hi hj=>?_;have e1:=ha.row (i:=i) (by omega);have e2:=hb.row (i:=i) (by omega);have:=u0 e1 e2 fun j hj=>h i j (by omega) hj;rwa [a7 hi,a7 hj]at this
def gb(r:Row)(t:Int)(s:Row):Row:=List.zipWith (fun a b=>a+t*b) r s
theorem ni{r s:Row}{t:Int}(h:r.length=s.length):(gb r t s).length=r.length:=by unfold gb;simp[h]
theorem u9{r s:Row}{t:Int}(h:r.length=s.length)(j:Nat):(gb r t s).getD j 0=r.getD j 0+t*s.getD j 0:=by
 unfold gb;by_cases hj:j<r.length
 . rw[a7 (by simp;omega),a7 hj,a7 (by omega)];simp
 . rw[j8 (by simp;omega),j8 (by omega),j8 (by omega)];simp
def cM:Row->Rows->Row->Row
 |w::ws,r::rs,acc=>cM ws rs (gb acc w r)
 |_,_,acc=>acc
theorem jt{n:Nat}:∀ {ws:Row} {rs:Rows} {acc:Row},acc.length=n->(∀r∈rs,r.length=n)->(cM ws rs acc).length=n
 | [],_,acc,h,_=>by unfold cM;exact h
 |_::_,[],acc,h,_=>by unfold cM;exact h
 |w::ws,r::rs,acc,h,hr=>by
  unfold cM;refine jt ?_ fun r hr'=>hr r (List.mem_cons_of_mem _ hr');rw[ni (by rw[h,hr r List.mem_cons_self]),h]
theorem ki{n:Nat}:∀ {ws:Row} {rs:Rows} {acc:Row} (j:Nat),acc.length=n->(∀r∈rs,r.length=n)->ws.length=rs.length->(cM ws rs acc).getD j 0=acc.getD j 0+S rs.length fun k=>ws.getD k 0*g rs k j
 | [],[],acc,j,h,_,_=>by unfold cM;show _=_+(0:Int);rw[Int.add_zero]
 | [],_::_,acc,j,h,_,hl=>by cases hl
 |_::_,[],acc,j,h,_,hl=>by cases hl
 |w::ws,r::rs,acc,j,h,hr,hl=>by
  have e1:acc.length=r.length:=by rw[h,hr r List.mem_cons_self]
  unfold cM;rw[ki j (by rw[ni e1,h]) (fun r hr'=>hr r (List.mem_cons_of_mem _ hr')) (by simpa using hl),u9 e1,List.length_cons,C0]
  have:(fun k=>(w::ws).getD (k+1) 0*g (r::rs) (k+1) j)=fun k=>ws.getD k 0*g rs k j:=by
   funext k;unfold g;simp
  rw[this];unfold g;simp;omega
theorem dD(n j:Nat):(List.replicate n (0:Int)).getD j 0=0:=by
 by_cases h:j<n
 . rw[a7 (by simpa using h)];simp
 . rw[j8 (by simp;omega)]
def jn(n i:Nat):Row:=(List.range n).map fun k=>dl k i
def units(n:Nat):Rows:=(List.range n).map fun i=>jn n i
theorem range_getD{α:Type}{f:Nat->α}{n i:Nat}{d:α}(h:i<n):((List.range n).map f).getD i d=f i:=by
 rw[a7 (by simpa using h)];simp
theorem sQ(n:Nat):cy n n (units n):=⟨by simp[units],fun r hr=>by unfold units at hr;obtain⟨i,_,rfl⟩:=List.mem_map.mp hr;simp[jn]⟩
theorem kJ{n i j:Nat}(hi:i<n)(hj:j<n):g (units n) i j=dl i j:=by
 unfold g units jn;rw[range_getD hi,range_getD hj];unfold dl;by_cases h:i=j
 . subst h;rfl
 . rw[if_neg (Ne.symm h),if_neg h]
def pK(A:Rows)(j:Nat):Row:=A.map fun r=>r.getD j 0
def iX(A:Rows)(n:Nat):Rows:=(List.range n).map fun j=>pK A j
theorem qE{m n:Nat}{A:Rows}(ha:cy m n A):cy n m (iX A n):=⟨by simp[iX],fun r hr=>by
 unfold iX at hr;obtain⟨j,_,rfl⟩:=List.mem_map.mp hr;unfold pK;rw[List.length_map,ha.len]⟩
theorem F7{A:Rows}{i:Nat}(j:Nat)(h:i<A.length):(pK A j).getD i 0=g A i j:=by
 unfold pK g;rw[a7 (by simpa using h),a7 h];simp
theorem Dq{m n:Nat}{A:Rows}(ha:cy m n A){i j:Nat}(hi:i<m)(hj:j<n):g (iX A n) j i=g A i j:=by
 show((iX A n).getD j []).getD i 0=_;unfold iX;rw[range_getD hj,F7 j (by rw[ha.len];exact hi)]
def Jz:Row->Row->Int
 |a::as,b::bs=>a*b+Jz as bs
 |_,_=>0
theorem u6(i j:Nat):dl i j=dl j i:=by
 unfold dl;by_cases h:i=j
 . rw[if_pos h,if_pos h.symm]
 . rw[if_neg h,if_neg (Ne.symm h)]
def sw(i j k:Nat):Nat:=if k=i then j else if k=j then i else k
theorem Nm{n i j:Nat}(hi:i<n)(hj:j<n)(hij:i≠j)(f:Nat->Int):S n (fun k=>f (sw i j k))=S n f:=by
 have:S n (fun k=>f (sw i j k))=S n fun k=>f k+(f j-f i)*dl k i+(f i-f j)*dl k j:=aH fun k _=>by
  unfold sw;by_cases h1:k=i
  . subst h1;rw[if_pos rfl,dW,eg hij];omega
  . rw[if_neg h1,eg h1];by_cases h2:k=j
    . subst h2;rw[if_pos rfl,dW];omega
    . rw[if_neg h2,eg h2];omega
 rw[this,iD,iD,qV (f:=fun _=>f j-f i) hi,qV (f:=fun _=>f i-f j) hj];omega
abbrev Fn:=Nat->Nat->Int
def sk(j c:Nat):Nat:=if c<j then c else c+1
def sg(j:Nat):Int:=if j%2=0 then 1 else-1
theorem uS(j:Nat):sg (j+1)= -sg j:=by unfold sg;split<;>split<;>omega
theorem u3:sg 0=1:=rfl
theorem jI{j c n:Nat}(h:c<n):sk j c<n+1:=by unfold sk;split<;>omega
theorem Lc{j k c:Nat}(h:k<j):sk j (sk k c)=sk k (sk (j-1) c):=by unfold sk;grind
def D:Nat->Fn->Int
 |0,_=>1
 |n+1,M=>S (n+1) fun j=>sg j*M 0 j*D n fun r c=>M (r+1) (sk j c)
theorem BW(M:Fn):D 0 M=1:=rfl
theorem c6(n:Nat)(M:Fn):D (n+1) M=S (n+1) fun j=>sg j*M 0 j*D n fun r c=>M (r+1) (sk j c):=rfl
theorem cP:∀ {n:Nat} {M M':Fn},(∀r c,r<n->c<n->M r c=M' r c)->D n M=D n M'
 |0,_,_,_=>rfl
 |n+1,M,M',h=>by
  rw[c6,c6];refine aH fun j hj=>?_;have e:D n (fun r c=>M (r+1) (sk j c))=D n (fun r c=>M' (r+1) (sk j c)):=cP fun r c hr hc=>h (r+1) (sk j c) (by omega) (jI hc);rw[h 0 j (by omega) hj,e]
theorem FJ:∀ {n:Nat} {M P Q:Fn} {a b:Int} {i:Nat},i<n->(∀c,c<n->M i c=a*P i c+b*Q i c)->(∀r c,r<n->c<n->r≠i->M r c=P r c/\M r c=Q r c)->D n M=a*D n P+b*D n Q
 |0,_,_,_,_,_,_,h,_,_=>by omega
 |n+1,M,P,Q,a,b,0,_,h0,h=>by
  rw[c6,c6,c6,<-eN,<-eN,<-iD];refine aH fun j hj=>?_;have e1:D n (fun r c=>M (r+1) (sk j c))=D n (fun r c=>P (r+1) (sk j c)):=cP fun r c hr hc=>(h (r+1) (sk j c) (by omega) (jI hc) (by omega)).1;have e2:D n (fun r c=>M (r+1) (sk j c))=D n (fun r c=>Q (r+1) (sk j c)):=cP fun r c hr hc=>(h (r+1) (sk j c) (by omega) (jI hc) (by omega)).2;rw[h0 j hj,<-e1,<-e2];grind
 |n+1,M,P,Q,a,b,i+1,hi,h0,h=>by
  rw[c6,c6,c6,<-eN,<-eN,<-iD];refine aH fun j hj=>?_;have e:=FJ (n:=n) (M:=fun r c=>M (r+1) (sk j c)) (P:=fun r c=>P (r+1) (sk j c)) (Q:=fun r c=>Q (r+1) (sk j c)) (a:=a) (b:=b) (i:=i) (by omega) (fun c hc=>h0 (sk j c) (jI hc)) fun r c hr hc hne=>h (r+1) (sk j c) (by omega) (jI hc) (by omega);have p:=h 0 j (by omega) hj (by omega);rw[e,<-p.1,<-p.2];grind
theorem NB{n:Nat}{M:Fn}(h:∀c,c<n+2->M 0 c=M 1 c):D (n+2) M=0:=by
 let T:Nat->Nat->Int:=fun j k=>sg j*M 0 j*(sg k*M 1 (sk j k)*D n fun r c=>M (r+2) (sk j (sk k c)))
 have e1:∀j,j<n+2->sg j*M 0 j*D (n+1) (fun r c=>M (r+1) (sk j c))=S (n+1) fun k=>T j k:=fun j hj=>by
  rw[c6,<-eN]
 rw[c6,aH e1]
 have e2:∀j,j<n+2->S (n+1) (fun k=>T j k)=S (n+1) (fun k=>if k<j then T j k else 0)+S (n+1) (fun k=>if k<j then 0 else T j k):=fun j _=>by
  rw[<-iD];refine aH fun k _=>?_;split<;>omega
 rw[aH e2,iD]
 have e3:∀j k,j<n+2->k<n+1->¬k<j->T j k= -T (k+1) j:=fun j k hj hk hjk=>by
  have s1:sk (k+1) j=j:=by unfold sk;rw[if_pos (by omega)]
  have s2:sk j k=k+1:=by unfold sk;rw[if_neg hjk]
  have s3:(fun r c=>M (r+2) (sk (k+1) (sk j c)))=fun r c=>M (r+2) (sk j (sk k c)):=by
   funext r c;rw[Lc (show j<k+1 by omega)];rfl
  show sg j*M 0 j*(sg k*M 1 (sk j k)*D n fun r c=>M (r+2) (sk j (sk k c)))= -(sg (k+1)*M 0 (k+1)*(sg j*M 1 (sk (k+1) j)*D n fun r c=>M (r+2) (sk (k+1) (sk j c))));rw[s1,s2,s3,uS,<-h j hj,<-h (k+1) (by omega)];grind
 have e4:S (n+2) (fun j=>S (n+1) fun k=>if k<j then 0 else T j k)= -S (n+2) (fun j=>S (n+1) fun k=>if k<j then T j k else 0):=by
  rw[qU,C0 (n+1) (fun j=>S (n+1) fun k=>if k<j then T j k else 0)];have z:S (n+1) (fun k=>if k<0 then T 0 k else 0)=0:=lO fun k _=>if_neg (by omega);rw[z,Int.zero_add,<-A5];refine aH fun k hk=>?_;have:S (n+2) (fun j=>if k<j then 0 else T j k)=S (n+1) (fun j=>if k<j then 0 else T j k)+(if k<n+1 then 0 else T (n+1) k):=rfl;rw[this,if_pos hk,Int.add_zero,<-A5];refine aH fun j hj=>?_;by_cases hkj:k<j
  . rw[if_pos hkj,if_neg (by omega)];rfl
  . rw[if_neg hkj,if_pos (by omega)];exact e3 j k (by omega) hk hkj
 rw[e4];omega
theorem FZ:∀ {n:Nat} {M:Fn} {i:Nat},i+1<n->(∀c,c<n->M i c=M (i+1) c)->D n M=0
 |0,_,_,h,_=>by omega
 |1,_,_,h,_=>by omega
 |n+2,M,0,_,h=>NB h
 |n+2,M,i+1,hi,h=>by
  rw[c6];refine lO fun j hj=>?_;rw[FZ (n:=n+1) (M:=fun r c=>M (r+1) (sk j c)) (i:=i) (by omega) fun c hc=>h (sk j c) (jI hc),Int.mul_zero]
structure Alt(n:Nat)(φ:Fn->Int):Prop where
 cg:∀M M':Fn,(∀r c,r<n->c<n->M r c=M' r c)->φ M=φ M'
 oS:∀(i:Nat) (M P Q:Fn) (a b:Int),i<n->(∀c,c<n->M i c=a*P i c+b*Q i c)->(∀r c,r<n->c<n->r≠i->M r c=P r c/\M r c=Q r c)->φ M=a*φ P+b*φ Q
 alt:∀(i j:Nat) (M:Fn),i<n->j<n->i≠j->(∀c,c<n->M i c=M j c)->φ M=0
def upd(M:Fn)(i:Nat)(x:Nat->Int):Fn:=fun r c=>if r=i then x c else M r c
theorem bV(M:Fn)(i:Nat)(x:Nat->Int)(c:Nat):upd M i x i c=x c:=if_pos rfl
theorem ax{M:Fn}{i r:Nat}{x:Nat->Int}(h:r≠i)(c:Nat):upd M i x r c=M r c:=if_neg h
theorem MP{n i j:Nat}{φ:Fn->Int}(cg:∀M M':Fn,(∀r c,r<n->c<n->M r c=M' r c)->φ M=φ M')
 (oS:∀(i:Nat) (M P Q:Fn) (a b:Int),i<n->(∀c,c<n->M i c=a*P i c+b*Q i c)->(∀r c,r<n->c<n->r≠i->M r c=P r c/\M r c=Q r c)->φ M=a*φ P+b*φ Q)
 (hi:i<n) (hj:j<n) (hij:i≠j) (alt:∀N:Fn,(∀c,c<n->N i c=N j c)->φ N=0) (M:Fn):φ (fun r=>M (sw i j r))= -φ M:=by
 have l1:φ (upd (upd M i fun c=>M i c+M j c) j fun c=>M i c+M j c)=1*φ (upd (upd M i (M i)) j fun c=>M i c+M j c)+1*φ (upd (upd M i (M j)) j fun c=>M i c+M j c):=
  oS i _ _ _ 1 1 hi (fun c _=>by rw[ax hij,ax hij,ax hij,bV,bV,bV];omega) fun r c _ _ hr=>by
   unfold upd;grind
 have l2:∀x:Nat->Int,φ (upd (upd M i x) j fun c=>M i c+M j c)=1*φ (upd (upd M i x) j (M i))+1*φ (upd (upd M i x) j (M j)):=fun x=>
  oS j _ _ _ 1 1 hj (fun c _=>by rw[bV,bV,bV];omega) fun r c _ _ hr=>by
   rw[ax hr,ax hr,ax hr];exact⟨rfl,rfl⟩
 have z0:φ (upd (upd M i fun c=>M i c+M j c) j fun c=>M i c+M j c)=0:=alt _ fun c _=>by rw[ax hij,bV,bV]
 have z1:φ (upd (upd M i (M i)) j (M i))=0:=alt _ fun c _=>by rw[ax hij,bV,bV]
 have z2:φ (upd (upd M i (M j)) j (M j))=0:=alt _ fun c _=>by rw[ax hij,bV,bV]
 have s1:φ (upd (upd M i (M i)) j (M j))=φ M:=cg _ _ fun r c _ _=>by
  unfold upd;split
  . rename_i e;rw[e]
  . split
    . rename_i e;rw[e]
    . rfl
 have s2:φ (upd (upd M i (M j)) j (M i))=φ (fun r=>M (sw i j r)):=cg _ _ fun r c _ _=>by
  unfold upd sw;by_cases h1:r=j
  . rw[if_pos h1];by_cases h2:r=i
    . omega
    . rw[if_neg h2,if_pos h1]
  . rw[if_neg h1];by_cases h2:r=i
    . rw[if_pos h2,if_pos h2]
    . rw[if_neg h2,if_neg h2,if_neg h1]
 have a1:=l2 (M i);have a2:=l2 (M j);rw[z1,s1]at a1;rw[z2,s2]at a2;rw[z0,a1,a2]at l1;omega
theorem Alt.swap{n i j:Nat}{φ:Fn->Int}(A:Alt n φ)(hi:i<n)(hj:j<n)(hij:i≠j)(M:Fn):φ (fun r=>M (sw i j r))= -φ M:=
 MP A.cg A.oS hi hj hij (fun N h=>A.alt i j N hi hj hij h) M
theorem uF{n:Nat}{φ:Fn->Int}(cg:∀M M':Fn,(∀r c,r<n->c<n->M r c=M' r c)->φ M=φ M')
 (oS:∀(i:Nat) (M P Q:Fn) (a b:Int),i<n->(∀c,c<n->M i c=a*P i c+b*Q i c)->(∀r c,r<n->c<n->r≠i->M r c=P r c/\M r c=Q r c)->φ M=a*φ P+b*φ Q)
 (adj:∀(i:Nat) (M:Fn),i+1<n->(∀c,c<n->M i c=M (i+1) c)->φ M=0):Alt n φ:=by
 have far:∀(d i:Nat) (M:Fn),i+d+1<n->(∀c,c<n->M i c=M (i+d+1) c)->φ M=0:=by
  intro d;induction d with
  |zero=>exact fun i M h1 h2=>adj i M h1 h2
  |succ d ih=>
   intro i M h1 h2;have hs:=MP cg oS (i:=i+d+1) (j:=i+d+1+1) (by omega) (by omega) (by omega) (fun N h=>adj (i+d+1) N (by omega) h) M
   have:φ (fun r=>M (sw (i+d+1) (i+d+1+1) r))=0:=ih i _ (by omega) fun c hc=>by
    have e1:sw (i+d+1) (i+d+1+1) i=i:=by unfold sw;rw[if_neg (by omega),if_neg (by omega)]
    have e2:sw (i+d+1) (i+d+1+1) (i+d+1)=i+d+1+1:=by unfold sw;rw[if_pos rfl]
    rw[e1,e2];exact h2 c hc
   omega
 refine⟨cg,oS,fun i j M hi hj hij h=>?_⟩;by_cases hlt:i<j
 . obtain⟨d,rfl⟩:∃d,j=i+d+1:=⟨j-i-1,by omega⟩
   exact far d i M hj h
 . obtain⟨d,rfl⟩:∃d,i=j+d+1:=⟨i-j-1,by omega⟩
   exact far d j M hi fun c hc=>(h c hc).symm
theorem rD(n:Nat):Alt n (D n):=uF (fun _ _ h=>cP h) (fun _ _ _ _ _ _ hi h0 h=>FJ hi h0 h) fun _ _ h1 h2=>FZ h1 h2
theorem Alt.KR{n i:Nat}{φ:Fn->Int}(A:Alt n φ)(hi:i<n){M:Fn}(h:∀c,c<n->M i c=0):φ M=0:=by
 have:=A.oS i M M M 0 0 hi (fun c hc=>by rw[h c hc];rfl) fun _ _ _ _ _=>⟨rfl,rfl⟩
 omega
theorem Alt.DH{n i:Nat}{φ:Fn->Int}(A:Alt n φ)(hi:i<n)(M:Fn)(t:Int)(x:Nat->Int):φ (upd M i fun c=>t*x c)=t*φ (upd M i x):=by
 have:=A.oS i (upd M i fun c=>t*x c) (upd M i x) (upd M i x) t 0 hi (fun c hc=>by rw[bV,bV];omega) fun r c _ _ hr=>by rw[ax hr,ax hr];exact⟨rfl,rfl⟩
 omega
theorem Alt.BR{n i:Nat}{φ:Fn->Int}(A:Alt n φ)(hi:i<n)(M:Fn)(x y:Nat->Int):φ (upd M i fun c=>x c+y c)=φ (upd M i x)+φ (upd M i y):=by
 have:=A.oS i (upd M i fun c=>x c+y c) (upd M i x) (upd M i y) 1 1 hi (fun c hc=>by rw[bV,bV,bV];omega) fun r c _ _ hr=>by rw[ax hr,ax hr,ax hr];exact⟨rfl,rfl⟩
 omega
theorem Alt.tW{n i:Nat}{φ:Fn->Int}(A:Alt n φ)(hi:i<n)(M:Fn)(a:Nat->Int)(x:Nat->Nat->Int):∀m,φ (upd M i fun c=>S m fun j=>a j*x j c)=S m fun j=>a j*φ (upd M i (x j))
 |0=>A.KR hi fun c _=>by rw[bV];rfl
 |m+1=>by
  have:(fun c=>S (m+1) fun j=>a j*x j c)=fun c=>(S m fun j=>a j*x j c)+a m*x m c:=rfl;rw[this,A.BR hi,A.tW hi M a x m,A.DH hi];rfl
def un(j c:Nat):Nat:=if c<j then c else c-1
def grow(j:Nat)(B:Fn):Fn:=fun r c=>if r=0 then dl j c else if c=j then 0 else B (r-1) (un j c)
theorem tJ{n j c:Nat}(hj:j<n+1)(hc:c<n+1)(h:c≠j):un j c<n:=by unfold un;split<;>omega
theorem Ac{j c:Nat}(h:c≠j):sk j (un j c)=c:=by unfold sk un;grind
theorem Alt.grow{n j:Nat}{φ:Fn->Int}(A:Alt (n+1) φ)(hj:j<n+1):Alt n fun B=>φ (Mx.grow j B) where
 cg:=fun M M' h=>A.cg _ _ fun r c hr hc=>by
  have:=h (r-1) (un j c);have:=tJ (c:=c) hj hc;unfold Mx.grow;grind
 oS:=fun i M P Q a b hi h0 h=>A.oS (i+1) _ _ _ a b (by omega) (fun c hc=>by
  have:=h0 (un j c);have:=tJ (c:=c) hj hc;have e:i+1-1=i:=by omega
  unfold Mx.grow;rw[e];grind) fun r c hr hc hne=>by
  have:=h (r-1) (un j c);have:=tJ (c:=c) hj hc;unfold Mx.grow;grind
 alt:=fun i k M hi hk hik h=>A.alt (i+1) (k+1) _ (by omega) (by omega) (by omega) fun c hc=>by
  have:=h (un j c);have:=tJ (c:=c) hj hc;have e:i+1-1=i:=by omega
  have e2:k+1-1=k:=by omega
  unfold Mx.grow;rw[e,e2];grind
theorem Alt.units{n:Nat}{φ:Fn->Int}(A:Alt (n+1) φ):∀j,j<n+1->φ (Mx.grow j dl)=sg j*φ dl
 |0,_=>by
  rw[u3,Int.one_mul];refine A.cg _ _ fun r c hr hc=>?_;unfold Mx.grow un dl;grind
 |j+1,hj=>by
  have ih:=A.units j (by omega);have s:=A.swap (i:=0) (j:=j+1) (by omega) hj (by omega) (Mx.grow j dl);rw[uS,Int.neg_mul,<-ih,<-s];refine A.cg _ _ fun r c hr hc=>?_;unfold Mx.grow un dl sw;grind
theorem Alt.Nw{n i k:Nat}{φ:Fn->Int}(A:Alt n φ)(hi:i<n)(hk:k<n)(hik:i≠k)(M:Fn)(x:Nat->Int)(t:Int):φ (upd M i fun c=>x c+t*M k c)=φ (upd M i x):=by
 rw[A.BR hi,A.DH hi M t (M k),A.alt i k (upd M i (M k)) hi hk hik fun c _=>by rw[bV,ax (Ne.symm hik)],Int.mul_zero,Int.add_zero]
def zr(j m:Nat)(M:Fn):Fn:=fun r c=>if r=0 then dl j c else if r<=m/\c=j then 0 else M r c
theorem Alt.zr{n j:Nat}{φ:Fn->Int}(A:Alt (n+1) φ)(M:Fn):∀m,m<=n->φ (Mx.zr j m M)=φ (upd M 0 (dl j))
 |0,_=>A.cg _ _ fun r c hr hc=>by unfold Mx.zr upd;grind
 |m+1,hm=>by
  rw[<-A.zr M m (by omega)];have e:=A.Nw (i:=m+1) (k:=0) (by omega) (by omega) (by omega) (Mx.zr j m M) (M (m+1)) (-M (m+1) j)
  have e1:φ (Mx.zr j (m+1) M)=φ (upd (Mx.zr j m M) (m+1) fun c=>M (m+1) c+ -M (m+1) j*Mx.zr j m M 0 c):=A.cg _ _ fun r c hr hc=>by
   unfold upd Mx.zr dl;by_cases h0:r=m+1
   . subst h0;by_cases h1:c=j
     . subst h1;simp;omega
     . have:¬j=c:=fun z=>h1 z.symm;simp[h1,this]
   . rw[if_neg h0];grind
  have e2:φ (upd (Mx.zr j m M) (m+1) (M (m+1)))=φ (Mx.zr j m M):=A.cg _ _ fun r c hr hc=>by
   unfold upd Mx.zr;grind
  rw[e1,e,e2]
theorem AL:∀ {n:Nat} {φ:Fn->Int},Alt n φ->∀M,φ M=φ dl*D n M
 |0,φ,A,M=>by rw[BW,Int.mul_one];exact A.cg _ _ fun r c hr=>by omega
 |n+1,φ,A,M=>by
  have h1:φ M=S (n+1) fun j=>M 0 j*φ (upd M 0 (dl j)):=by
   rw[<-A.tW (by omega) M (M 0) dl (n+1)];refine A.cg _ _ fun r c hr hc=>?_;by_cases h0:r=0
   . subst h0;rw[bV,qV hc]
   . rw[ax h0]
  have h2:∀j,j<n+1->φ (upd M 0 (dl j))=φ (Mx.grow j fun r c=>M (r+1) (sk j c)):=fun j hj=>by
   rw[<-A.zr M n (Nat.le_refl _)];refine A.cg _ _ fun r c hr hc=>?_;unfold Mx.grow Mx.zr;by_cases h0:r=0
   . rw[if_pos h0,if_pos h0]
   . rw[if_neg h0,if_neg h0];by_cases h3:c=j
     . rw[if_pos ⟨by omega,h3⟩,if_pos h3]
     . rw[if_neg (by omega),if_neg h3];dsimp only;rw[Ac h3,show r-1+1=r by omega]
  rw[h1,c6,<-eN];refine aH fun j hj=>?_;have h3:=AL (A.grow hj) fun r c=>M (r+1) (sk j c);have h4:=A.units j hj;have h5:φ (Mx.grow j fun r c=>M (r+1) (sk j c))=φ (Mx.grow j dl)*D n fun r c=>M (r+1) (sk j c):=h3;rw[h2 j hj,h5,h4];grind
theorem vh:∀n,D n dl=1
 |0=>rfl
 |n+1=>by
  rw[c6,pj (k:=0) (by omega) fun j hj h0=>by rw[eg (Ne.symm h0),Int.mul_zero,Int.zero_mul]]
  have:D n (fun r c=>dl (r+1) (sk 0 c))=D n dl:=cP fun r c _ _=>by
   unfold dl sk;grind
  rw[this,vh n,dW];rfl
theorem Ff(n:Nat)(A B:Fn):D n (fun r c=>S n fun k=>A r k*B k c)=D n A*D n B:=by
 have al:Alt n fun A=>D n (fun r c=>S n fun k=>A r k*B k c):=by
  refine⟨fun M M' h=>cP fun r c hr hc=>aH fun k hk=>by rw[h r k hr hk],fun i M P Q a b hi h0 h=>(rD n).oS i _ _ _ a b hi (fun c hc=>?_) fun r c hr hc hne=>⟨aH fun k hk=>by rw[(h r k hr hk hne).1],aH fun k hk=>by rw[(h r k hr hk hne).2]⟩,fun i j M hi hj hij h=>(rD n).alt i j _ hi hj hij fun c hc=>aH fun k hk=>by rw[h k hk]⟩;show(S n fun k=>M i k*B k c)=a*(S n fun k=>P i k*B k c)+b*S n fun k=>Q i k*B k c;rw[<-eN,<-eN,<-iD];refine aH fun k hk=>?_;rw[h0 k hk];grind
 have h:=AL al A;have e:D n (fun r c=>S n fun k=>dl r k*B k c)=D n B:=cP fun r c hr hc=>oV hr fun k=>B k c;rw[h,e,Int.mul_comm]
theorem CT:∀ {n:Nat} {M P Q:Fn} {a b:Int} {i:Nat},i<n->(∀r,r<n->M r i=a*P r i+b*Q r i)->(∀r c,r<n->c<n->c≠i->M r c=P r c/\M r c=Q r c)->D n M=a*D n P+b*D n Q
 |0,_,_,_,_,_,_,h,_,_=>by omega
 |n+1,M,P,Q,a,b,i,hi,h0,h=>by
  rw[c6,c6,c6,<-eN,<-eN,<-iD];refine aH fun j hj=>?_;by_cases hij:j=i
  . subst hij;have hs:∀c,sk j c≠j:=fun c=>by unfold sk;split<;>omega
    have e1:D n (fun r c=>M (r+1) (sk j c))=D n (fun r c=>P (r+1) (sk j c)):=cP fun r c hr hc=>(h (r+1) (sk j c) (by omega) (jI hc) (hs c)).1;have e2:D n (fun r c=>M (r+1) (sk j c))=D n (fun r c=>Q (r+1) (sk j c)):=cP fun r c hr hc=>(h (r+1) (sk j c) (by omega) (jI hc) (hs c)).2;rw[h0 0 (by omega),<-e1,<-e2];grind
  . have p:=h 0 j (by omega) hj hij;have hu:sk j (un j i)=i:=Ac (Ne.symm hij);have hs:∀c,c≠un j i->sk j c≠i:=fun c hc=>by unfold sk;unfold un at hc;grind
    have hlt:un j i<n:=tJ hj hi (Ne.symm hij)
    have e:=CT (n:=n) (M:=fun r c=>M (r+1) (sk j c)) (P:=fun r c=>P (r+1) (sk j c)) (Q:=fun r c=>Q (r+1) (sk j c)) (a:=a) (b:=b) (i:=un j i) hlt (fun r hr=>by
     rw[hu];exact h0 (r+1) (by omega)) fun r c hr hc hne=>h (r+1) (sk j c) (by omega) (jI hc) (hs c hne)
    rw[e,<-p.1,<-p.2];grind
theorem Dv:∀ {n:Nat} {M:Fn} {i:Nat},i+1<n->(∀r,r<n->M r i=M r (i+1))->D n M=0
 |0,_,_,h,_=>by omega
 |n+1,M,i,hi,h=>by
  rw[c6]
  have key:∀j,j<n+1->j≠i->j≠i+1->D n (fun r c=>M (r+1) (sk j c))=0:=fun j hj h1 h2=>by
   refine Dv (i:=un j i) (by unfold un;split<;>omega) fun r hr=>?_;have e1:sk j (un j i)=i:=Ac (Ne.symm h1);have e2:sk j (un j i+1)=i+1:=by unfold sk un;grind
   rw[e1,e2];exact h (r+1) (by omega)
  have e:D n (fun r c=>M (r+1) (sk i c))=D n (fun r c=>M (r+1) (sk (i+1) c)):=cP fun r c hr hc=>by
   by_cases hc2:c=i
   . subst hc2;have a1:sk c c=c+1:=by unfold sk;rw[if_neg (by omega)]
     have a2:sk (c+1) c=c:=by unfold sk;rw[if_pos (by omega)]
     rw[a1,a2];exact(h (r+1) (by omega)).symm
   . have a1:sk i c=sk (i+1) c:=by unfold sk;grind
     rw[a1]
  have two:∀(m:Nat) (f:Nat->Int),i+1<m->(∀j,j<m->j≠i->j≠i+1->f j=0)->S m f=f i+f (i+1):=fun m=>by
   induction m with
   |zero=>intro f h;omega
   |succ m ih=>
    intro f hm hf;show S m f+f m=_;by_cases hmi:m=i+1
    . subst hmi;rw[pj (k:=i) (by omega) fun j hj hne=>hf j (by omega) hne (by omega)]
    . rw[ih f (by omega) fun j hj h1 h2=>hf j (by omega) h1 h2,hf m (by omega) (by omega) hmi,Int.add_zero]
  rw[two (n+1) _ hi fun j hj h1 h2=>by rw[key j hj h1 h2,Int.mul_zero],e,uS,h 0 (by omega)];grind
def tr(M:Fn):Fn:=fun r c=>M c r
theorem xa(n:Nat)(M:Fn):D n (tr M)=D n M:=by
 have al:Alt n fun A=>D n (tr A):=uF (fun M M' h=>cP fun r c hr hc=>h c r hc hr)
  (fun i M P Q a b hi h0 h=>CT hi (fun r hr=>h0 r hr) fun r c hr hc hne=>h c r hc hr hne)
  fun i M hi h=>Dv hi fun r hr=>h r hr
 have h:=AL al M;have e:D n (tr dl)=D n dl:=cP fun r c _ _=>u6 c r;have h2:D n (tr M)=D n (tr dl)*D n M:=h;rw[h2,e,vh,Int.one_mul]
def Pr:Nat->(Nat->Int)->Int
 |0,_=>1
 |n+1,f=>Pr n f*f n
theorem zN:∀(n:Nat) (f:Nat->Int),Pr (n+1) f=f 0*Pr n fun i=>f (i+1)
 |0,f=>by show 1*f 0=f 0*1;omega
 |n+1,f=>by
  have:Pr (n+1+1) f=Pr (n+1) f*f (n+1):=rfl;rw[this,zN n f];have:Pr (n+1) (fun i=>f (i+1))=Pr n (fun i=>f (i+1))*f (n+1):=rfl;rw[this,Int.mul_assoc]
theorem F3:∀ {n:Nat} {M:Fn},(∀r c,r<n->c<n->r<c->M r c=0)->D n M=Pr n fun i=>M i i
 |0,_,_=>rfl
 |n+1,M,h=>by
  rw[c6,pj (k:=0) (by omega) fun j hj h0=>by rw[h 0 j (by omega) hj (by omega),Int.mul_zero,Int.zero_mul],zN,u3,Int.one_mul];have s:∀c,sk 0 c=c+1:=fun c=>by unfold sk;rw[if_neg (by omega)]
  have e:D n (fun r c=>M (r+1) (sk 0 c))=Pr n fun i=>M (i+1) (i+1):=by
   rw[F3 fun r c hr hc hrc=>by rw[s];exact h (r+1) (c+1) (by omega) (by omega) (by omega)];simp only[s]
  rw[e]
theorem Nn{n:Nat}{M:Fn}(h:∀r c,r<n->c<n->c<r->M r c=0):D n M=Pr n fun i=>M i i:=by
 rw[<-xa n M,F3 (M:=tr M) fun r c hr hc hrc=>h c r hc hr hrc];rfl
theorem xh:∀ {n:Nat} {M:Fn},(∀c,c<n+1->M n c=dl n c)->D (n+1) M=D n M
 |0,M,h=>by
  rw[c6];show 0+sg 0*M 0 0*D 0 _=1;rw[h 0 (by omega),dW,u3,BW];omega
 |n+1,M,h=>by
  have e1:∀j,j<n+1->D (n+1) (fun r c=>M (r+1) (sk j c))=D n (fun r c=>M (r+1) (sk j c)):=fun j hj=>xh fun c hc=>by
   rw[h (sk j c) (jI hc)];unfold dl sk;grind
  have e2:D (n+1) (fun r c=>M (r+1) (sk (n+1) c))=0:=(rD (n+1)).KR (i:=n) (by omega) fun c hc=>by
   have s:sk (n+1) c=c:=by unfold sk;rw[if_pos (by omega)]
   rw[s,h c (by omega),eg (by omega)]
  have e3:D (n+1+1) M=(S (n+1) fun j=>sg j*M 0 j*D (n+1) fun r c=>M (r+1) (sk j c))+sg (n+1)*M 0 (n+1)*D (n+1) (fun r c=>M (r+1) (sk (n+1) c)):=c6 (n+1) M;rw[e3,e2,Int.mul_zero,Int.add_zero,c6];exact aH fun j hj=>by rw[e1 j hj]
def gx(R:Fn)(p:Nat)(x:Nat->Int)(j:Nat):Int:=D (p+1) fun r c=>if r<p then R r (if c<p then c else j)else x (if c<p then c else j)
theorem Ke{R:Fn}{p j:Nat}{x:Nat->Int}(h:j<p):gx R p x j=0:=by
 unfold gx;rw[<-xa];refine(rD (p+1)).alt j p _ (by omega) (by omega) (by omega) fun c hc=>?_;unfold tr;dsimp only;rw[if_pos h,if_neg (Nat.lt_irrefl p)]
def bt(R:Fn)(p:Nat)(x:Nat->Int)(k:Nat):Int:=D (p+1) (upd (fun c r=>if r<p then R r c else x c) p (dl k))
theorem Mb(R:Fn)(p:Nat)(x:Nat->Int)(j:Nat):gx R p x j=D p R*x j+S p fun k=>bt R p x k*R k j:=by
 have e1:gx R p x j=D (p+1) (upd (fun c r=>if r<p then R r c else x c) p fun r=>S (p+1) fun k=>(if k<p then R k j else x j)*dl k r):=by
  unfold gx;rw[<-xa];refine cP fun c r hc hr=>?_;unfold tr upd;by_cases h:c=p
  . subst h;rw[if_pos rfl];dsimp only;rw[qV hr,if_neg (Nat.lt_irrefl _)]
  . rw[if_neg h];dsimp only;rw[if_pos (show c<p by omega)]
 rw[e1,(rD (p+1)).tW (by omega)]
 have e2:D (p+1) (upd (fun c r=>if r<p then R r c else x c) p (dl p))=D p R:=by
  rw[xh fun c _=>bV _ _ _ _];rw[<-xa];refine cP fun r c hr hc=>?_;unfold tr;rw[ax (by omega),if_pos (by omega)]
 have e3:(S (p+1) fun k=>(if k<p then R k j else x j)*D (p+1) (upd (fun c r=>if r<p then R r c else x c) p (dl k)))=(S p fun k=>(if k<p then R k j else x j)*D (p+1) (upd (fun c r=>if r<p then R r c else x c) p (dl k)))+(if p<p then R p j else x j)*D (p+1) (upd (fun c r=>if r<p then R r c else x c) p (dl p)):=rfl;rw[e3,e2,if_neg (Nat.lt_irrefl p),Int.add_comm,Int.mul_comm];congr 1;refine aH fun k hk=>?_;rw[if_pos hk,Int.mul_comm];rfl
def cl(p j1 j2 c:Nat):Nat:=if c<p then c else if c=p then j1 else j2
theorem wz{n:Nat}{f:Nat->Int}{m:Nat}(h:∀i,i<n->(f i).natAbs<=m):(S n f).natAbs<=n*m:=by
 induction n with
 |zero=>simp[S]
 |succ n ih=>
  have h1:=ih fun i hi=>h i (by omega);have h2:=h n (by omega);show(S n f+f n).natAbs<=_;rw[Nat.succ_mul];omega
def lam(G:Fn)(i j:Nat):Int:=gx G j (G i) j
def M5(A:Rows):Fn:=fun i j=>Jz (A.getD i []) (A.getD j [])
def LL(G:Fn)(i:Nat):Row:=(List.range (i+1)).map fun j=>lam G i j
def KN(G:Fn)(n:Nat):Rows:=(List.range n).map (LL G)
def RA(A:Rows)(N:Nat):Fn:=fun i j=>if j<N then M5 A i j else(A.getD i []).getD (j-N) 0
def ev(A:Rows)(N i k c:Nat):Int:=gx (RA A N) k (RA A N i) (N+c)
theorem Al(n:Nat)(a b:Int)(f g:Nat->Int):S n (fun c=>a*f c-b*g c)=a*S n f-b*S n g:=by
 induction n with
 |zero=>show(0:Int)=a*0-b*0;omega
 |succ n ih=>
  show S n (fun c=>a*f c-b*g c)+(a*f n-b*g n)=a*(S n f+f n)-b*(S n g+g n);rw[ih,Int.mul_add,Int.mul_add];omega
section
variable {A:Rows}{N w:Nat}
end
def NR(M:Fn)(k j:Nat)(q:Int):Fn:=fun a b=>if a=k then M a b-q*M j b else M a b
def NJ(M:Fn)(k j:Nat)(q:Int):Fn:=fun a b=>if b=k then M a b-q*M a j else M a b
def tk(G:Fn)(k j:Nat)(q:Int):Fn:=NJ (NR G k j q) k j q
section
variable {G:Fn}{t:Nat}(sym:∀i j,G i j=G j i)
include sym
end
section
variable {A:Rows}{N w:Nat}
theorem cz(hA:cy N w A){i:Nat}(hi:i<N):(A.getD i []).length=w:=hA.fO _ (by have:=hA.len;rw[a7 (by omega)];exact List.getElem_mem _)
end
def a8(A:Rows)(k:Nat)(q:Int)(j:Nat):Rows:=A.set k (gb (A.getD k []) (-q) (A.getD j []))
def bg(A:Rows)(k o:Nat):Rows:=(A.set k (A.getD o [])).set o (A.getD k [])
theorem kh{A:Rows}{k i:Nat}{r:Row}(hk:k<A.length):(A.set k r).getD i []=if i=k then r else A.getD i []:=by
 rw[List.getD_eq_getElem?_getD,List.getElem?_set];by_cases h:k=i
 . rw[if_pos h,if_pos (by omega),if_pos h.symm];rfl
 . rw[if_neg h,if_neg (Ne.symm h),List.getD_eq_getElem?_getD]
theorem CY{A:Rows}{k j:Nat}{q:Int}:(a8 A k q j).length=A.length:=by unfold a8;rw[List.length_set]
theorem tw{A:Rows}{N w k j:Nat}{q:Int}(hA:cy N w A)(hk:k<N)(hj:j<N):cy N w (a8 A k q j):=by
 refine⟨CY.trans hA.len,fun r hr=>?_⟩;unfold a8 at hr;rcases List.mem_or_eq_of_mem_set hr with h|rfl
 . exact hA.fO r h
 . rw[ni (by rw[cz hA hk,cz hA hj]),cz hA hk]
structure Tn(A0 A U C:Rows)(N w:Nat):Prop where
 isA:cy N w A
 du:cy N N U
 fi:cy N N C
 ua:∀i c,i<N->c<w->g A i c=S N fun k=>g U i k*g A0 k c
 ub:∀i j,i<N->j<N->S N (fun k=>g U i k*g C j k)=dl i j
 bu:∀i j,i<N->j<N->S N (fun k=>g C k i*g U k j)=dl i j
theorem c7{A:Rows}{N w k j:Nat}{q:Int}(hA:cy N w A)(hk:k<N)(hj:j<N)(i c:Nat):g (a8 A k q j) i c=if i=k then g A k c-q*g A j c else g A i c:=by
 unfold g a8;have hl:=hA.len;rw[kh (by omega)];by_cases h:i=k
 . rw[if_pos h,if_pos h,u9 (by rw[cz hA hk,cz hA hj]),Int.neg_mul];omega
 . rw[if_neg h,if_neg h]
theorem uJ(n:Nat)(a b:Int)(f h:Nat->Int):S n (fun c=>a*f c+b*h c)=a*S n f+b*S n h:=by
 rw[iD,eN,eN]
theorem Tn.take{A0 A U C:Rows}{N w k j:Nat}{q:Int}(T:Tn A0 A U C N w)(hk:k<N)(hj:j<N)(hkj:j≠k):Tn A0 (a8 A k q j) (a8 U k q j) (a8 C j (-q) k) N w where
 isA:=tw T.isA hk hj
 du:=tw T.du hk hj
 fi:=tw T.fi hj hk
 ua:=fun i c hi hc=>by
  rw[c7 T.isA hk hj];have e:S N (fun m=>g (a8 U k q j) i m*g A0 m c)=S N fun m=>(if i=k then g U k m-q*g U j m else g U i m)*g A0 m c:=aH fun m _=>by rw[c7 T.du hk hj]
  rw[e];by_cases h:i=k
  . simp only[if_pos h];rw[T.ua k c hk hc,T.ua j c hj hc];have e2:S N (fun m=>(g U k m-q*g U j m)*g A0 m c)=S N fun m=>1*(g U k m*g A0 m c)-q*(g U j m*g A0 m c):=aH fun m _=>by grind
    rw[e2,Al];omega
  . simp only[if_neg h];exact T.ua i c hi hc
 ub:=fun i l hi hl=>by
  have e:S N (fun m=>g (a8 U k q j) i m*g (a8 C j (-q) k) l m)=S N fun m=>(if i=k then g U k m-q*g U j m else g U i m)*(if l=j then g C j m- -q*g C k m else g C l m):=aH fun m _=>by rw[c7 T.du hk hj,c7 T.fi hj hk]
  rw[e];have djk:dl j k=0:=eg hkj;by_cases h:i=k
  . by_cases h2:l=j
    . simp only[if_pos h,if_pos h2];have e2:S N (fun m=>(g U k m-q*g U j m)*(g C j m- -q*g C k m))=S N fun m=>1*(1*(g U k m*g C j m)+q*(g U k m*g C k m))-q*(1*(g U j m*g C j m)+q*(g U j m*g C k m)):=aH fun m _=>by grind
      rw[e2,Al,uJ,uJ,T.ub k j hk hj,T.ub k k hk hk,T.ub j j hj hj,T.ub j k hj hk,h,h2,dW,dW,djk,u6 k j,djk];omega
    . simp only[if_pos h,if_neg h2];have e2:S N (fun m=>(g U k m-q*g U j m)*g C l m)=S N fun m=>1*(g U k m*g C l m)-q*(g U j m*g C l m):=aH fun m _=>by grind
      rw[e2,Al,T.ub k l hk hl,T.ub j l hj hl,h,eg (Ne.symm h2)];omega
  . by_cases h2:l=j
    . simp only[if_neg h,if_pos h2];have e2:S N (fun m=>g U i m*(g C j m- -q*g C k m))=S N fun m=>1*(g U i m*g C j m)+q*(g U i m*g C k m):=aH fun m _=>by grind
      rw[e2,uJ,T.ub i j hi hj,T.ub i k hi hk,h2,eg h];omega
    . simp only[if_neg h,if_neg h2];exact T.ub i l hi hl
 bu:=fun i l hi hl=>by
  have e:S N (fun m=>g (a8 C j (-q) k) m i*g (a8 U k q j) m l)=S N fun m=>g C m i*g U m l+((q*(g C k i*g U j l))*dl m j+(-(q*(g C k i*g U j l)))*dl m k):=aH fun m _=>by
   rw[c7 T.du hk hj,c7 T.fi hj hk];by_cases h1:m=j
   . have h2:m≠k:=by omega
     rw[if_pos h1,if_neg h2,h1,dW,eg hkj];grind
   . rw[if_neg h1,eg h1];by_cases h2:m=k
     . rw[if_pos h2,h2,dW];grind
     . rw[if_neg h2,eg h2];grind
  rw[e,iD,uJ,T.bu i l hi hl]
  have e1:S N (fun c=>dl c j)=1:=by
   rw[pj hj fun i _ h=>eg h,dW]
  have e2:S N (fun c=>dl c k)=1:=by
   rw[pj hk fun i _ h=>eg h,dW]
  rw[e1,e2];omega
theorem xl{A:Rows}{k o i:Nat}(hk:k<A.length)(ho:o<A.length):(bg A k o).getD i []=A.getD (sw k o i) []:=by
 unfold bg;rw[kh (by rw[List.length_set];exact ho),kh hk];unfold sw;by_cases h1:i=k
 . rw[if_pos h1,if_pos h1];by_cases h2:i=o
   . rw[if_pos h2,<-h1,<-h2]
   . rw[if_neg h2]
 . rw[if_neg h1,if_neg h1];by_cases h2:i=o
   . rw[if_pos h2,if_pos h2]
   . rw[if_neg h2,if_neg h2]
theorem sZ{A:Rows}{N w k o:Nat}(hA:cy N w A)(hk:k<N)(ho:o<N):cy N w (bg A k o):=by
 refine⟨by unfold bg;rw[List.length_set,List.length_set];exact hA.len,fun r hr=>?_⟩;unfold bg at hr;rcases List.mem_or_eq_of_mem_set hr with h|rfl
 . rcases List.mem_or_eq_of_mem_set h with h|rfl
   . exact hA.fO r h
   . exact cz hA ho
 . exact cz hA hk
theorem jA{A:Rows}{N w k o:Nat}(hA:cy N w A)(hk:k<N)(ho:o<N)(i c:Nat):g (bg A k o) i c=g A (sw k o i) c:=by
 unfold g;rw[xl (by have:=hA.len;omega) (by have:=hA.len;omega)]
theorem qo{k o N i:Nat}(hk:k<N)(ho:o<N)(hi:i<N):sw k o i<N:=by unfold sw;split<;>(try split)<;>assumption
theorem BV(k o x:Nat):sw k o (sw k o x)=x:=by
 unfold sw;by_cases h1:x=k
 . subst h1;rw[if_pos rfl];by_cases h2:o=x
   . rw[if_pos h2];exact h2
   . rw[if_neg h2,if_pos rfl]
 . rw[if_neg h1];by_cases h2:x=o
   . subst h2;rw[if_pos rfl,if_pos rfl]
   . rw[if_neg h2,if_neg h1,if_neg h2]
theorem L5{k o a b:Nat}:dl (sw k o a) (sw k o b)=dl a b:=by
 by_cases h:a=b
 . rw[h,dW,dW]
 . rw[eg h,eg fun z=>h (by rw[<-BV k o a,<-BV k o b,z])]
theorem HB(k x:Nat):sw k k x=x:=by
 unfold sw;by_cases h:x=k
 . rw[if_pos h,h]
 . rw[if_neg h,if_neg h]
theorem Ls{n i j:Nat}(hi:i<n)(hj:j<n)(f:Nat->Int):S n (fun k=>f (sw i j k))=S n f:=by
 by_cases h:i=j
 . subst h;exact aH fun k _=>by rw[HB]
 . exact Nm hi hj h f
theorem Tn.Fm{A0 A U C:Rows}{N w k o:Nat}(T:Tn A0 A U C N w)(hk:k<N)(ho:o<N):Tn A0 (bg A k o) (bg U k o) (bg C k o) N w where
 isA:=sZ T.isA hk ho
 du:=sZ T.du hk ho
 fi:=sZ T.fi hk ho
 ua:=fun i c hi hc=>by
  rw[jA T.isA hk ho,T.ua _ c (qo hk ho hi) hc];exact aH fun m _=>by rw[jA T.du hk ho]
 ub:=fun i j hi hj=>by
  rw[<-L5 (k:=k) (o:=o),<-T.ub _ _ (qo hk ho hi) (qo hk ho hj)];exact aH fun m _=>by rw[jA T.du hk ho,jA T.fi hk ho]
 bu:=fun i j hi hj=>by
  rw[<-T.bu i j hi hj,<-Ls hk ho fun m=>g C m i*g U m j];exact aH fun m _=>by rw[jA T.du hk ho,jA T.fi hk ho]
def fZ(A:Rows)(k:Nat):Rows:=A.set k ((A.getD k []).map fun x=> -x)
theorem yu{A:Rows}{N w k:Nat}(hA:cy N w A)(hk:k<N):cy N w (fZ A k):=by
 refine⟨by unfold fZ;rw[List.length_set];exact hA.len,fun r hr=>?_⟩;unfold fZ at hr;rcases List.mem_or_eq_of_mem_set hr with h|rfl
 . exact hA.fO r h
 . rw[List.length_map];exact cz hA hk
theorem D2(r:Row)(c:Nat):(r.map fun x=> -x).getD c 0= -r.getD c 0:=by
 rw[List.getD_eq_getElem?_getD,List.getD_eq_getElem?_getD,List.getElem?_map];cases r[c]?<;>rfl
theorem jR{A:Rows}{N w k:Nat}(hA:cy N w A)(hk:k<N)(i c:Nat):g (fZ A k) i c=if i=k then-g A k c else g A i c:=by
 unfold g fZ;rw[kh (by have:=hA.len;omega)];by_cases h:i=k
 . rw[if_pos h,if_pos h,D2]
 . rw[if_neg h,if_neg h]
theorem Tn.neg{A0 A U C:Rows}{N w k:Nat}(T:Tn A0 A U C N w)(hk:k<N):Tn A0 (fZ A k) (fZ U k) (fZ C k) N w where
 isA:=yu T.isA hk
 du:=yu T.du hk
 fi:=yu T.fi hk
 ua:=fun i c hi hc=>by
  rw[jR T.isA hk];by_cases h:i=k
  . rw[if_pos h,T.ua k c hk hc,<-A5];exact aH fun m _=>by rw[jR T.du hk,if_pos h,Int.neg_mul]
  . rw[if_neg h,T.ua i c hi hc];exact aH fun m _=>by rw[jR T.du hk,if_neg h]
 ub:=fun i j hi hj=>by
  have e:S N (fun m=>g (fZ U k) i m*g (fZ C k) j m)=S N fun m=>(if i=k then-1 else 1)*(if j=k then-1 else 1)*(g U i m*g C j m):=aH fun m _=>by
   rw[jR T.du hk,jR T.fi hk];by_cases h1:i=k<;>by_cases h2:j=k<;>simp only[h1,h2,if_true,if_false]<;>grind
  rw[e,eN,T.ub i j hi hj];by_cases h1:i=k
  . by_cases h2:j=k
    . simp[h1,h2]
    . rw[eg (by omega)];simp
  . by_cases h2:j=k
    . rw[eg (by omega)];simp
    . simp[h1,h2]
 bu:=fun i j hi hj=>by
  rw[<-T.bu i j hi hj]
  exact aH fun m _=>by
   rw[jR T.du hk,jR T.fi hk];by_cases h:m=k
   . subst h;rw[if_pos rfl,if_pos rfl];grind
   . rw[if_neg h,if_neg h]
structure f9(A:Rows)(N top p:Nat)(L:List Nat):Prop where
 mem:∀k,k∈L↔top<=k/\k<N/\g A k p≠0
 ord:L.Pairwise fun i j=>(g A i p).natAbs<(g A j p).natAbs\/((g A i p).natAbs=(g A j p).natAbs/\i<j)
theorem uv{f:Nat->Nat}:∀ {l m:List Nat},(∀k,k∈l↔k∈m)->l.Pairwise (fun i j=>f i<f j\/(f i=f j/\i<j))->m.Pairwise (fun i j=>f i<f j\/(f i=f j/\i<j))->l=m
 | [],[],_,_,_=>rfl
 | [],b::m,h,_,_=>by have:=(h b).mpr (List.mem_cons_self ..);simp at this
 |a::l,[],h,_,_=>by have:=(h a).mp (List.mem_cons_self ..);simp at this
 |a::l,b::m,h,h1,h2=>by
  obtain⟨p1,q1⟩:=List.pairwise_cons.mp h1;obtain⟨p2,q2⟩:=List.pairwise_cons.mp h2
  have e:a=b:=by
   rcases List.mem_cons.mp ((h a).mp (List.mem_cons_self ..))with z|z
   . exact z
   . rcases List.mem_cons.mp ((h b).mpr (List.mem_cons_self ..))with y|y
     . exact y.symm
     . have x1:=p1 b y;have x2:=p2 a z;omega
  subst e;have na:a∉l:=fun z=>by have:=p1 a z;omega
  have nb:a∉m:=fun z=>by have:=p2 a z;omega
  rw[uv (l:=l) (m:=m) (fun k=>?_) q1 q2];have:=h k;rw[List.mem_cons,List.mem_cons]at this;constructor
  . intro z;rcases this.mp (.inr z)with y|y
    . subst y;exact absurd z na
    . exact y
  . intro z;rcases this.mpr (.inr z)with y|y
    . subst y;exact absurd z nb
    . exact y
theorem f9.unique{A:Rows}{N top p:Nat}{L M:List Nat}(h:f9 A N top p L)(h':f9 A N top p M):L=M:=
 uv (f:=fun i=>(g A i p).natAbs) (fun k=>(h.mem k).trans (h'.mem k).symm) h.ord h'.ord
structure B3 where
 A:Rows
 U:Rows
 C:Rows
def qn(x y:Int):Int:=(2*x+y).fdiv (2*y)
def jT(b:B3)(p k j:Nat):B3:=⟨a8 b.A k (qn (g b.A k p) (g b.A j p)) j,a8 b.U k (qn (g b.A k p) (g b.A j p)) j,a8 b.C j (-(qn (g b.A k p) (g b.A j p))) k⟩
def rk(N top p:Nat)(b c:B3):Prop:=∃(L:List Nat) (k j:Nat),f9 b.A N top p (L++[j,k])/\c=jT b p k j
theorem rk.unique{N top p:Nat}{b c d:B3}(h:rk N top p b c)(h':rk N top p b d):c=d:=by
 obtain⟨L,k,j,h1,rfl⟩:=h;obtain⟨M,k',j',h2,rfl⟩:=h';have e:=h1.unique h2;have e2:=congrArg List.reverse e;simp only[List.reverse_append,List.reverse_cons,List.reverse_nil,List.nil_append,List.cons_append,List.cons.injEq]at e2;rw[e2.1,e2.2.1]
inductive d6(N top p:Nat):B3->B3->Prop
 |refl (b:B3):d6 N top p b b
 |head {b c d:B3} (h:rk N top p b c) (t:d6 N top p c d):d6 N top p b d
theorem d6.tail{N top p:Nat}{b c d:B3}(h:d6 N top p b c)(t:rk N top p c d):d6 N top p b d:=by
 induction h with
 |refl b=>exact .head t (.refl _)
 |head x _ ih=>exact .head x (ih t)
def tO(N top p:Nat)(b:B3):Prop:=∃L,f9 b.A N top p L/\L.length<=1
theorem tO.stop{N top p:Nat}{b c:B3}(h:tO N top p b)(s:rk N top p b c):False:=by
 obtain⟨L,h1,h2⟩:=h;obtain⟨M,k,j,h3,_⟩:=s;rw[h1.unique h3]at h2;simp at h2
theorem d6.unique{N top p:Nat}{b c d:B3}(h:d6 N top p b c)(hc:tO N top p c)(h':d6 N top p b d)(hd:tO N top p d):c=d:=by
 induction h with
 |refl b=>
  cases h' with
  |refl=>rfl
  |head s _=>exact(hc.stop s).elim
 |head s _ ih=>
  cases h' with
  |refl=>exact(hd.stop s).elim
  |head s' t=>
   rw[s'.unique s]at t;exact ih hc t
def fM(X:Rows)(N top m:Nat):Prop:=∀i c,top<=i->i<N->(g X i c).natAbs<=m
def PR(f:Nat->Nat):Nat->Nat
 |0=>1
 |n+1=>PR f n*f n
theorem Cv{f:Nat->Nat}(h:∀i,1<=f i):∀n,1<=PR f n
 |0=>Nat.le_refl _
 |n+1=>Nat.mul_le_mul (Cv h n) (h n)
theorem x6{f f':Nat->Nat}:∀ {n:Nat},(∀i,i<n->f i=f' i)->PR f n=PR f' n
 |0,_=>rfl
 |n+1,h=>by
  show PR f n*f n=PR f' n*f' n;rw[x6 fun i hi=>h i (Nat.lt_succ_of_lt hi),h n (Nat.lt_succ_self n)]
theorem BA{f f':Nat->Nat}{k:Nat}:∀ {n:Nat},k<n->(∀i,i≠k->f i=f' i)->PR f n*f' k=PR f' n*f k
 |0,hk,_=>absurd hk (Nat.not_lt_zero _)
 |n+1,hk,h=>by
  show PR f n*f n*f' k=PR f' n*f' n*f k;by_cases e:k=n
  . subst e;rw[x6 (n:=k) fun i hi=>h i (Nat.ne_of_lt hi),Nat.mul_assoc,Nat.mul_comm (f k),Nat.mul_assoc]
  . have:=BA (n:=n) (by omega) h;rw[h n (Ne.symm e),Nat.mul_right_comm,this,Nat.mul_right_comm]
theorem Fi{f:Nat->Nat}{m top:Nat}(hm:1<=m):∀ {n:Nat},(∀i,i<n->i<top->f i<=1)->(∀i,i<n->f i<=m)->PR f n<=m^(n-top)
 |0,_,_=>by simp[PR]
 |n+1,h1,h2=>by
  have ih:=Fi hm (n:=n) (fun i hi=>h1 i (Nat.lt_succ_of_lt hi)) fun i hi=>h2 i (Nat.lt_succ_of_lt hi);show PR f n*f n<=_;by_cases ht:n<top
  . have z:n+1-top=n-top:=by omega
    rw[z];exact Nat.le_trans (Nat.mul_le_mul ih (h1 n (Nat.lt_succ_self n) ht)) (by rw[Nat.mul_one];exact Nat.le_refl _)
  . have z:n+1-top=(n-top)+1:=by omega
    rw[z,Nat.pow_succ];exact Nat.mul_le_mul ih (h2 n (Nat.lt_succ_self n))
def wt(A:Rows)(top p i:Nat):Nat:=if top<=i/\g A i p≠0 then 2*(g A i p).natAbs else 1
theorem C4(A:Rows)(top p i:Nat):1<=wt A top p i:=by
 unfold wt;split<;>omega
theorem zH{x y:Int}(hy:y≠0):2*(x-qn x y*y).natAbs<=y.natAbs:=by
 unfold qn;have h1:=Int.mul_fdiv_add_fmod (2*x+y) (2*y);have h2:(2*x+y).fmod (2*y)=2*x+y-2*y*(2*x+y).fdiv (2*y):=by omega
 generalize(2*x+y).fdiv (2*y)=q at*;have e:2*(x-q*y)=(2*x+y).fmod (2*y)-y:=by rw[h2];grind
 rcases Int.lt_or_gt_of_ne hy with h|h
 . have a0:=Int.neg_fmod_neg (2*x+y) (2*y);have a1:=Int.fmod_nonneg_of_pos (-(2*x+y)) (show 0< -(2*y) by omega);have a2:=Int.fmod_lt_of_pos (-(2*x+y)) (show 0< -(2*y) by omega);omega
 . have a1:=Int.fmod_nonneg_of_pos (2*x+y) (show 0<2*y by omega);have a2:=Int.fmod_lt_of_pos (2*x+y) (show 0<2*y by omega);omega
theorem Hi{x y:Int}(hy:y≠0)(hxy:y.natAbs<=x.natAbs):(1+(qn x y).natAbs)*(if x-qn x y*y≠0 then 2*(x-qn x y*y).natAbs else 1)<=2*x.natAbs:=by
 have h2:=zH (x:=x) hy;generalize qn x y=q at*;generalize hr:x-q*y=r at*;have hx:x=q*y+r:=by omega
 have hq:(q*y).natAbs=q.natAbs*y.natAbs:=Int.natAbs_mul ..;by_cases h0:r=0
 . rw[if_neg (fun z=>z h0),Nat.mul_one];subst h0;have hxa:x.natAbs=q.natAbs*y.natAbs:=by rw[<-hq,hx];simp
   have hy1:1<=y.natAbs:=by omega
   have hq1:1<=q.natAbs:=by
    rcases Nat.eq_zero_or_pos q.natAbs with z|z
    . rw[z,Nat.zero_mul]at hxa;omega
    . exact z
   have:q.natAbs<=q.natAbs*y.natAbs:=Nat.le_mul_of_pos_right _ hy1;omega
 . rw[if_pos h0];have hr1:1<=r.natAbs:=by omega
   have key:(1+q.natAbs)*r.natAbs<=x.natAbs:=by
    rcases Nat.lt_or_ge q.natAbs 2 with hlt|hge
    . rcases Nat.lt_or_ge q.natAbs 1 with h|h
      . have z:q.natAbs=0:=by omega
        have zq:q=0:=by omega
        subst zq;simp at hx;subst hx;simp
      . have z:q.natAbs=1:=by omega
        rw[z]at hq⊢;have:(q*y).natAbs=y.natAbs:=by omega
        have h3:x.natAbs=y.natAbs+r.natAbs\/x.natAbs+r.natAbs=y.natAbs\/x.natAbs+y.natAbs=r.natAbs:=by omega
        omega
    . have h3:(q*y).natAbs<=x.natAbs+r.natAbs:=by omega
      rw[hq]at h3;have h4:q.natAbs*(2*r.natAbs)<=q.natAbs*y.natAbs:=Nat.mul_le_mul_left _ h2;have h5:2*r.natAbs<=q.natAbs*r.natAbs:=Nat.mul_le_mul_right _ hge;have h6:q.natAbs*(2*r.natAbs)=q.natAbs*r.natAbs+q.natAbs*r.natAbs:=by rw[Nat.mul_left_comm];omega
      rw[Nat.add_mul,Nat.one_mul];omega
   have:(1+q.natAbs)*(2*r.natAbs)=2*((1+q.natAbs)*r.natAbs):=by rw[Nat.mul_left_comm]
   omega
structure ow(A0:Rows)(N w top p m:Nat)(b0 b:B3)(gr:Nat):Prop where
 tn:Tn A0 b.A b.U b.C N w
 up:∀i,i<top->b.A.getD i []=b0.A.getD i []/\b.U.getD i []=b0.U.getD i []/\b.C.getD i []=b0.C.getD i []
 lA:fM b.A N top (m*gr)
 lU:fM b.U N top (m*gr)
 lC:fM b.C N top (m*gr)
 zs:∀i c,top<=i->i<N->c<p->g b.A i c=0
 MD:gr*PR (wt b.A top p) N<=PR (wt b0.A top p) N
 pos:1<=gr
 LZ:b=b0\/∃j,top<=j/\j<N/\g b.A j p≠0
theorem td{X:Rows}{N w top k j m gr:Nat}{q:Int}(hX:cy N w X)(hk:k<N)(hj:j<N)(hkt:top<=k)(hjt:top<=j)(h:fM X N top (m*gr)):fM (a8 X k q j) N top (m*(gr*(1+q.natAbs))):=fun i c hi hN=>by
 rw[c7 hX hk hj];have e:m*(gr*(1+q.natAbs))=m*gr+q.natAbs*(m*gr):=by rw[<-Nat.mul_assoc,Nat.mul_add,Nat.mul_one,Nat.mul_comm (m*gr) q.natAbs]
 rw[e];by_cases hik:i=k
 . rw[if_pos hik];have h1:=h k c hkt hk;have h2:=h j c hjt hj;have h3:(q*g X j c).natAbs<=q.natAbs*(m*gr):=by rw[Int.natAbs_mul];exact Nat.mul_le_mul_left _ h2
   omega
 . rw[if_neg hik];have:=h i c hi hN;omega
theorem fA{X:Rows}{k j i:Nat}{q:Int}(hk:k<X.length)(h:i≠k):(a8 X k q j).getD i []=X.getD i []:=by
 unfold a8;rw[kh hk,if_neg h]
theorem ow.step{A0:Rows}{N w top p m gr:Nat}{b0 b:B3}{L:List Nat}{k j:Nat}(G:ow A0 N w top p m b0 b gr)(hp:p<w)(hL:f9 b.A N top p (L++[j,k])):
 ow A0 N w top p m b0 (jT b p k j) (gr*(1+(qn (g b.A k p) (g b.A j p)).natAbs))/\(g (jT b p k j).A k p).natAbs<(g b.A k p).natAbs/\(∀i,i≠k->g (jT b p k j).A i p=g b.A i p)/\top<=k/\k<N/\top<=j/\j<N/\j≠k/\g b.A j p≠0:=by
 obtain⟨hk1,hk2,hk3⟩:=(hL.mem k).mp (by simp);obtain⟨hj1,hj2,hj3⟩:=(hL.mem j).mp (by simp);have hord:=hL.ord;rw[List.pairwise_append]at hord;have o2:=(List.pairwise_cons.mp hord.2.1).1 k (by simp);have hjk:j≠k:=by intro z;subst z;omega
 have hle:(g b.A j p).natAbs<=(g b.A k p).natAbs:=by omega
 have gk:g (jT b p k j).A k p=g b.A k p-qn (g b.A k p) (g b.A j p)*g b.A j p:=by
  show g (a8 b.A k _ j) k p=_;rw[c7 G.tn.isA hk2 hj2,if_pos rfl]
 have gi:∀i,i≠k->g (jT b p k j).A i p=g b.A i p:=fun i hi=>by
  show g (a8 b.A k _ j) i p=_;rw[c7 G.tn.isA hk2 hj2,if_neg hi]
 have hrest:=zH (x:=g b.A k p) hj3;have hgrow:=Hi (x:=g b.A k p) hj3 hle;refine⟨⟨G.tn.take hk2 hj2 hjk,fun i hi=>?_,td G.tn.isA hk2 hj2 hk1 hj1 G.lA,td G.tn.du hk2 hj2 hk1 hj1 G.lU,?_,fun i c hi hN hc=>?_,?_,?_,.inr ⟨j,hj1,hj2,by rw[gi j hjk];exact hj3⟩⟩,?_,gi,hk1,hk2,hj1,hj2,hjk,hj3⟩
 . obtain⟨a1,a2,a3⟩:=G.up i hi;refine⟨(fA (by rw[G.tn.isA.len];exact hk2) (by omega)).trans a1,(fA (by rw[G.tn.du.len];exact hk2) (by omega)).trans a2,(fA (by rw[G.tn.fi.len];exact hj2) (by omega)).trans a3⟩
 . have:=td (q:= -(qn (g b.A k p) (g b.A j p))) G.tn.fi hj2 hk2 hj1 hk1 G.lC;rw[Int.natAbs_neg]at this;exact this
 . show g (a8 b.A k _ j) i c=0;rw[c7 G.tn.isA hk2 hj2];by_cases h:i=k
   . rw[if_pos h,G.zs k c hk1 hk2 hc,G.zs j c hj1 hj2 hc,Int.mul_zero];rfl
   . rw[if_neg h];exact G.zs i c hi hN hc
 . have e:=BA (f:=wt (jT b p k j).A top p) (f':=wt b.A top p) (k:=k) hk2 fun i hi=>by unfold wt;rw[gi i hi]
   have w1:wt b.A top p k=2*(g b.A k p).natAbs:=by unfold wt;rw[if_pos ⟨hk1,hk3⟩]
   have w2:(1+(qn (g b.A k p) (g b.A j p)).natAbs)*wt (jT b p k j).A top p k<=wt b.A top p k:=by
    rw[w1];unfold wt;rw[gk];by_cases h0:g b.A k p-qn (g b.A k p) (g b.A j p)*g b.A j p=0
    . rw[if_neg (fun z=>z.2 h0)];rw[if_neg (fun z=>z h0)]at hgrow;exact hgrow
    . rw[if_pos ⟨hk1,h0⟩];rw[if_pos h0]at hgrow;exact hgrow
   have hw:0<wt b.A top p k:=C4 _ _ _ _;refine Nat.le_of_mul_le_mul_right (c:=wt b.A top p k) ?_ hw
   have s1:gr*(1+(qn (g b.A k p) (g b.A j p)).natAbs)*PR (wt (jT b p k j).A top p) N*wt b.A top p k=gr*PR (wt b.A top p) N*((1+(qn (g b.A k p) (g b.A j p)).natAbs)*wt (jT b p k j).A top p k):=by
    rw[Nat.mul_assoc _ (PR _ N),e];simp only[Nat.mul_assoc,Nat.mul_left_comm]
   rw[s1];exact Nat.mul_le_mul G.MD w2
 . exact Nat.mul_pos G.pos (by omega)
 . rw[gk];omega
theorem ow.low{A0:Rows}{N w top p e gr:Nat}{b0 b:B3}(G:ow A0 N w top p (2^e) b0 b gr)(h0:fM b0.A N top (2^e)):2^e*gr<=2^((N-top+1)*(e+1)):=by
 have h1:gr<=PR (wt b0.A top p) N:=Nat.le_trans (Nat.le_mul_of_pos_right _ (Cv (C4 _ _ _) N)) G.MD
 have h2:PR (wt b0.A top p) N<=(2^(e+1))^(N-top):=Fi Nat.one_le_two_pow (fun i _ ht=>by unfold wt;rw[if_neg (by omega)];exact Nat.le_refl _) fun i hi=>by
  unfold wt;split
  . rename_i h;have:=h0 i p h.1 hi;rw[Nat.pow_succ];omega
  . exact Nat.one_le_two_pow
 refine Nat.le_trans (Nat.mul_le_mul_left _ (Nat.le_trans h1 h2)) ?_;rw[<-Nat.pow_mul,<-Nat.pow_add];refine Nat.pow_le_pow_right (by decide) ?_;have e1:(N-top+1)*(e+1)=(e+1)*(N-top)+(e+1):=by rw[Nat.add_mul,Nat.one_mul,Nat.mul_comm]
 rw[e1];omega
structure g6(A0:Rows)(N w:Nat)(b:B3)(top p:Nat)(ld:Nat->Nat)(e u:Nat):Prop where
 tn:Tn A0 b.A b.U b.C N w
 le:top<=N
 lo:fM b.A N top (2^e)/\fM b.U N top (2^e)/\fM b.C N top (2^e)
 hi:∀i c,i<top->(g b.A i c).natAbs<=2^u/\(g b.U i c).natAbs<=2^u/\(g b.C i c).natAbs<=2^u
 zs:∀i c,top<=i->i<N->c<p->g b.A i c=0
 lead:∀i,i<top->ld i<p/\0<g b.A i (ld i)/\∀c,c<ld i->g b.A i c=0
 mono:∀i j,i<j->j<top->ld i<ld j
 red:∀i j,i<j->j<top->0<=g b.A i (ld j)/\g b.A i (ld j)<g b.A j (ld j)
theorem g6.B9{A0:Rows}{N w top p e u:Nat}{b:B3}{ld:Nat->Nat}(S:g6 A0 N w b top p ld e u):ow A0 N w top p (2^e) b b 1:=
 ⟨S.tn,fun _ _=>⟨rfl,rfl,rfl⟩,by rw[Nat.mul_one];exact S.lo.1,by rw[Nat.mul_one];exact S.lo.2.1,by rw[Nat.mul_one];exact S.lo.2.2,S.zs,by rw[Nat.one_mul];exact Nat.le_refl _,Nat.le_refl _,.inl rfl⟩
theorem g6.skip{A0:Rows}{N w top p e u:Nat}{b:B3}{ld:Nat->Nat}(S:g6 A0 N w b top p ld e u)(h:f9 b.A N top p []):g6 A0 N w b top (p+1) ld e u:=
 ⟨S.tn,S.le,S.lo,S.hi,fun i c h1 h2 h3=>by
  by_cases hc:c=p
  . subst hc;exact Classical.byContradiction fun z=>absurd ((h.mem i).mpr ⟨h1,h2,z⟩) (by simp)
  . exact S.zs i c h1 h2 (by omega),fun i hi=>⟨Nat.lt_succ_of_lt (S.lead i hi).1,(S.lead i hi).2⟩,S.mono,S.red⟩
def setB(b:B3)(p top r:Nat):B3:=
 if g (bg b.A top r) top p<0 then⟨fZ (bg b.A top r) top,fZ (bg b.U top r) top,fZ (bg b.C top r) top⟩else⟨bg b.A top r,bg b.U top r,bg b.C top r⟩
theorem sN{X:Rows}{N w top r m:Nat}(hX:cy N w X)(ht:top<N)(hr:r<N)(hrt:top<=r)(h:fM X N top m):fM (bg X top r) N top m:=fun i c hi hN=>by
 rw[jA hX ht hr];refine h _ c ?_ (qo ht hr hN);unfold sw;split
 . exact hrt
 . split
   . exact Nat.le_refl _
   . exact hi
theorem x3{X:Rows}{N w top m:Nat}(hX:cy N w X)(ht:top<N)(h:fM X N top m):fM (fZ X top) N top m:=fun i c hi hN=>by
 rw[jR hX ht];split
 . rw[Int.natAbs_neg];exact h top c (Nat.le_refl _) ht
 . exact h i c hi hN
theorem sL{X:Rows}{N w top r i:Nat}(hX:cy N w X)(ht:top<N)(hr:r<N)(hrt:top<=r)(hi:i<top):(bg X top r).getD i []=X.getD i []:=by
 rw[xl (by have:=hX.len;omega) (by have:=hX.len;omega)];unfold sw;rw[if_neg (by omega),if_neg (by omega)]
theorem xN{X:Rows}{N w top i:Nat}(hX:cy N w X)(ht:top<N)(hi:i<top):(fZ X top).getD i []=X.getD i []:=by
 unfold fZ;rw[kh (by have:=hX.len;omega),if_neg (by omega)]
structure ja(A0:Rows)(N w top p m:Nat)(b0 b:B3):Prop where
 tn:Tn A0 b.A b.U b.C N w
 up:∀i,i<top->b.A.getD i []=b0.A.getD i []/\b.U.getD i []=b0.U.getD i []/\b.C.getD i []=b0.C.getD i []
 lo:fM b.A N top m/\fM b.U N top m/\fM b.C N top m
 zs:∀i c,top<=i->i<N->c<p->g b.A i c=0
 tp:0<g b.A top p
 z1:∀i,top<i->i<N->g b.A i p=0
theorem ow.set{A0:Rows}{N w top p m gr r:Nat}{b0 b:B3}(G:ow A0 N w top p m b0 b gr)(hL:f9 b.A N top p [r]):ja A0 N w top p (m*gr) b0 (setB b p top r)/\top<=r/\r<N:=by
 obtain⟨hr1,hr2,hr3⟩:=(hL.mem r).mp (by simp);have ht:top<N:=by omega
 have z:∀i,top<=i->i<N->i≠r->g b.A i p=0:=fun i h1 h2 h3=>Classical.byContradiction fun y=>h3 (by simpa using(hL.mem i).mpr ⟨h1,h2,y⟩);have swg:∀i c,g (bg b.A top r) i c=g b.A (sw top r i) c:=fun i c=>jA G.tn.isA ht hr2 i c;have gt:g (bg b.A top r) top p=g b.A r p:=by rw[swg];unfold sw;rw[if_pos rfl]
 have T1:=G.tn.Fm ht hr2
 have z1:∀i,top<i->i<N->g (bg b.A top r) i p=0:=fun i h1 h2=>by
  rw[swg];unfold sw;rw[if_neg (by omega)];by_cases h:i=r
  . rw[if_pos h];exact z top (Nat.le_refl _) ht (by omega)
  . rw[if_neg h];exact z i (by omega) h2 h
 have zs:∀i c,top<=i->i<N->c<p->g (bg b.A top r) i c=0:=fun i c h1 h2 h3=>by
  rw[swg];refine G.zs _ c ?_ (qo ht hr2 h2) h3;unfold sw;split
  . exact hr1
  . split
    . exact Nat.le_refl _
    . exact h1
 have up:∀i,i<top->(bg b.A top r).getD i []=b0.A.getD i []/\(bg b.U top r).getD i []=b0.U.getD i []/\(bg b.C top r).getD i []=b0.C.getD i []:=fun i hi=>by
  obtain⟨a1,a2,a3⟩:=G.up i hi;exact⟨(sL G.tn.isA ht hr2 hr1 hi).trans a1,(sL G.tn.du ht hr2 hr1 hi).trans a2,(sL G.tn.fi ht hr2 hr1 hi).trans a3⟩
 have lo:=And.intro (sN G.tn.isA ht hr2 hr1 G.lA) (And.intro (sN G.tn.du ht hr2 hr1 G.lU) (sN G.tn.fi ht hr2 hr1 G.lC));refine⟨?_,hr1,hr2⟩;unfold setB;by_cases hs:g (bg b.A top r) top p<0
 . rw[if_pos hs];refine⟨T1.neg ht,fun i hi=>?_,⟨x3 T1.isA ht lo.1,x3 T1.du ht lo.2.1,x3 T1.fi ht lo.2.2⟩,fun i c h1 h2 h3=>?_,?_,fun i h1 h2=>?_⟩
   . obtain⟨a1,a2,a3⟩:=up i hi;exact⟨(xN T1.isA ht hi).trans a1,(xN T1.du ht hi).trans a2,(xN T1.fi ht hi).trans a3⟩
   . show g (fZ (bg b.A top r) top) i c=0;rw[jR T1.isA ht];split
     . rw[zs top c (Nat.le_refl _) ht h3];rfl
     . exact zs i c h1 h2 h3
   . show 0<g (fZ (bg b.A top r) top) top p;rw[jR T1.isA ht,if_pos rfl];omega
   . show g (fZ (bg b.A top r) top) i p=0;rw[jR T1.isA ht,if_neg (by omega)];exact z1 i h1 h2
 . rw[if_neg hs];exact⟨T1,up,lo,zs,by show 0<g (bg b.A top r) top p;rw[gt]at hs⊢;omega,z1⟩
def ku(p top:Nat):Nat->B3->B3
 |0,b=>b
 |k+1,b=>
  let c:=ku p top k b
  ⟨a8 c.A k ((g c.A k p).fdiv (g c.A top p)) top,a8 c.U k ((g c.A k p).fdiv (g c.A top p)) top,a8 c.C top (-((g c.A k p).fdiv (g c.A top p))) k⟩
structure pS(A0:Rows)(N w top p e u:Nat)(b:B3)(k:Nat)(c:B3):Prop where
 tn:Tn A0 c.A c.U c.C N w
 rA:∀i,k<=i->c.A.getD i []=b.A.getD i []/\c.U.getD i []=b.U.getD i []
 rC:∀i,i≠top->c.C.getD i []=b.C.getD i []
 ah:∀i q,i<k->q<p->g c.A i q=g b.A i q
 rd:∀i,i<k->0<=g c.A i p/\g c.A i p<g c.A top p
 sz:∀i q,i<k->(g c.A i q).natAbs<=2^(u+e+1)/\(g c.U i q).natAbs<=2^(u+e+1)
 sC:∀q,(g c.C top q).natAbs<=2^e+k*2^(u+u)
theorem jb(a:Int){b:Int}(hb:0<b):(a.fdiv b).natAbs<=a.natAbs:=by
 have h1:=Int.mul_fdiv_add_fmod a b;have h2:=Int.fmod_nonneg_of_pos a hb;have h3:=Int.fmod_lt_of_pos a hb;generalize a.fdiv b=q at*;rcases Int.lt_trichotomy q 0 with h|h|h
 . have h4:0<=(b-1)*(-q-1):=Int.mul_nonneg (by omega) (by omega);have e:(b-1)*(-q-1)= -(b*q)-b+q+1:=by grind
   omega
 . subst h;simp
 . have:q<=b*q:=by
    have:0<=(b-1)*q:=Int.mul_nonneg (by omega) (by omega);grind
   omega
theorem pS.step{A0:Rows}{N w top p e u k:Nat}{b c:B3}(I:pS A0 N w top p e u b k c)(hk:k<top)(ht:top<N)(hp:p<w)(htp:0<g b.A top p)(hz:∀q,q<p->g b.A top q=0)
 (hlo:∀q,(g b.A top q).natAbs<=2^e/\(g b.U top q).natAbs<=2^e) (hhi:∀i q,i<top->(g b.A i q).natAbs<=2^u/\(g b.U i q).natAbs<=2^u/\(g b.C i q).natAbs<=2^u):
 pS A0 N w top p e u b (k+1) ⟨a8 c.A k ((g c.A k p).fdiv (g c.A top p)) top,a8 c.U k ((g c.A k p).fdiv (g c.A top p)) top,a8 c.C top (-((g c.A k p).fdiv (g c.A top p))) k⟩:=by
 have hkN:k<N:=by omega
 have gA:∀i q,k<=i->g c.A i q=g b.A i q:=fun i q hi=>by unfold g;rw[(I.rA i hi).1]
 have gU:∀i q,k<=i->g c.U i q=g b.U i q:=fun i q hi=>by unfold g;rw[(I.rA i hi).2]
 have gC:∀i q,i≠top->g c.C i q=g b.C i q:=fun i q hi=>by unfold g;rw[I.rC i hi]
 have qe:((g c.A k p).fdiv (g c.A top p)).natAbs<=2^u:=by
  rw[gA k p (Nat.le_refl _),gA top p (by omega)];exact Nat.le_trans (jb _ htp) (hhi k p hk).1
 have hq:∀x:Int,x.natAbs<=2^e->((g c.A k p).fdiv (g c.A top p)*x).natAbs<=2^(u+e):=fun x hx=>by
  rw[Int.natAbs_mul,Nat.pow_add];exact Nat.mul_le_mul qe hx
 have le1:2^u<=2^(u+e):=Nat.pow_le_pow_right (by decide) (by omega);refine⟨I.tn.take hkN ht (by omega),fun i hi=>?_,fun i hi=>?_,fun i q hi hqp=>?_,fun i hi=>?_,fun i q hi=>?_,fun q=>?_⟩
 . exact⟨(fA (by rw[I.tn.isA.len];exact hkN) (by omega)).trans (I.rA i (by omega)).1,(fA (by rw[I.tn.du.len];exact hkN) (by omega)).trans (I.rA i (by omega)).2⟩
 . exact(fA (by rw[I.tn.fi.len];exact ht) hi).trans (I.rC i hi)
 . show g (a8 c.A k _ top) i q=_;rw[c7 I.tn.isA hkN ht];split
   . rename_i h;rw[gA top q (by omega),hz q hqp,Int.mul_zero,gA k q (Nat.le_refl _),h];omega
   . exact I.ah i q (by omega) hqp
 . show 0<=g (a8 c.A k _ top) i p/\g (a8 c.A k _ top) i p<g (a8 c.A k _ top) top p;rw[c7 I.tn.isA hkN ht,c7 I.tn.isA hkN ht,if_neg (show¬top=k by omega)];split
   . have h1:=Int.mul_fdiv_add_fmod (g c.A k p) (g c.A top p);have htp':0<g c.A top p:=by rw[gA top p (by omega)];exact htp
     have h2:=Int.fmod_nonneg_of_pos (g c.A k p) htp';have h3:=Int.fmod_lt_of_pos (g c.A k p) htp';rw[Int.mul_comm]at h1;omega
   . exact I.rd i (by omega)
 . show(g (a8 c.A k _ top) i q).natAbs<=_/\(g (a8 c.U k _ top) i q).natAbs<=_;rw[c7 I.tn.isA hkN ht,c7 I.tn.du hkN ht];split
   . have a1:=hq (g c.A top q) (by rw[gA top q (by omega)];exact(hlo q).1);have a2:=hq (g c.U top q) (by rw[gU top q (by omega)];exact(hlo q).2);rw[gA k q (Nat.le_refl _),gU k q (Nat.le_refl _)];have b1:=(hhi k q hk).1;have b2:=(hhi k q hk).2.1;rw[Nat.pow_succ];omega
   . exact I.sz i q (by omega)
 . show(g (a8 c.C top _ k) top q).natAbs<=_;rw[c7 I.tn.fi ht hkN,if_pos rfl,gC k q (by omega),Int.neg_mul];have a1:=I.sC q
   have a2:((g c.A k p).fdiv (g c.A top p)*g b.C k q).natAbs<=2^(u+u):=by
    rw[Int.natAbs_mul,Nat.pow_add];exact Nat.mul_le_mul qe (hhi k q hk).2.2
   rw[Nat.add_mul,Nat.one_mul];omega
theorem pS.start{A0:Rows}{N w top p e u:Nat}{b:B3}(T:Tn A0 b.A b.U b.C N w)(h:∀q,(g b.C top q).natAbs<=2^e):pS A0 N w top p e u b 0 b:=
 ⟨T,fun _ _=>⟨rfl,rfl⟩,fun _ _=>rfl,fun _ _ h=>absurd h (Nat.not_lt_zero _),fun _ h=>absurd h (Nat.not_lt_zero _),fun _ _ h=>absurd h (Nat.not_lt_zero _),fun q=>by rw[Nat.zero_mul];exact h q⟩
theorem ja.next{A0:Rows}{N w top p e u e' u':Nat}{b0 b c:B3}{ld:Nat->Nat}(S:g6 A0 N w b0 top p ld e u)(s:ja A0 N w top p (2^e') b0 b)(ht:top<N)(I:pS A0 N w top p e' u b top c)(hN:N<=8)
 (h1:u+e'+1<=u') (h2:u+u+4<=u'):g6 A0 N w c (top+1) (p+1) (fun i=>if i=top then p else ld i) e' u':=by
 have hup:∀i q,i<top->g b.A i q=g b0.A i q:=fun i q hi=>by unfold g;rw[(s.up i hi).1]
 have hA:∀i q,top<=i->g c.A i q=g b.A i q:=fun i q hi=>by unfold g;rw[(I.rA i hi).1]
 have hU:∀i q,top<=i->g c.U i q=g b.U i q:=fun i q hi=>by unfold g;rw[(I.rA i hi).2]
 have hC:∀i q,i≠top->g c.C i q=g b.C i q:=fun i q hi=>by unfold g;rw[I.rC i hi]
 have le:∀ {a x:Nat},a<=2^x->x<=u'->a<=2^u':=fun h hx=>Nat.le_trans h (Nat.pow_le_pow_right (by decide) hx);refine⟨I.tn,ht,⟨fun i q hi hN=>?_,fun i q hi hN=>?_,fun i q hi hN=>?_⟩,fun i q hi=>?_,fun i q hi hN hq=>?_,fun i hi=>?_,fun i j hij hj=>?_,fun i j hij hj=>?_⟩
 . rw[hA i q (by omega)];exact s.lo.1 i q (by omega) hN
 . rw[hU i q (by omega)];exact s.lo.2.1 i q (by omega) hN
 . rw[hC i q (by omega)];exact s.lo.2.2 i q (by omega) hN
 . by_cases h:i=top
   . subst h;refine⟨?_,?_,?_⟩
     . rw[hA i q (Nat.le_refl _)];exact le (s.lo.1 i q (Nat.le_refl _) ht) (by omega)
     . rw[hU i q (Nat.le_refl _)];exact le (s.lo.2.1 i q (Nat.le_refl _) ht) (by omega)
     . have h3:=I.sC q;have h4:i*2^(u+u)<=2^(u+u+3):=by rw[Nat.pow_add _ _ 3,Nat.mul_comm];exact Nat.mul_le_mul_left _ (by omega)
       have h5:2^(u+u+3)*2<=2^u':=by rw[<-Nat.pow_succ];exact Nat.pow_le_pow_right (by decide) h2
       have h6:2^e'*2<=2^u':=by rw[<-Nat.pow_succ];exact Nat.pow_le_pow_right (by decide) (by omega)
       omega
   . have hi':i<top:=by omega
     refine⟨le (I.sz i q hi').1 h1,le (I.sz i q hi').2 h1,?_⟩;rw[hC i q h];have:g b.C i q=g b0.C i q:=by unfold g;rw[(s.up i hi').2.2]
     rw[this];exact le (S.hi i q hi').2.2 (by omega)
 . rw[hA i q (by omega)];by_cases h:q=p
   . rw[h];exact s.z1 i (by omega) hN
   . exact s.zs i q (by omega) hN (by omega)
 . by_cases h:i=top
   . subst h;rw[if_pos rfl];refine⟨Nat.lt_succ_self p,?_,fun q hq=>?_⟩
     . rw[hA i p (Nat.le_refl _)];exact s.tp
     . rw[hA i q (Nat.le_refl _)];exact s.zs i q (Nat.le_refl _) ht hq
   . have hi':i<top:=by omega
     rw[if_neg h];obtain⟨a1,a2,a3⟩:=S.lead i hi';refine⟨Nat.lt_succ_of_lt a1,?_,fun q hq=>?_⟩
     . rw[I.ah i _ hi' a1,hup i _ hi'];exact a2
     . rw[I.ah i _ hi' (Nat.lt_trans hq a1),hup i _ hi'];exact a3 q hq
 . by_cases h:j=top
   . rw[if_pos h,if_neg (by omega)];exact(S.lead i (by omega)).1
   . rw[if_neg h,if_neg (by omega)];exact S.mono i j hij (by omega)
 . by_cases h:j=top
   . subst h;rw[if_pos rfl];exact I.rd i hij
   . have hj':j<top:=by omega
     rw[if_neg h];have:=S.red i j hij hj';have hl:=(S.lead j hj').1;rw[I.ah i _ (by omega) hl,I.ah j _ hj' hl,hup i _ (by omega),hup j _ hj'];exact this
theorem Tn.start{A:Rows}{N w:Nat}(hA:cy N w A):Tn A A (units N) (units N) N w where
 isA:=hA
 du:=sQ N
 fi:=sQ N
 ua:=fun i c hi hc=>by
  rw[<-oV hi fun k=>g A k c];exact aH fun m hm=>by rw[kJ hi hm]
 ub:=fun i j hi hj=>by
  rw[u6 i j,<-oV hi fun k=>dl j k]
  . exact aH fun m hm=>by rw[kJ hi hm,kJ hj hm]
 bu:=fun i j hi hj=>by
  rw[<-qV hi fun k=>dl k j];exact aH fun m hm=>by rw[kJ hm hi,kJ hm hj,Int.mul_comm]
theorem g6.start{A:Rows}{N w e:Nat}(hA:cy N w A)(h:fM A N 0 (2^e)):g6 A N w ⟨A,units N,units N⟩ 0 0 (fun _=>0) e 0:=by
 have hu:fM (units N) N 0 (2^e):=fun i c _ hi=>by
  by_cases hc:c<N
  . rw[kJ hi hc];unfold dl;split
    . exact Nat.one_le_two_pow
    . exact Nat.zero_le _
  . unfold g;rw[j8 (l:=(units N).getD i []) (by rw[cz (sQ N) hi];omega)];exact Nat.zero_le _
 exact⟨Tn.start hA,Nat.zero_le _,⟨h,hu,hu⟩,fun _ _ h=>absurd h (Nat.not_lt_zero _),fun _ _ _ _ h=>absurd h (Nat.not_lt_zero _),fun _ h=>absurd h (Nat.not_lt_zero _),fun _ _ _ h=>absurd h (Nat.not_lt_zero _),fun _ _ _ h=>absurd h (Nat.not_lt_zero _)⟩
def SU(f:Nat->Nat):Nat->Nat
 |0=>0
 |n+1=>SU f n+f n
theorem Fd{f f':Nat->Nat}:∀ {n:Nat},(∀i,i<n->f' i<=f i)->SU f' n<=SU f n
 |0,_=>Nat.le_refl _
 |n+1,h=>Nat.add_le_add (Fd fun i hi=>h i (Nat.lt_succ_of_lt hi)) (h n (Nat.lt_succ_self n))
theorem Ft{f f':Nat->Nat}{k:Nat}(hlt:f' k<f k):∀ {n:Nat},k<n->(∀i,i<n->f' i<=f i)->SU f' n<SU f n
 |0,hk,_=>absurd hk (Nat.not_lt_zero _)
 |n+1,hk,h=>by
  by_cases e:k=n
  . subst e;exact Nat.add_lt_add_of_le_of_lt (Fd fun i hi=>h i (Nat.lt_succ_of_lt hi)) hlt
  . exact Nat.add_lt_add_of_lt_of_le (Ft hlt (by omega) fun i hi=>h i (Nat.lt_succ_of_lt hi)) (h n (Nat.lt_succ_self n))
def mu(A:Rows)(N p:Nat):Nat:=SU (fun i=>(g A i p).natAbs) N
inductive zW(N p:Nat):Nat->B3->Nat->B3->Prop
 |none {top:Nat} {b:B3} (h:f9 b.A N top p []):zW N p top b top b
 |one {top r:Nat} {b c:B3} (h:d6 N top p b c) (l:f9 c.A N top p [r]):zW N p top b (top+1) (ku p top top (setB c p top r))
theorem zW.unique{N p t t1 t2:Nat}{b b1 b2:B3}(h:zW N p t b t1 b1)(h':zW N p t b t2 b2):t1=t2/\b1=b2:=by
 have no:∀ {c:B3} {r:Nat},f9 b.A N t p []->d6 N t p b c->f9 c.A N t p [r]->False:=fun{c r} h g l=>by
  cases g with
  |refl=>have:=h.unique l;cases this
  |head s _=>exact tO.stop ⟨[],h,by simp⟩ s
 cases h with
 |none h=>
  cases h' with
  |none _=>exact⟨rfl,rfl⟩
  |one g l=>exact(no h g l).elim
 |one g l=>
  cases h' with
  |none h=>exact(no h g l).elim
  |one g' l'=>
   have e:=g.unique ⟨_,l,by simp⟩ g' ⟨_,l',by simp⟩;subst e;have e2:=l.unique l';cases e2;exact⟨rfl,rfl⟩
inductive jG(A:Rows)(N:Nat):Nat->Nat->B3->Prop
 |start:jG A N 0 0 ⟨A,units N,units N⟩
 |next {p t t':Nat} {b b':B3} (h:jG A N p t b) (c:zW N p t b t' b'):jG A N (p+1) t' b'
theorem jG.unique{A:Rows}{N:Nat}:∀ {p t1 t2:Nat} {b1 b2:B3},jG A N p t1 b1->jG A N p t2 b2->t1=t2/\b1=b2
 |0,_,_,_,_,.start,.start=>⟨rfl,rfl⟩
 |p+1,_,_,_,_,.next h c,.next h' c'=>by
  obtain⟨rfl,rfl⟩:=jG.unique h h';exact c.unique c'
def Ez(N e0:Nat):Nat->Nat
 |0=>e0
 |t+1=>(N-t+1)*(Ez N e0 t+1)
def Vz(N e0:Nat):Nat->Nat
 |0=>0
 |t+1=>Vz N e0 t+Vz N e0 t+Ez N e0 (t+1)+5
theorem Ik:∀N,N<9->∀t,t<N+1->Ez N 48 t<=50000000/\Vz N 48 t<=60000000:=by decide+kernel
def jZ(X:Rows)(n w:Nat)(v:Nat->Int):Prop:=∃z:Nat->Int,∀c,c<w->v c=S n fun k=>z k*g X k c
theorem jZ.row{X:Rows}{n w k:Nat}(hk:k<n):jZ X n w (g X k):=⟨fun i=>dl k i,fun c _=>(oV hk fun i=>g X i c).symm⟩
structure eO(X:Rows)(n w:Nat)(ld:Nat->Nat):Prop where
 lead:∀i,i<n->ld i<w/\0<g X i (ld i)/\∀c,c<ld i->g X i c=0
 mono:∀i j,i<j->j<n->ld i<ld j
theorem eO.inj{X:Rows}{n w:Nat}{ld:Nat->Nat}(s:eO X n w ld){i j:Nat}(hi:i<n)(hj:j<n)(h:ld i=ld j):i=j:=by
 rcases Nat.lt_trichotomy i j with q|q|q
 . exact absurd h (Nat.ne_of_lt (s.mono i j q hj))
 . exact q
 . exact absurd h.symm (Nat.ne_of_lt (s.mono j i q hi))
theorem d6.B9{A0:Rows}{N w top p m:Nat}{b0 b c:B3}(hp:p<w)(h:d6 N top p b c):∀ {gr:Nat},ow A0 N w top p m b0 b gr->∃gr',ow A0 N w top p m b0 c gr':=by
 induction h with
 |refl b=>exact fun G=>⟨_,G⟩
 |head s _ ih=>
  intro gr G;obtain⟨L,k,j,hL,rfl⟩:=s;exact ih (G.step hp hL).1
theorem ja.mono{A0:Rows}{N w top p m m':Nat}{b0 b:B3}(s:ja A0 N w top p m b0 b)(h:m<=m'):ja A0 N w top p m' b0 b:=
 ⟨s.tn,s.up,⟨fun i c h1 h2=>Nat.le_trans (s.lo.1 i c h1 h2) h,fun i c h1 h2=>Nat.le_trans (s.lo.2.1 i c h1 h2) h,fun i c h1 h2=>Nat.le_trans (s.lo.2.2 i c h1 h2) h⟩,s.zs,s.tp,s.z1⟩
theorem ja.NV{A0:Rows}{N w top p m:Nat}{b0 b:B3}(s:ja A0 N w top p m b0 b){i:Nat}(hi:i<top)(q:Nat):g b.A i q=g b0.A i q/\g b.U i q=g b0.U i q/\g b.C i q=g b0.C i q:=by
 obtain⟨a1,a2,a3⟩:=s.up i hi;unfold g;rw[a1,a2,a3];exact⟨rfl,rfl,rfl⟩
def nl(A:Rows)(N t p:Nat):Nat:=SU (fun i=>if t<=i/\g A i p≠0 then 1 else 0) N
theorem g6.in{A:Rows}{N w top e u:Nat}{c:B3}{ld:Nat->Nat}(s:g6 A N w c top w ld e u)(k:Nat)(hk:k<top):jZ A N w (g c.A k):=
 ⟨g c.U k,fun q hq=>s.tn.ua k q (Nat.lt_of_lt_of_le hk s.le) hq⟩
theorem fW{X:Rows}{n i q:Nat}(h:i<n):g (X.take n) i q=g X i q:=by
 unfold g;rw[List.getD_eq_getElem?_getD (l:=X.take n),List.getD_eq_getElem?_getD (l:=X),List.getElem?_take_of_lt h]
theorem jZ.M8{X:Rows}{n w:Nat}{u v:Nat->Int}(x:Int)(hu:jZ X n w u)(hv:jZ X n w v):jZ X n w fun c=>u c+x*v c:=by
 obtain⟨y,hy⟩:=hu;obtain⟨z,hz⟩:=hv;refine⟨fun k=>y k+x*z k,fun c hc=>?_⟩;show u c+x*v c=S n fun k=>(y k+x*z k)*g X k c;rw[hy c hc,hz c hc,<-eN,<-iD];exact aH fun k _=>by rw[Int.add_mul,Int.mul_assoc]
theorem jZ.eq{X:Rows}{n w:Nat}{u v:Nat->Int}(hu:jZ X n w u)(h:∀c,c<w->v c=u c):jZ X n w v:=by
 obtain⟨y,hy⟩:=hu;exact⟨y,fun c hc=>(h c hc).trans (hy c hc)⟩
theorem jZ.zero{X:Rows}{n w:Nat}{v:Nat->Int}(h:∀c,c<w->v c=0):jZ X n w v:=
 ⟨fun _=>0,fun c hc=>by rw[h c hc,lO fun k _=>Int.zero_mul _]⟩
theorem ot{X:Rows}{r:Row}{k:Nat}(hk:k<=X.length)(i:Nat):(X.take k++r::X.drop k).getD i []=if i<k then X.getD i []else if i=k then r else X.getD (i-1) []:=by
 have lt:(X.take k).length=k:=by rw[List.length_take];omega
 rw[List.getD_eq_getElem?_getD,List.getD_eq_getElem?_getD,List.getD_eq_getElem?_getD];by_cases h:i<k
 . rw[if_pos h,List.getElem?_append_left (by rw[lt];exact h),List.getElem?_take_of_lt h]
 . rw[if_neg h,List.getElem?_append_right (by rw[lt];omega),lt];by_cases h2:i=k
   . rw[if_pos h2,h2,Nat.sub_self];rfl
   . rw[if_neg h2];have:i-k=(i-1-k)+1:=by omega
     rw[this,List.getElem?_cons_succ,List.getElem?_drop];congr 2;omega
structure sJ(F:Rows)(w:Nat)(ld:Nat->Nat)(row:Nat->Int)(i:Nat)(o:Int)(L:Nat->Int):Prop where
 pos:0<o
 sum:jZ F i w fun c=>o*row c-L c
 off:∀k,k<i->L (ld k)=0
 least:∀(m:Int) (v:Nat->Int),jZ F i w v->(∀k,k<i->m*row (ld k)=v (ld k))->o∣m
structure xf(F:Rows)(n w:Nat)(ld:Nat->Nat)(row:Nat->Int)(i:Nat)(L:Nat->Int):Prop where
 sum:jZ F n w fun c=>row c-L c
 red:∀k,k<i->0<=L (ld k)/\L (ld k)<g F k (ld k)
theorem xf.start{F:Rows}{n w:Nat}{ld:Nat->Nat}{row:Nat->Int}:xf F n w ld row 0 row:=⟨jZ.zero fun c _=>Int.sub_self _,fun _ h=>absurd h (Nat.not_lt_zero _)⟩
theorem xf.step{F:Rows}{n w i:Nat}{ld:Nat->Nat}{row L:Nat->Int}(s:eO F n w ld)(hi:i<n)(f:xf F n w ld row i L):xf F n w ld row (i+1) fun c=>L c-(L (ld i)).fdiv (g F i (ld i))*g F i c:=by
 obtain⟨l1,l2,l3⟩:=s.lead i hi;refine⟨(f.sum.M8 ((L (ld i)).fdiv (g F i (ld i))) (jZ.row hi)).eq fun c _=>by omega,fun k hk=>?_⟩;show 0<=L (ld k)-_*g F i (ld k)/\L (ld k)-_*g F i (ld k)<_;rcases Nat.lt_or_ge k i with h|h
 . rw[l3 _ (s.mono k i h hi),Int.mul_zero,Int.sub_zero];exact f.red k h
 . have:k=i:=Nat.le_antisymm (Nat.le_of_lt_succ hk) h;subst this;have e:=Int.fmod_add_mul_fdiv (L (ld k)) (g F k (ld k));have a:=Int.fmod_nonneg_of_pos (L (ld k)) l2;have b:=Int.fmod_lt_of_pos (L (ld k)) l2;rw[Int.mul_comm]at e;omega
theorem xF{K m:Nat}:∀ {n:Nat} {M:Fn},n<=K->(∀r c,r<n->c<n->(M r c).natAbs<=m)->(D n M).natAbs<=(K*m)^n
 |0,_,_,_=>by simp[D]
 |n+1,M,hn,h=>by
  rw[c6]
  have key:∀j,j<n+1->(sg j*M 0 j*D n fun r c=>M (r+1) (sk j c)).natAbs<=m*(K*m)^n:=fun j hj=>by
   have a:=xF (K:=K) (m:=m) (n:=n) (M:=fun r c=>M (r+1) (sk j c)) (by omega) fun r c hr hc=>h (r+1) (sk j c) (by omega) (jI hc);have b:=h 0 j (by omega) hj;have s:(sg j).natAbs=1:=by unfold sg;split<;>rfl
   rw[Int.natAbs_mul,Int.natAbs_mul,s,Nat.one_mul];exact Nat.mul_le_mul b a
  refine Nat.le_trans (wz key) ?_;rw[Nat.pow_succ,Nat.mul_comm ((K*m)^n),Nat.mul_assoc];exact Nat.mul_le_mul_right _ hn
theorem pick{t N:Nat}{U B:Fn}(h:∀k l,k<t->l<t->S N (fun i=>U k i*B i l)=dl k l):∃I:Nat->Nat,(∀k,k<t->I k<N)/\D t (fun k l=>B (I k) l)≠0:=by
 apply Classical.byContradiction;intro no
 have go:∀s,s<=t->∀I:Nat->Nat,(∀k,k<t->s<=k->I k<N)->D t (fun k l=>if k<s then dl k l else B (I k) l)=0:=by
  intro s;induction s with
  |zero=>
   intro _ I hI;exact Classical.byContradiction fun z=>no ⟨I,fun k hk=>hI k hk (Nat.zero_le _),z⟩
  |succ s ih=>
   intro hs I hI
   have e:D t (fun k l=>if k<s+1 then dl k l else B (I k) l)=D t (upd (fun k l=>if k<s then dl k l else B (I k) l) s fun l=>S N fun j=>U s j*B j l):=cP fun k l hk hl=>by
    unfold upd;by_cases h1:k=s
    . subst h1;rw[if_pos rfl,if_pos (Nat.lt_succ_self _)];exact(h k l hk hl).symm
    . rw[if_neg h1];show _=if k<s then dl k l else B (I k) l
      by_cases h2:k<s
      . rw[if_pos (by omega),if_pos h2]
      . rw[if_neg (by omega),if_neg h2]
   rw[e,(rD t).tW (by omega)];refine lO fun j hj=>?_
   have e2:=ih (by omega) (fun k=>if k=s then j else I k) fun k hk hsk=>by
    by_cases h1:k=s
    . rw[if_pos h1];exact hj
    . rw[if_neg h1];exact hI k hk (by omega)
   have e3:D t (upd (fun k l=>if k<s then dl k l else B (I k) l) s (B j))=D t (fun k l=>if k<s then dl k l else B (if k=s then j else I k) l):=cP fun k l hk hl=>by
    unfold upd;by_cases h1:k=s
    . subst h1;rw[if_pos rfl,if_neg (Nat.lt_irrefl _),if_pos rfl]
    . rw[if_neg h1,if_neg h1]
   rw[e3,e2,Int.mul_zero]
 have z:=go t (Nat.le_refl _) (fun _=>0) fun k h1 h2=>absurd h1 (Nat.not_lt.mpr h2);rw[cP (M':=dl) fun r c hr hc=>if_pos hr,vh]at z;exact absurd z (by decide)
theorem xo:∀ {n:Nat} {f:Nat->Int},(∀i,i<n->0<f i)->0<Pr n f
 |0,_,_=>show(0:Int)<1 by decide
 |n+1,f,h=>Int.mul_pos (xo fun i hi=>h i (Nat.lt_succ_of_lt hi)) (h n (Nat.lt_succ_self n))
theorem Fc:∀ {n:Nat} {f:Nat->Int},(∀i,i<n->0<f i)->∀k,k<n->f k<=Pr n f
 |n+1,f,h,k,hk=>by
  have p:=xo fun i hi=>h i (Nat.lt_succ_of_lt hi);have q:=h n (Nat.lt_succ_self n);show f k<=Pr n f*f n;by_cases e:k=n
  . subst e;have:=Int.mul_le_mul_of_nonneg_right (show(1:Int)<=Pr k f from p) (Int.le_of_lt q);omega
  . have a:=Fc (fun i hi=>h i (Nat.lt_succ_of_lt hi)) k (by omega);have:=Int.mul_le_mul_of_nonneg_left (show(1:Int)<=f n from q) (Int.le_of_lt p);omega
theorem tU{w x:Int}{m:Nat}(hw:w≠0)(h:(w*x).natAbs<=m):x.natAbs<=m:=by
 rw[Int.natAbs_mul]at h;exact Nat.le_trans (Nat.le_mul_of_pos_left _ (by omega)) h
theorem Cw{b i j:Nat}(h:1<=b)(l:i<=j):(9*b)^i<=(9*b)^j:=Nat.pow_le_pow_right (by omega) l
theorem Ec{A F U B:Fn}{N w t b:Nat}{ld:Nat->Nat}(t8:t<=8)(b1:1<=b)(hA:∀i c,i<N->c<w->(A i c).natAbs<=b)(hAF:∀i c,i<N->c<w->A i c=S t fun k=>B i k*F k c)(hUB:∀k l,k<t->l<t->S N (fun i=>U k i*B i l)=dl k l)(lead:∀i,i<t->ld i<w/\0<F i (ld i)/\∀c,c<ld i->F i c=0)(mono:∀i j,i<j->j<t->ld i<ld j)(red:∀i j,i<j->j<t->0<=F i (ld j)/\F i (ld j)<F j (ld j)):
 Pr t (fun i=>F i (ld i))<=((9*b)^8:Nat)/\∀k c,k<t->c<w->(F k c).natAbs<=8*((9*b)^9*(9*b)^8):=by
 obtain⟨I,hI,hw⟩:=pick hUB;have eE:D t (fun k l=>F k (ld l))=Pr t fun i=>F i (ld i):=Nn fun r c hr hc h=>(lead r hr).2.2 _ (mono c r h hr);have pos:0<Pr t fun i=>F i (ld i):=xo fun i hi=>(lead i hi).2.1
 have eM:D t (fun k l=>A (I k) (ld l))=D t (fun k l=>B (I k) l)*D t fun k l=>F k (ld l):=by
  rw[<-Ff];exact cP fun k l hk hl=>hAF _ _ (hI k hk) (lead l hl).1
 have bM:(D t (fun k l=>A (I k) (ld l))).natAbs<=(9*b)^t:=xF (K:=9) (by omega) fun r c hr hc=>hA _ _ (hI r hr) (lead c hc).1;rw[eM,eE]at bM;have bP:(Pr t fun i=>F i (ld i)).natAbs<=(9*b)^8:=Nat.le_trans (tU hw bM) (Cw b1 t8);refine⟨by omega,fun k c hk hc=>?_⟩
 have bF:∀l,l<t->(F k (ld l)).natAbs<=(9*b)^8:=fun l hl=>by
  have p:=Fc (f:=fun i=>F i (ld i)) (fun i hi=>(lead i hi).2.1) l hl;rcases Nat.lt_trichotomy k l with h|h|h
  . have:=red k l h hl;have p':F l (ld l)<=Pr t fun i=>F i (ld i):=p;omega
  . subst h;have q:=(lead k hk).2.1;have p':F k (ld k)<=Pr t fun i=>F i (ld i):=p;omega
  . rw[(lead k hk).2.2 _ (mono l k h hk)];exact Nat.zero_le _
 have e0:=Mb (fun l k=>F k (ld l)) t (fun k=>F k c) k;rw[Ke hk]at e0;have eT:D t (fun l k=>F k (ld l))=Pr t fun i=>F i (ld i):=by rw[<-eE];exact xa t fun k l=>F k (ld l)
 rw[eT]at e0
 have bB:∀l,l<t->(D t (fun k l=>B (I k) l)*bt (fun l k=>F k (ld l)) t (fun k=>F k c) l).natAbs<=(9*b)^9:=fun l hl=>by
  have eW:D (t+1) (fun i k=>if i=t then dl t k else if k=t then 0 else B (I i) k)=D t fun k l=>B (I k) l:=by
   rw[xh fun c _=>if_pos rfl];exact cP fun r c hr hc=>by rw[if_neg (by omega),if_neg (by omega)]
  have eX:D (t+1) (upd (fun i r=>if r<t then A (I i) (ld r)else A (I i) c) t (dl l))=D t (fun k l=>B (I k) l)*bt (fun l k=>F k (ld l)) t (fun k=>F k c) l:=by
   unfold bt;rw[<-eW,<-Ff];refine cP fun i r hi hr=>?_;by_cases h:i=t
   . subst h;rw[bV];have:(S (i+1) fun k=>(if i=i then dl i k else if k=i then 0 else B (I i) k)*upd (fun c_1 r=>if r<i then F c_1 (ld r)else F c_1 c) i (dl l) k r)=S (i+1) fun k=>dl i k*upd (fun c_1 r=>if r<i then F c_1 (ld r)else F c_1 c) i (dl l) k r:=aH fun k _=>by rw[if_pos rfl]
     rw[this,oV (Nat.lt_succ_self i),bV]
   . have hi':i<t:=by omega
     rw[ax h];show _=(S t fun k=>(if i=t then dl t k else if k=t then 0 else B (I i) k)*upd (fun c_1 r=>if r<t then F c_1 (ld r)else F c_1 c) t (dl l) k r)+(if i=t then dl t t else if t=t then 0 else B (I i) t)*upd (fun c_1 r=>if r<t then F c_1 (ld r)else F c_1 c) t (dl l) t r;have z:(if i=t then dl t t else if t=t then 0 else B (I i) t)*upd (fun c_1 r=>if r<t then F c_1 (ld r)else F c_1 c) t (dl l) t r=0:=by rw[if_neg h,if_pos rfl,Int.zero_mul]
     rw[z,Int.add_zero]
     have e2:∀k,k<t->(if i=t then dl t k else if k=t then 0 else B (I i) k)*upd (fun c_1 r=>if r<t then F c_1 (ld r)else F c_1 c) t (dl l) k r=B (I i) k*(if r<t then F k (ld r)else F k c):=fun k hk=>by
      rw[if_neg h,if_neg (by omega),ax (by omega)]
     rw[aH e2];by_cases hrt:r<t
     . rw[if_pos hrt,hAF _ _ (hI i hi') (lead r hrt).1];exact aH fun k _=>by rw[if_pos hrt]
     . rw[if_neg hrt,hAF _ _ (hI i hi') hc];exact aH fun k _=>by rw[if_neg hrt]
  rw[<-eX];refine Nat.le_trans (xF (K:=9) (by omega) fun r q hr hq=>?_) (Cw b1 (show t+1<=9 by omega));by_cases h:r=t
  . subst h;rw[bV];unfold dl;split<;>omega
  . rw[ax h];have hr':r<t:=by omega
    split
    . rename_i hq';exact hA _ _ (hI r hr') (lead q hq').1
    . exact hA _ _ (hI r hr') hc
 have e1:D t (fun k l=>B (I k) l)*(Pr t fun i=>F i (ld i))*F k c= -S t fun l=>(D t (fun k l=>B (I k) l)*bt (fun l k=>F k (ld l)) t (fun k=>F k c) l)*F k (ld l):=by
  have:(S t fun l=>(D t (fun k l=>B (I k) l)*bt (fun l k=>F k (ld l)) t (fun k=>F k c) l)*F k (ld l))=D t (fun k l=>B (I k) l)*S t fun l=>bt (fun l k=>F k (ld l)) t (fun k=>F k c) l*F k (ld l):=by
   rw[<-eN];exact aH fun l _=>Int.mul_assoc _ _ _
  rw[this,Int.mul_assoc,<-Int.mul_neg];congr 1;omega
 refine tU (w:=D t (fun k l=>B (I k) l)*(Pr t fun i=>F i (ld i))) (Int.mul_ne_zero hw (Int.ne_of_gt pos)) ?_;rw[e1,Int.natAbs_neg];refine Nat.le_trans (wz fun l hl=>?_) (Nat.mul_le_mul_right _ t8);rw[Int.natAbs_mul];exact Nat.mul_le_mul (bB l hl) (bF l hl)
theorem g6.back{A0:Rows}{N w top e u:Nat}{c:B3}{ld:Nat->Nat}(H:g6 A0 N w c top w ld e u){i q:Nat}(hi:i<N)(hq:q<w):g A0 i q=S top fun k=>g c.C k i*g c.A k q:=by
 have T:=H.tn
 have e1:S N (fun k=>g c.C k i*g c.A k q)=g A0 i q:=by
  have:S N (fun k=>g c.C k i*g c.A k q)=S N fun k=>S N fun m=>g c.C k i*g c.U k m*g A0 m q:=aH fun k hk=>by
   rw[T.ua k q hk hq,<-eN];exact aH fun m _=>(Int.mul_assoc _ _ _).symm
  rw[this,qU];have:(S N fun m=>S N fun k=>g c.C k i*g c.U k m*g A0 m q)=S N fun m=>dl i m*g A0 m q:=aH fun m hm=>by rw[uN,T.bu i m hi hm]
  rw[this,oV hi]
 have cut:∀n,top<=n->n<=N->S n (fun k=>g c.C k i*g c.A k q)=S top fun k=>g c.C k i*g c.A k q:=fun n=>by
  induction n with
  |zero=>intro h _;rw[Nat.le_zero.mp h]
  |succ n ih=>
   intro h h2;by_cases e:top=n+1
   . rw[e]
   . show S n _+g c.C n i*g c.A n q=_;rw[ih (by omega) (by omega),H.zs n q (by omega) (by omega) hq,Int.mul_zero,Int.add_zero]
 rw[<-e1,cut N H.le (Nat.le_refl _)]
theorem g6.small{A0:Rows}{N w top e u b:Nat}{c:B3}{ld:Nat->Nat}(H:g6 A0 N w c top w ld e u)(hN:N<=8)(b1:1<=b)(hA:∀i c,i<N->c<w->(g A0 i c).natAbs<=b):
 Pr top (fun i=>g c.A i (ld i))<=((9*b)^8:Nat)/\∀k q,k<top->q<w->(g c.A k q).natAbs<=8*((9*b)^9*(9*b)^8):=
 Ec (A:=g A0) (F:=g c.A) (U:=g c.U) (B:=fun i k=>g c.C k i) (Nat.le_trans H.le hN) b1 hA (fun i q hi hq=>H.back hi hq) (fun k l hk hl=>H.tn.ub k l (Nat.lt_of_lt_of_le hk H.le) (Nat.lt_of_lt_of_le hl H.le)) H.lead H.mono H.red
def cJ(F:Rows)(i:Nat):Nat:=(F.getD i []).findIdx (fun x=>x != 0)
theorem uu:∀ {r:Row} {l:Nat},(∀c,c<l->r.getD c 0=0)->r.getD l 0≠0->r.findIdx (fun x=>x != 0)=l
 | [],l,_,h=>(h rfl).elim
 |x::r,0,_,h=>by
  have h':(x != 0)=true:=bne_iff_ne.mpr h;rw[List.findIdx_cons,h'];rfl
 |x::r,l+1,hz,h=>by
  have x0:(x != 0)=false:=bne_eq_false_iff_eq.mpr (hz 0 (Nat.zero_lt_succ _));rw[List.findIdx_cons,x0,uu (r:=r) (l:=l) (fun c hc=>hz (c+1) (Nat.succ_lt_succ hc)) h];rfl
theorem eO.cJ{F:Rows}{n w:Nat}{ld:Nat->Nat}(s:eO F n w ld){i:Nat}(hi:i<n):Mx.cJ F i=ld i:=by
 obtain⟨_,h2,h3⟩:=s.lead i hi;exact uu h3 (Int.ne_of_gt h2)
theorem eO.MC{F:Rows}{n w:Nat}{ld:Nat->Nat}(s:eO F n w ld):eO F n w (Mx.cJ F):=
 ⟨fun i hi=>by rw[s.cJ hi];exact s.lead i hi,fun i j h hj=>by rw[s.cJ hj,s.cJ (Nat.lt_trans h hj)];exact s.mono i j h hj⟩
def lY(F:Rows)(L:Row)(i:Nat):Int:=(L.getD (cJ F i) 0).fdiv (g F i (cJ F i))
def cw(F:Rows)(r:Row):Nat->Row
 |0=>r
 |i+1=>gb (cw F r i) (-(lY F (cw F r i) i)) (F.getD i [])
def gW(F:Rows)(r:Row)(n:Nat):Row:=(List.range n).map fun i=>lY F (cw F r i) i
section
variable {F:Rows}{r:Row}{m w:Nat}(isF:cy m w F)(lr:r.length=w)
include isF lr
theorem ko:∀ {i:Nat},i<=m->(cw F r i).length=w
 |0,_=>lr
 |i+1,h=>by
  unfold cw;rw[ni (by rw[ko (by omega),isF.row (by omega)])];exact ko (by omega)
theorem xX{i:Nat}(hi:i<m)(c:Nat):(cw F r (i+1)).getD c 0=(cw F r i).getD c 0-lY F (cw F r i) i*g F i c:=by
 conv=>lhs;unfold cw
 rw[u9 (by rw[ko isF lr (by omega),isF.row hi]),Int.neg_mul];rfl
theorem rP:∀ {i:Nat},i<=m->∀c,r.getD c 0=(cw F r i).getD c 0+S i fun j=>lY F (cw F r j) j*g F j c
 |0,_,c=>(Int.add_zero _).symm
 |i+1,h,c=>by
  have e:=rP (i:=i) (by omega) c;rw[xX isF lr (by omega)];show _=_+(S i _+lY F (cw F r i) i*g F i c);omega
theorem vg(s:eO F m w (cJ F)):∀ {i:Nat},i<=m->xf F m w (cJ F) (fun c=>r.getD c 0) i (fun c=>(cw F r i).getD c 0)
 |0,_=>xf.start
 |i+1,h=>by
  have:=(vg s (i:=i) (by omega)).step s h
  have e:(fun c=>(cw F r (i+1)).getD c 0)=fun c=>(cw F r i).getD c 0-((cw F r i).getD (cJ F i) 0).fdiv (g F i (cJ F i))*g F i c:=by
   funext c;rw[xX isF lr h];rfl
  rw[e];exact this
theorem mK{f e:Nat}(s:eO F m w (cJ F))(hF:∀k c,k<m->c<w->(g F k c).natAbs<=2^f)(hr:∀c,c<w->(r.getD c 0).natAbs<=2^e):∀ {i:Nat},i<=m->∀c,c<w->((cw F r i).getD c 0).natAbs<=2^(e+i*(f+1))
 |0,_,c,hc=>by rw[Nat.zero_mul];exact hr c hc
 |i+1,h,c,hc=>by
  have ih:=mK s hF hr (i:=i) (by omega);obtain⟨l1,l2,_⟩:=s.lead i h;have q:=Nat.le_trans (jb ((cw F r i).getD (cJ F i) 0) l2) (ih _ l1);rw[xX isF lr h]
  have p:(lY F (cw F r i) i*g F i c).natAbs<=2^(e+i*(f+1))*2^f:=by
   rw[Int.natAbs_mul];exact Nat.mul_le_mul q (hF i c h hc)
  have b:=ih c hc
  have e1:2^(e+(i+1)*(f+1))=2^(e+i*(f+1))*2^f*2:=by
   rw[show e+(i+1)*(f+1)=e+i*(f+1)+f+1 by rw[Nat.succ_mul];omega,Nat.pow_succ,Nat.pow_add]
  have e2:2^(e+i*(f+1))<=2^(e+i*(f+1))*2^f:=Nat.le_mul_of_pos_right _ (Nat.pow_pos (by decide));rw[e1];omega
end
theorem xV{A0:Rows}{N w top e u:Nat}{c:B3}{ld:Nat->Nat}(H:g6 A0 N w c top w ld e u){r ws:Row}(lw:ws.length=top)(hs:∀q,q<w->r.getD q 0=S top fun j=>ws.getD j 0*g c.A j q){q:Nat}(hq:q<w):(S N fun n=>(cM ws (c.U.take top) (List.replicate N 0)).getD n 0*g A0 n q)=r.getD q 0:=by
 have T:=H.tn;have hl:(c.U.take top).length=top:=by rw[List.length_take,T.du.len];exact Nat.min_eq_left H.le
 have e1:∀n,(cM ws (c.U.take top) (List.replicate N 0)).getD n 0=S top fun j=>ws.getD j 0*g c.U j n:=fun n=>by
  rw[ki (n:=N) n (by simp) (fun r hr=>T.du.fO r (List.mem_of_mem_take hr)) (by rw[hl,lw]),dD,Int.zero_add,hl];refine aH fun j hj=>?_;unfold g;rw[a7 (l:=c.U.take top) (by omega),List.getElem_take,a7 (l:=c.U) (by have:=T.du.len;have:=H.le;omega)]
 have e2:(S N fun n=>(cM ws (c.U.take top) (List.replicate N 0)).getD n 0*g A0 n q)=S N fun n=>S top fun j=>ws.getD j 0*(g c.U j n*g A0 n q):=aH fun n _=>by
  rw[e1,<-uN];exact aH fun j _=>Int.mul_assoc _ _ _
 rw[e2,qU,hs q hq];refine aH fun j hj=>?_;rw[eN,<-T.ua j q (Nat.lt_of_lt_of_le hj H.le) hq]
def SQ:Nat->(Nat->Rat)->Rat
 |0,_=>0
 |n+1,f=>SQ n f+f n
theorem pC{n:Nat}{f h:Nat->Rat}(e:∀i,i<n->f i=h i):SQ n f=SQ n h:=by
 induction n with
 |zero=>rfl
 |succ n ih=>unfold SQ;rw[ih fun i hi=>e i (by omega),e n (by omega)]
theorem vc{n:Nat}{f:Nat->Rat}(e:∀i,i<n->f i=0):SQ n f=0:=by
 induction n with
 |zero=>rfl
 |succ n ih=>unfold SQ;rw[ih fun i hi=>e i (by omega),e n (by omega)];grind
theorem BX(n:Nat)(f h:Nat->Rat):SQ n (fun i=>f i+h i)=SQ n f+SQ n h:=by
 induction n with
 |zero=>unfold SQ;grind
 |succ n ih=>unfold SQ;rw[ih];grind
theorem Kx(n:Nat)(x:Rat)(f:Nat->Rat):SQ n (fun i=>x*f i)=x*SQ n f:=by
 induction n with
 |zero=>unfold SQ;grind
 |succ n ih=>unfold SQ;rw[ih];grind
theorem Dp{n k:Nat}(hk:k<n){f:Nat->Rat}(h:∀i,i<n->i≠k->f i=0):SQ n f=f k:=by
 induction n with
 |zero=>omega
 |succ n ih=>
  unfold SQ;by_cases e:k=n
  . subst e;rw[vc fun i hi=>h i (by omega) (by omega)];grind
  . rw[ih (by omega) fun i hi hn=>h i (by omega) hn,h n (by omega) (by omega)];grind
theorem J6{n k:Nat}(hk:k<n){f h:Nat->Rat}(e:∀i,i<n->i≠k->h i=f i):SQ n h=SQ n f+(h k-f k):=by
 induction n with
 |zero=>omega
 |succ n ih=>
  unfold SQ;by_cases q:k=n
  . subst q;rw[pC (f:=h) (h:=f) fun i hi=>e i (by omega) (by omega)];grind
  . rw[ih (by omega) fun i hi hn=>e i (by omega) hn,e n (by omega) (by omega)];grind
def Wh(x:Rat):Prop:=∃z:Int,x=(z:Rat)
theorem Wh.zero:Wh 0:=⟨0,rfl⟩
theorem Wh.add{x y:Rat}(h:Wh x)(k:Wh y):Wh (x+y):=by
 obtain⟨a,rfl⟩:=h;obtain⟨b,rfl⟩:=k;exact⟨a+b,(Rat.intCast_add a b).symm⟩
theorem Wh.mul{x:Rat}(h:Wh x)(c:Int):Wh ((c:Rat)*x):=by
 obtain⟨a,rfl⟩:=h;exact⟨c*a,(Rat.intCast_mul c a).symm⟩
theorem Wh.neg{x:Rat}(h:Wh x):Wh (-x):=by
 obtain⟨a,rfl⟩:=h;exact⟨-a,(Rat.intCast_neg a).symm⟩
theorem Wh.den{x:Rat}:Wh x↔x.den=1:=by
 constructor
 . rintro⟨a,rfl⟩;rfl
 . intro h;exact⟨x.num,Rat.ext rfl h⟩
def dq(ps:List Rat)(w:Nat)(v:Nat->Int):Rat:=SQ w fun c=>ps.getD c 0*(v c:Rat)
theorem qR(ps:List Rat)(w n:Nat)(x:Nat->Int)(f:Nat->Nat->Int):dq ps w (fun c=>S n fun k=>x k*f k c)=SQ n fun k=>(x k:Rat)*dq ps w (f k):=by
 induction n with
 |zero=>exact vc fun c _=>by show _*((0:Int):Rat)=0;grind
 |succ n ih=>
  have:dq ps w (fun c=>S (n+1) fun k=>x k*f k c)=dq ps w (fun c=>S n fun k=>x k*f k c)+(x n:Rat)*dq ps w (f n):=by
   unfold dq;rw[<-Kx,<-BX];refine pC fun c _=>?_;show _*(((S n fun k=>x k*f k c)+x n*f n c:Int):Rat)=_;rw[Rat.intCast_add,Rat.intCast_mul];grind
  rw[this,ih];rfl
theorem C9(ps:List Rat)(w:Nat)(u v:Nat->Int):dq ps w (fun c=>u c+v c)=dq ps w u+dq ps w v:=by
 unfold dq;rw[<-BX];exact pC fun c _=>by rw[Rat.intCast_add];grind
theorem mY{ps:List Rat}{w:Nat}{u v:Nat->Int}(h:∀c,c<w->u c=v c):dq ps w u=dq ps w v:=pC fun c hc=>by rw[h c hc]
theorem tK{n:Nat}{f:Nat->Rat}(h:∀i,i<n->Wh (f i)):Wh (SQ n f):=by
 induction n with
 |zero=>exact Wh.zero
 |succ n ih=>exact(ih fun i hi=>h i (by omega)).add (h n (by omega))
theorem g9{ps:List Rat}{k:Nat}{x:Rat}(hk:k<ps.length)(c:Nat):(ps.set k x).getD c 0=if c=k then x else ps.getD c 0:=by
 rw[List.getD_eq_getElem?_getD,List.getD_eq_getElem?_getD];by_cases h:c=k
 . subst h;rw[List.getElem?_set_self hk,if_pos rfl];rfl
 . rw[List.getElem?_set_ne (Ne.symm h),if_neg h]
theorem Kv{ps:List Rat}{w k:Nat}{x:Rat}(lp:ps.length=w)(hk:k<w)(v:Nat->Int):dq (ps.set k x) w v=dq ps w v+(x-ps.getD k 0)*(v k:Rat):=by
 unfold dq;rw[J6 hk (f:=fun c=>ps.getD c 0*(v c:Rat)) fun c _ hn=>by rw[g9 (by omega),if_neg hn]];rw[g9 (by omega),if_pos rfl];grind
def BD(F:Rows)(w l:Nat)(ps:List Rat)(k:Nat):List Rat:=if cJ F k<l then ps.set (cJ F k) ((0-dq ps w (g F k))/(g F k (cJ F k):Rat))else ps
def g5(F:Rows)(m w l:Nat)(ps:List Rat):Nat->List Rat
 |0=>ps
 |i+1=>BD F w l (g5 F m w l ps i) (m-1-i)
def fC(w l:Nat)(b:Int):List Rat:=(List.replicate w 0).set l (Rat.divInt 1 b)
theorem IY(w c:Nat):(List.replicate w (0:Rat)).getD c 0=0:=by
 rw[List.getD_eq_getElem?_getD,List.getElem?_replicate];split<;>rfl
structure lZ(F:Rows)(m w l:Nat)(p:Rat)(i:Nat)(ps:List Rat):Prop where
 len:ps.length=w
 nil:∀c,c≠l->(∀k,m-i<=k->k<m->cJ F k≠c)->ps.getD c 0=0
 hi:∀c,l<c->ps.getD c 0=0
 at_:ps.getD l 0=p
 off:∀k,m-i<=k->k<m->cJ F k<l->dq ps w (g F k)=0
theorem lZ.start{F:Rows}{m w l:Nat}(b:Int)(hl:l<w):lZ F m w l (Rat.divInt 1 b) 0 (fC w l b):=by
 have hw:l<(List.replicate w (0:Rat)).length:=by simpa using hl
 refine⟨by unfold fC;simp,fun c hc _=>?_,fun c hc=>?_,?_,fun k h1 h2=>by omega⟩
 . unfold fC;rw[g9 hw,if_neg hc,IY]
 . unfold fC;rw[g9 hw,if_neg (by omega),IY]
 . unfold fC;rw[g9 hw,if_pos rfl]
theorem lZ.step{F:Rows}{m w l i:Nat}{p:Rat}{ps:List Rat}(s:eO F m w (cJ F))(hi:i<m)(P:lZ F m w l p i ps):lZ F m w l p (i+1) (BD F w l ps (m-1-i)):=by
 generalize hk:m-1-i=k0;have hk0:k0<m:=by omega
 obtain⟨l1,l2,l3⟩:=s.lead k0 hk0;unfold BD;by_cases h:cJ F k0<l
 . rw[if_pos h]
   have pz:ps.getD (cJ F k0) 0=0:=P.nil _ (by omega) fun k h1 h2 e=>by
    have:=s.mono k0 k (by omega) h2;omega
   have hne:(g F k0 (cJ F k0):Rat)≠0:=fun z=>by
    have:g F k0 (cJ F k0)=0:=Rat.intCast_inj.mp z;omega
   have hlen:cJ F k0<ps.length:=by rw[P.len];exact l1
   refine⟨by rw[List.length_set];exact P.len,fun c hc hn=>?_,fun c hc=>?_,?_,fun k h1 h2 h3=>?_⟩
   . rw[g9 hlen,if_neg (Ne.symm (hn k0 (by omega) hk0))];exact P.nil c hc fun k h1 h2=>hn k (by omega) h2
   . rw[g9 hlen,if_neg (by omega)];exact P.hi c hc
   . rw[g9 hlen,if_neg (by omega)];exact P.at_
   . rw[Kv P.len l1,pz];by_cases e:k=k0
     . subst e;have:(0-dq ps w (g F k))/(g F k (cJ F k):Rat)*(g F k (cJ F k):Rat)=0-dq ps w (g F k):=Rat.div_mul_cancel hne;grind
     . have hk':m-i<=k:=by omega
       rw[P.off k hk' h2 h3,(s.lead k h2).2.2 _ (s.mono k0 k (by omega) h2)];show _+_*((0:Int):Rat)=0;grind
 . rw[if_neg h];refine⟨P.len,fun c hc hn=>P.nil c hc fun k h1 h2=>hn k (by omega) h2,P.hi,P.at_,fun k h1 h2 h3=>?_⟩;by_cases e:k=k0
   . subst e;omega
   . exact P.off k (by omega) h2 h3
theorem lZ.all{F:Rows}{m w l:Nat}(b:Int)(s:eO F m w (cJ F))(hl:l<w):∀ {i:Nat},i<=m->lZ F m w l (Rat.divInt 1 b) i (g5 F m w l (fC w l b) i)
 |0,_=>lZ.start b hl
 |i+1,h=>(lZ.all b s hl (i:=i) (by omega)).step s h
def yC(F:Rows)(m l:Nat)(x b:Int):Prop:=(∃k,k<m/\cJ F k=l/\b=g F k l)\/((∀k,k<m->cJ F k≠l)/\b=2*(x.natAbs:Int))
theorem yC.pos{F:Rows}{m w l:Nat}{x b:Int}(s:eO F m w (cJ F))(h:yC F m l x b)(hx:x≠0):0<b:=by
 rcases h with⟨k,hk,e,rfl⟩|⟨n,rfl⟩
 . have:=(s.lead k hk).2.1;rw[e]at this;exact this
 . omega
theorem yv{b:Int}(hb:b≠0)(x:Int):Rat.divInt 1 b*(x:Rat)=(x:Rat)/(b:Rat):=by
 rw[Rat.divInt_eq_div];grind
theorem IJ{x b:Int}(h0:0<x.natAbs)(h1:(x.natAbs:Int)<b):¬Wh ((x:Rat)/(b:Rat)):=by
 rintro⟨z,e⟩
 have hb:(b:Rat)≠0:=fun q=>by
  have:b=0:=Rat.intCast_inj.mp q;omega
 have e2:(x:Rat)=(z:Rat)*(b:Rat):=by rw[<-e];exact(Rat.div_mul_cancel hb).symm
 rw[<-Rat.intCast_mul]at e2;have e3:x=z*b:=Rat.intCast_inj.mp e2;have hz:z≠0:=fun q=>by rw[q,Int.zero_mul]at e3;omega
 have:(z*b).natAbs=z.natAbs*b.natAbs:=Int.natAbs_mul _ _;have h2:1*b.natAbs<=z.natAbs*b.natAbs:=Nat.mul_le_mul_right _ (by omega);rw[e3]at h1;omega
theorem lZ.whole{F:Rows}{m w l:Nat}{R:Row}{b:Int}{ps:List Rat}(s:eO F m w (cJ F))(hl:l<w)(hb:yC F m l (R.getD l 0) b)(h0:R.getD l 0≠0)(P:lZ F m w l (Rat.divInt 1 b) m ps){k:Nat}(hk:k<m):Wh (dq ps w (g F k)):=by
 obtain⟨l1,l2,l3⟩:=s.lead k hk;rcases Nat.lt_trichotomy (cJ F k) l with h|h|h
 . rw[P.off k (by omega) hk h];exact Wh.zero
 . have e:dq ps w (g F k)=ps.getD l 0*(g F k l:Rat):=Dp hl fun c hc hn=>by
    rcases Nat.lt_or_gt_of_ne hn with q|q
    . rw[l3 c (by omega)];show _*((0:Int):Rat)=0;grind
    . rw[P.hi c q];grind
   have hb':b=g F k l:=by
    rcases hb with⟨k',hk',e',rfl⟩|⟨n,_⟩
    . rw[s.inj hk hk' (h.trans e'.symm)]
    . exact absurd h (n k hk)
   rw[e,P.at_,hb'];have hp:0<g F k l:=by rw[<-h];exact l2
   rw[yv (by omega)]
   have:(g F k l:Rat)≠0:=fun q=>by
    have:g F k l=0:=Rat.intCast_inj.mp q;omega
   have e1:(g F k l:Rat)/(g F k l:Rat)=1:=by rw[Rat.div_def];exact Rat.mul_inv_cancel _ this
   rw[e1];exact⟨1,rfl⟩
 . have e:dq ps w (g F k)=0:=vc fun c hc=>by
    rcases Nat.lt_or_ge l c with q|q
    . rw[P.hi c q];grind
    . rw[l3 c (by omega)];show _*((0:Int):Rat)=0;grind
   rw[e];exact Wh.zero
theorem lZ.not{F:Rows}{m w l:Nat}{R:Row}{b:Int}{ps:List Rat}(s:eO F m w (cJ F))(hl:l<w)(hb:yC F m l (R.getD l 0) b)(h0:R.getD l 0≠0)(hz:∀c,c<l->R.getD c 0=0)(red:∀k,k<m->0<=R.getD (cJ F k) 0/\R.getD (cJ F k) 0<g F k (cJ F k))(P:lZ F m w l (Rat.divInt 1 b) m ps):¬Wh (dq ps w fun c=>R.getD c 0):=by
 have bp:=hb.pos s h0
 have e:dq ps w (fun c=>R.getD c 0)=ps.getD l 0*((R.getD l 0:Int):Rat):=Dp hl fun c hc hn=>by
  rcases Nat.lt_or_gt_of_ne hn with q|q
  . show _*((R.getD c 0:Int):Rat)=0;rw[hz c q];show _*((0:Int):Rat)=0;grind
  . rw[P.hi c q];grind
 rw[e,P.at_,yv (by omega)];refine IJ (by omega) ?_;rcases hb with⟨k,hk,e,rfl⟩|⟨n,rfl⟩
 . have:=red k hk;rw[e]at this;omega
 . omega
theorem GS(n:Nat)(f:Nat->Rat):SQ (n+1) f=f 0+SQ n fun i=>f (i+1):=by
 induction n with
 |zero=>unfold SQ SQ;grind
 |succ n ih=>
  have:SQ (n+1+1) f=SQ (n+1) f+f (n+1):=rfl;rw[this,ih];have:SQ (n+1) (fun i=>f (i+1))=SQ n (fun i=>f (i+1))+f (n+1):=rfl;rw[this];grind
def j5:Rat->List Rat->Row->Rat
 |t,p::ps,n::r=>j5 (t+p*(n:Rat)) ps r
 |t,_,_=>t
theorem Dt:∀(ps:List Rat) (r:Row) (t:Rat) {w:Nat},ps.length=w->r.length=w->j5 t ps r=t+dq ps w fun c=>r.getD c 0
 | [],[],t,w,h,_=>by
   subst h;unfold j5;show t=t+0;grind
 | [],_::_,t,w,h1,h2=>by subst h1;cases h2
 |_::_,[],t,w,h1,h2=>by subst h2;cases h1
 |p::ps,n::r,t,w,h1,h2=>by
  subst h1;unfold j5;rw[Dt ps r _ rfl (Nat.succ.inj h2)];unfold dq;rw[List.length_cons,GS]
  have e:(fun i=>(p::ps).getD (i+1) 0*(((n::r).getD (i+1) 0:Int):Rat))=fun i=>ps.getD i 0*((r.getD i 0:Int):Rat):=by
   funext i;simp
  rw[e];show _=t+(p*(n:Rat)+_);grind
structure Sz(q:Rat)(m:Nat):Prop where
 num:q.num.natAbs<=2^m
 den:q.den<=2^m
theorem Sz.mono{q:Rat}{m n:Nat}(h:Sz q m)(l:m<=n):Sz q n:=⟨Nat.le_trans h.num (Nat.pow_le_pow_right (by decide) l),Nat.le_trans h.den (Nat.pow_le_pow_right (by decide) l)⟩
theorem Sz.int{n:Int}{m:Nat}(h:n.natAbs<=2^m):Sz (n:Rat) m:=⟨h,Nat.pow_pos (by decide)⟩
theorem Sz.of{t b:Int}{m:Nat}(hb:b≠0)(h1:t.natAbs<=2^m)(h2:b.natAbs<=2^m):Sz (Rat.divInt t b) m:=by
 have hg:1<=b.gcd t:=by
  have:b.gcd t≠0:=fun z=>hb (Int.gcd_eq_zero_iff.mp z).1;omega
 constructor
 . rw[Rat.num_divInt];have:((b.sign*t)/((b.gcd t:Nat):Int)).natAbs<=(b.sign*t).natAbs:=Int.natAbs_ediv_le_natAbs _ _
   have e:(b.sign*t).natAbs<=t.natAbs:=by
    rw[Int.natAbs_mul];have:b.sign.natAbs<=1:=by rw[Int.natAbs_sign];split<;>omega
    calc b.sign.natAbs*t.natAbs<=1*t.natAbs:=Nat.mul_le_mul_right _ this
     _=t.natAbs:=Nat.one_mul _
   omega
 . rw[Rat.den_divInt,if_neg hb];exact Nat.le_trans (Nat.div_le_self _ _) h2
theorem gn{x y:Int}{a b:Nat}(hx:x.natAbs<=2^a)(hy:y.natAbs<=2^b):(x*y).natAbs<=2^(a+b):=by
 rw[Int.natAbs_mul,Nat.pow_add];exact Nat.mul_le_mul hx hy
theorem den_nz(q:Rat):((q.den:Nat):Int)≠0:=by have:=q.den_nz;omega
theorem ng(q:Rat):q=Rat.divInt q.num ((q.den:Nat):Int):=(Rat.num_divInt_den q).symm
theorem add_eq(p q:Rat):p+q=Rat.divInt (p.num*((q.den:Nat):Int)+q.num*((p.den:Nat):Int)) (((p.den:Nat):Int)*((q.den:Nat):Int)):=by
 conv=>lhs;rw[ng p,ng q]
 rw[Rat.divInt_add_divInt _ _ (den_nz p) (den_nz q)]
theorem sub_eq(p q:Rat):p-q=Rat.divInt (p.num*((q.den:Nat):Int)-q.num*((p.den:Nat):Int)) (((p.den:Nat):Int)*((q.den:Nat):Int)):=by
 conv=>lhs;rw[ng p,ng q]
 rw[Rat.divInt_sub_divInt _ _ (den_nz p) (den_nz q)]
theorem mul_eq(p q:Rat):p*q=Rat.divInt (p.num*q.num) (((p.den:Nat):Int)*((q.den:Nat):Int)):=by
 conv=>lhs;rw[ng p,ng q]
 rw[Rat.divInt_mul_divInt]
theorem div_eq(p q:Rat):p/q=Rat.divInt (p.num*((q.den:Nat):Int)) (((p.den:Nat):Int)*q.num):=by
 rw[Rat.div_def,Rat.inv_def];conv=>lhs;rw[ng p]
 rw[Rat.divInt_mul_divInt]
theorem Sz.qQ{q:Rat}{m:Nat}(h:Sz q m):(((q.den:Nat):Int)).natAbs<=2^m:=h.den
theorem Sz.add{p q:Rat}{a b:Nat}(hp:Sz p a)(hq:Sz q b):Sz (p+q) (a+b+1):=by
 rw[add_eq];have h1:=gn hp.num hq.qQ;have h2:=gn hq.num hp.qQ;have h3:=gn hp.qQ hq.qQ;rw[Nat.add_comm b a]at h2;exact Sz.of (Int.mul_ne_zero (den_nz p) (den_nz q)) (by rw[Nat.pow_succ];omega) (Nat.le_trans h3 (Nat.pow_le_pow_right (by decide) (by omega)))
theorem Sz.neg{q:Rat}{b:Nat}(hq:Sz q b):Sz (0-q) b:=by
 have e:(0:Rat)-q= -q:=by grind
 rw[e];exact⟨by rw[show(-q).num= -q.num from rfl,Int.natAbs_neg];exact hq.num,hq.den⟩
theorem Sz.mul{p q:Rat}{a b:Nat}(hp:Sz p a)(hq:Sz q b):Sz (p*q) (a+b):=by
 rw[mul_eq];exact Sz.of (Int.mul_ne_zero (den_nz p) (den_nz q)) (gn hp.num hq.num) (gn hp.qQ hq.qQ)
theorem Sz.div{p q:Rat}{a b:Nat}(hp:Sz p a)(hq:Sz q b)(h0:q.num≠0):Sz (p/q) (a+b):=by
 rw[div_eq];exact Sz.of (Int.mul_ne_zero (den_nz p) h0) (gn hp.num hq.qQ) (gn hp.qQ hq.num)
def Pb:List Rat->Nat->Prop
 | [],_=>True
 |q::qs,t=>∃a b,Sz q a/\Pb qs b/\a+b<=t
theorem Pb.mono:∀ {ps:List Rat} {s t:Nat},Pb ps s->s<=t->Pb ps t
 | [],_,_,_,_=>trivial
 |_::_,_,_,⟨a,b,h1,h2,h3⟩,l=>⟨a,b,h1,h2,Nat.le_trans h3 l⟩
theorem Pb.set{x:Rat}{a:Nat}(hx:Sz x a):∀ {ps:List Rat} {t k:Nat},Pb ps t->Pb (ps.set k x) (t+a)
 | [],_,_,_=>trivial
 |q::qs,t,0,⟨a',b,h1,h2,h3⟩=>⟨a,b,hx,h2,by omega⟩
 |q::qs,t,k+1,⟨a',b,h1,h2,h3⟩=>⟨a',b+a,h1,h2.set hx,by omega⟩
theorem Pb.rep:∀n:Nat,Pb (List.replicate n 0) 0
 |0=>trivial
 |n+1=>⟨0,0,⟨by decide,by decide⟩,Pb.rep n,Nat.le_refl _⟩
theorem Pb.j5:∀ {ps:List Rat} {r:Row} {s e t:Nat} {x:Rat},Sz x s->Pb ps t->(∀n∈r,n.natAbs<=2^e)->Sz (j5 x ps r) (s+t+ps.length*(e+1))
 | [],r,s,e,t,x,hx,_,_=>by unfold Mx.j5;exact hx.mono (by omega)
 |_::_,[],s,e,t,x,hx,_,_=>by unfold Mx.j5;exact hx.mono (by omega)
 |p::ps,n::r,s,e,t,x,hx,⟨a,b,h1,h2,h3⟩,hr=>by
  unfold Mx.j5;have h4:=hx.add (h1.mul (Sz.int (hr n List.mem_cons_self)));refine(Pb.j5 h4 h2 fun k hk=>hr k (List.mem_cons_of_mem _ hk)).mono ?_;rw[List.length_cons,Nat.succ_mul];omega
structure kq(A0:Rows)(N w:Nat)(b:B3)(top p:Nat)(ld:Nat->Nat)(e u v:Nat):Prop where
 tn:Tn A0 b.A b.U b.C N w
 le:top<=N
 lo:fM b.A N top (2^e)/\fM b.U N top (2^e)/\fM b.C N top (2^e)
 hi:∀i c,i<top->(g b.A i c).natAbs<=2^u/\(g b.U i c).natAbs<=2^u/\(g b.C i c).natAbs<=2^v
 zs:∀i c,top<=i->i<N->c<p->g b.A i c=0
 lead:∀i,i<top->ld i<p/\0<g b.A i (ld i)/\∀c,c<ld i->g b.A i c=0
 mono:∀i j,i<j->j<top->ld i<ld j
 red:∀i j,i<j->j<top->0<=g b.A i (ld j)/\g b.A i (ld j)<g b.A j (ld j)
theorem kq.B9{A0:Rows}{N w top p e u v:Nat}{b:B3}{ld:Nat->Nat}(S:kq A0 N w b top p ld e u v):ow A0 N w top p (2^e) b b 1:=
 ⟨S.tn,fun _ _=>⟨rfl,rfl,rfl⟩,by rw[Nat.mul_one];exact S.lo.1,by rw[Nat.mul_one];exact S.lo.2.1,by rw[Nat.mul_one];exact S.lo.2.2,S.zs,by rw[Nat.one_mul];exact Nat.le_refl _,Nat.le_refl _,.inl rfl⟩
theorem kq.skip{A0:Rows}{N w top p e u v:Nat}{b:B3}{ld:Nat->Nat}(S:kq A0 N w b top p ld e u v)(h:f9 b.A N top p []):kq A0 N w b top (p+1) ld e u v:=
 ⟨S.tn,S.le,S.lo,S.hi,fun i c h1 h2 h3=>by
  by_cases hc:c=p
  . subst hc;exact Classical.byContradiction fun z=>absurd ((h.mem i).mpr ⟨h1,h2,z⟩) (by simp)
  . exact S.zs i c h1 h2 (by omega),fun i hi=>⟨Nat.lt_succ_of_lt (S.lead i hi).1,(S.lead i hi).2⟩,S.mono,S.red⟩
structure nP(A0:Rows)(N w top p e u v:Nat)(b:B3)(k:Nat)(c:B3):Prop where
 tn:Tn A0 c.A c.U c.C N w
 rA:∀i,k<=i->c.A.getD i []=b.A.getD i []/\c.U.getD i []=b.U.getD i []
 rC:∀i,i≠top->c.C.getD i []=b.C.getD i []
 ah:∀i q,i<k->q<p->g c.A i q=g b.A i q
 rd:∀i,i<k->0<=g c.A i p/\g c.A i p<g c.A top p
 sz:∀i q,i<k->(g c.A i q).natAbs<=2^(u+e+1)/\(g c.U i q).natAbs<=2^(u+e+1)
 sC:∀q,(g c.C top q).natAbs<=2^e+k*2^(u+v)
theorem nP.step{A0:Rows}{N w top p e u v k:Nat}{b c:B3}(I:nP A0 N w top p e u v b k c)(hk:k<top)(ht:top<N)(hp:p<w)(htp:0<g b.A top p)(hz:∀q,q<p->g b.A top q=0)
 (hlo:∀q,(g b.A top q).natAbs<=2^e/\(g b.U top q).natAbs<=2^e) (hhi:∀i q,i<top->(g b.A i q).natAbs<=2^u/\(g b.U i q).natAbs<=2^u/\(g b.C i q).natAbs<=2^v):
 nP A0 N w top p e u v b (k+1) ⟨a8 c.A k ((g c.A k p).fdiv (g c.A top p)) top,a8 c.U k ((g c.A k p).fdiv (g c.A top p)) top,a8 c.C top (-((g c.A k p).fdiv (g c.A top p))) k⟩:=by
 have hkN:k<N:=by omega
 have gA:∀i q,k<=i->g c.A i q=g b.A i q:=fun i q hi=>by unfold g;rw[(I.rA i hi).1]
 have gU:∀i q,k<=i->g c.U i q=g b.U i q:=fun i q hi=>by unfold g;rw[(I.rA i hi).2]
 have gC:∀i q,i≠top->g c.C i q=g b.C i q:=fun i q hi=>by unfold g;rw[I.rC i hi]
 have qe:((g c.A k p).fdiv (g c.A top p)).natAbs<=2^u:=by
  rw[gA k p (Nat.le_refl _),gA top p (by omega)];exact Nat.le_trans (jb _ htp) (hhi k p hk).1
 have hq:∀x:Int,x.natAbs<=2^e->((g c.A k p).fdiv (g c.A top p)*x).natAbs<=2^(u+e):=fun x hx=>by
  rw[Int.natAbs_mul,Nat.pow_add];exact Nat.mul_le_mul qe hx
 have le1:2^u<=2^(u+e):=Nat.pow_le_pow_right (by decide) (by omega);refine⟨I.tn.take hkN ht (by omega),fun i hi=>?_,fun i hi=>?_,fun i q hi hqp=>?_,fun i hi=>?_,fun i q hi=>?_,fun q=>?_⟩
 . exact⟨(fA (by rw[I.tn.isA.len];exact hkN) (by omega)).trans (I.rA i (by omega)).1,(fA (by rw[I.tn.du.len];exact hkN) (by omega)).trans (I.rA i (by omega)).2⟩
 . exact(fA (by rw[I.tn.fi.len];exact ht) hi).trans (I.rC i hi)
 . show g (a8 c.A k _ top) i q=_;rw[c7 I.tn.isA hkN ht];split
   . rename_i h;rw[gA top q (by omega),hz q hqp,Int.mul_zero,gA k q (Nat.le_refl _),h];omega
   . exact I.ah i q (by omega) hqp
 . show 0<=g (a8 c.A k _ top) i p/\g (a8 c.A k _ top) i p<g (a8 c.A k _ top) top p;rw[c7 I.tn.isA hkN ht,c7 I.tn.isA hkN ht,if_neg (show¬top=k by omega)];split
   . have h1:=Int.mul_fdiv_add_fmod (g c.A k p) (g c.A top p);have htp':0<g c.A top p:=by rw[gA top p (by omega)];exact htp
     have h2:=Int.fmod_nonneg_of_pos (g c.A k p) htp';have h3:=Int.fmod_lt_of_pos (g c.A k p) htp';rw[Int.mul_comm]at h1;omega
   . exact I.rd i (by omega)
 . show(g (a8 c.A k _ top) i q).natAbs<=_/\(g (a8 c.U k _ top) i q).natAbs<=_;rw[c7 I.tn.isA hkN ht,c7 I.tn.du hkN ht];split
   . have a1:=hq (g c.A top q) (by rw[gA top q (by omega)];exact(hlo q).1);have a2:=hq (g c.U top q) (by rw[gU top q (by omega)];exact(hlo q).2);rw[gA k q (Nat.le_refl _),gU k q (Nat.le_refl _)];have b1:=(hhi k q hk).1;have b2:=(hhi k q hk).2.1;rw[Nat.pow_succ];omega
   . exact I.sz i q (by omega)
 . show(g (a8 c.C top _ k) top q).natAbs<=_;rw[c7 I.tn.fi ht hkN,if_pos rfl,gC k q (by omega),Int.neg_mul];have a1:=I.sC q
   have a2:((g c.A k p).fdiv (g c.A top p)*g b.C k q).natAbs<=2^(u+v):=by
    rw[Int.natAbs_mul,Nat.pow_add];exact Nat.mul_le_mul qe (hhi k q hk).2.2
   rw[Nat.add_mul,Nat.one_mul];omega
theorem nP.start{A0:Rows}{N w top p e u v:Nat}{b:B3}(T:Tn A0 b.A b.U b.C N w)(h:∀q,(g b.C top q).natAbs<=2^e):nP A0 N w top p e u v b 0 b:=
 ⟨T,fun _ _=>⟨rfl,rfl⟩,fun _ _=>rfl,fun _ _ h=>absurd h (Nat.not_lt_zero _),fun _ h=>absurd h (Nat.not_lt_zero _),fun _ _ h=>absurd h (Nat.not_lt_zero _),fun q=>by rw[Nat.zero_mul];exact h q⟩
theorem ja.LV{A0:Rows}{N w top p e u v e' u' v':Nat}{b0 b c:B3}{ld:Nat->Nat}(S:kq A0 N w b0 top p ld e u v)(s:ja A0 N w top p (2^e') b0 b)(ht:top<N)(I:nP A0 N w top p e' u v b top c)(hN:N<=8)
 (h1:u+e'+1<=u') (h2:u+v+4<=v') (h9:e'+1<=v'):kq A0 N w c (top+1) (p+1) (fun i=>if i=top then p else ld i) e' u' v':=by
 have hup:∀i q,i<top->g b.A i q=g b0.A i q:=fun i q hi=>by unfold g;rw[(s.up i hi).1]
 have hA:∀i q,top<=i->g c.A i q=g b.A i q:=fun i q hi=>by unfold g;rw[(I.rA i hi).1]
 have hU:∀i q,top<=i->g c.U i q=g b.U i q:=fun i q hi=>by unfold g;rw[(I.rA i hi).2]
 have hC:∀i q,i≠top->g c.C i q=g b.C i q:=fun i q hi=>by unfold g;rw[I.rC i hi]
 have le:∀ {a x:Nat},a<=2^x->x<=u'->a<=2^u':=fun h hx=>Nat.le_trans h (Nat.pow_le_pow_right (by decide) hx);refine⟨I.tn,ht,⟨fun i q hi hN=>?_,fun i q hi hN=>?_,fun i q hi hN=>?_⟩,fun i q hi=>?_,fun i q hi hN hq=>?_,fun i hi=>?_,fun i j hij hj=>?_,fun i j hij hj=>?_⟩
 . rw[hA i q (by omega)];exact s.lo.1 i q (by omega) hN
 . rw[hU i q (by omega)];exact s.lo.2.1 i q (by omega) hN
 . rw[hC i q (by omega)];exact s.lo.2.2 i q (by omega) hN
 . by_cases h:i=top
   . subst h;refine⟨?_,?_,?_⟩
     . rw[hA i q (Nat.le_refl _)];exact le (s.lo.1 i q (Nat.le_refl _) ht) (by omega)
     . rw[hU i q (Nat.le_refl _)];exact le (s.lo.2.1 i q (Nat.le_refl _) ht) (by omega)
     . have h3:=I.sC q;have h4:i*2^(u+v)<=2^(u+v+3):=by rw[Nat.pow_add _ _ 3,Nat.mul_comm];exact Nat.mul_le_mul_left _ (by omega)
       have h5:2^(u+v+3)*2<=2^v':=by rw[<-Nat.pow_succ];exact Nat.pow_le_pow_right (by decide) h2
       have h6:2^e'*2<=2^v':=by rw[<-Nat.pow_succ];exact Nat.pow_le_pow_right (by decide) h9
       omega
   . have hi':i<top:=by omega
     refine⟨le (I.sz i q hi').1 h1,le (I.sz i q hi').2 h1,?_⟩;rw[hC i q h];have:g b.C i q=g b0.C i q:=by unfold g;rw[(s.up i hi').2.2]
     rw[this];exact Nat.le_trans (S.hi i q hi').2.2 (Nat.pow_le_pow_right (by decide) (by omega))
 . rw[hA i q (by omega)];by_cases h:q=p
   . rw[h];exact s.z1 i (by omega) hN
   . exact s.zs i q (by omega) hN (by omega)
 . by_cases h:i=top
   . subst h;rw[if_pos rfl];refine⟨Nat.lt_succ_self p,?_,fun q hq=>?_⟩
     . rw[hA i p (Nat.le_refl _)];exact s.tp
     . rw[hA i q (Nat.le_refl _)];exact s.zs i q (Nat.le_refl _) ht hq
   . have hi':i<top:=by omega
     rw[if_neg h];obtain⟨a1,a2,a3⟩:=S.lead i hi';refine⟨Nat.lt_succ_of_lt a1,?_,fun q hq=>?_⟩
     . rw[I.ah i _ hi' a1,hup i _ hi'];exact a2
     . rw[I.ah i _ hi' (Nat.lt_trans hq a1),hup i _ hi'];exact a3 q hq
 . by_cases h:j=top
   . rw[if_pos h,if_neg (by omega)];exact(S.lead i (by omega)).1
   . rw[if_neg h,if_neg (by omega)];exact S.mono i j hij (by omega)
 . by_cases h:j=top
   . subst h;rw[if_pos rfl];exact I.rd i hij
   . have hj':j<top:=by omega
     rw[if_neg h];have:=S.red i j hij hj';have hl:=(S.lead j hj').1;rw[I.ah i _ (by omega) hl,I.ah j _ hj' hl,hup i _ (by omega),hup j _ hj'];exact this
theorem kq.start{A:Rows}{N w e:Nat}(hA:cy N w A)(h:fM A N 0 (2^e)):kq A N w ⟨A,units N,units N⟩ 0 0 (fun _=>0) e 0 0:=by
 have S:=g6.start hA h;exact⟨S.tn,S.le,S.lo,S.hi,S.zs,S.lead,S.mono,S.red⟩
def Uz(N e0:Nat):Nat->Nat
 |0=>0
 |t+1=>Uz N e0 t+Ez N e0 (t+1)+1
def Cz(N e0:Nat):Nat->Nat
 |0=>0
 |t+1=>Uz N e0 t+Cz N e0 t+Ez N e0 (t+1)+4
theorem kq.one{A0:Rows}{N w t p e u v r:Nat}{b c:B3}{ld:Nat->Nat}(S:kq A0 N w b t p ld e u v)(hp:p<w)(h:d6 N t p b c)(l:f9 c.A N t p [r]):
 ja A0 N w t p (2^((N-t+1)*(e+1))) b (setB c p t r)/\t<N/\∀k,k<=t->nP A0 N w t p ((N-t+1)*(e+1)) u v (setB c p t r) k (ku p t k (setB c p t r)):=by
 obtain⟨gr,G⟩:=h.B9 hp S.B9;obtain⟨s,h1,h2⟩:=G.set l;have s1:=s.mono (G.low S.lo.1);have ht:t<N:=Nat.lt_of_le_of_lt h1 h2;refine⟨s1,ht,fun k=>?_⟩;induction k with
 |zero=>exact fun _=>nP.start s1.tn fun q=>s1.lo.2.2 t q (Nat.le_refl _) ht
 |succ k ih=>
  intro hk;refine(ih (Nat.le_of_lt hk)).step hk ht hp s1.tp (fun q hq=>s1.zs t q (Nat.le_refl _) ht hq) (fun q=>⟨s1.lo.1 t q (Nat.le_refl _) ht,s1.lo.2.1 t q (Nat.le_refl _) ht⟩) fun i q hi=>?_;obtain⟨a1,a2,a3⟩:=s1.NV hi q;rw[a1,a2,a3];exact S.hi i q hi
theorem jG.NC{A:Rows}{N w e0:Nat}(hA:cy N w A)(hlo:fM A N 0 (2^e0))(hN:N<=8){p t:Nat}{b:B3}(h:jG A N p t b):p<=w->∃ld,kq A N w b t p ld (Ez N e0 t) (Uz N e0 t) (Cz N e0 t):=by
 induction h with
 |start=>exact fun _=>⟨_,kq.start hA hlo⟩
 |next _ c ih=>
  intro hp;obtain⟨ld,S⟩:=ih (Nat.le_of_lt hp);cases c with
  |none l=>exact⟨ld,S.skip l⟩
  |one g l=>
   obtain⟨s1,ht,I⟩:=S.one hp g l;exact⟨_,ja.LV (e':=Ez N e0 (_+1)) (u':=Uz N e0 (_+1)) (v':=Cz N e0 (_+1)) S s1 ht (I _ (Nat.le_refl _)) hN (by show _<=Uz N e0 _+Ez N e0 (_+1)+1;omega) (by show _<=Uz N e0 _+Cz N e0 _+Ez N e0 (_+1)+4;omega) (by show _<=Uz N e0 _+Cz N e0 _+Ez N e0 (_+1)+4;omega)⟩
theorem Jf:∀N,N<9->∀t,t<N+1->Ez N 14 t<=50000000/\Vz N 14 t<=60000000:=by decide+kernel
theorem FH:∀N,N<9->∀m,m<N+1->∀t,t<N-m+1->(Ez (N-m) (Ez N 14 m) t<=50000000/\Vz (N-m) (Ez N 14 m) t<=60000000)/\Vz N 14 m+8000+t*(Uz (N-m) (Ez N 14 m) t+1)+Uz (N-m) (Ez N 14 m) t<=130000000:=by decide+kernel
end Mx
namespace Prog
open PySem L2 L3
open PySem.Spec hiding items?
open PyProof.Rows hiding St
theorem ka{i j:Int}(h1: -(2^64)<i)(h2:i<2^64):IntMulOk i j:= .of_left (intBits_le_64 h1 h2)
theorem rh{i j:Int}(h1: -(2^64)<j)(h2:j<2^64):IntMulOk i j:= .of_right (intBits_le_64 h1 h2)
def Any(st:ag)(d:D):Prop:=∃t,eL st d=some t
structure Thing(st:ag)(d:D):Prop where
 any:Any st d
 aq:∀xs,items? st d=some xs->(∀x∈xs,Any st x)/\xs.length<=sizeLine
def isInt:D->Bool
 | .int _=>true
 |_=>false
theorem Eh{st:ag}{d:D}{t:String}(h:eL st d=some t):(t=="int")=isInt d:=by
 cases d<;>unfold eL at h<;>first|(cases h;done)|(cases h;rfl)|(simp only at h;split at h<;>first|(cases h;rfl)|cases h)
theorem Du{st:ag}{d:D}{t:String}(h:eL st d=some t):(t=="list"||t=="tuple")=(items? st d).isSome:=by
 cases d<;>unfold eL at h<;>first|(cases h;done)|(cases h;rfl)|(simp only at h;split at h<;>first|(cases h;rename_i q;rw[aM q];rfl)|cases h)
def zI(st:ag)(d:D)(m:Int):Bool:=match items? st d with
 |some xs=>decide ((xs.length:Int)=m)&&xs.all isInt
 |none=>false
theorem sD{tg:fN}{te:DE}{ok:ag->Prop}{σc:bG}{st:ag}{K:List D->ag->Prop}{g:D->D}(aK:ok st):∀(xs acc:List D),(∀x∈xs,∀K',K' (g x) st->∃σ2,tg x σc=some σ2/\te σ2 st K')->K (acc++xs.map g) st->cR tg cN te ok σc xs acc st K
 | [],acc,_,h=>by unfold cR;exact⟨aK,by simpa using h⟩
 |x::xs,acc,hx,h=>by
  unfold cR;obtain⟨σ2,e,q⟩:=hx x List.mem_cons_self (fun y st2=>cR tg cN te ok σc xs (acc++[y]) st2 K) (sD aK xs (acc++[g x]) (fun y hy=>hx y (List.mem_cons_of_mem _ hy)) (by simpa using h));exact⟨aK,σ2,e,q⟩
theorem v7{f:D->Bool}:∀xs:List D,iW (xs.map fun x=>D.bl (f x))=some (xs.map f)
 | []=>rfl
 |x::xs=>by simp[iW,v7 xs]
abbrev aJ(r:List Int):List D:=r.map D.int
abbrev bh(r:List Int):D:= .tup (aJ r)
abbrev bc(r:List Int):D:= .lst (aJ r)
abbrev di(A:List (List Int)):D:= .tup (A.map bh)
def cu(st:ag):List D->List (List Int)->Prop
 | [],[]=>True
 |d::ds,r::rs=>items? st d=some (aJ r)/\cu st ds rs
 |_,_=>False
structure iZ(st:ag)(d:D)(A:List (List Int)):Prop where
 ex:∃ds,items? st d=some ds/\cu st ds A
theorem cu.len{st:ag}:∀ {ds:List D} {A:List (List Int)},cu st ds A->ds.length=A.length
 | [],[],_=>rfl
 |_::_,_::_,h=>by simp[cu.len h.2]
theorem cu.tup{st:ag}:∀ {A:List (List Int)},cu st (A.map bh) A
 | []=>trivial
 |_::_=>⟨rfl,cu.tup⟩
theorem cu.lst{st:ag}:∀ {A:List (List Int)},cu st (A.map bc) A
 | []=>trivial
 |_::_=>⟨rfl,cu.lst⟩
theorem cu.get{st:ag}:∀ {ds:List D} {A:List (List Int)} {i:Nat} {d:D},cu st ds A->ds[i]?=some d->∃r,A[i]?=some r/\items? st d=some (aJ r)
 |_::_,r::_,0,_,h,e=>by simp at e;subst e;exact⟨r,rfl,h.1⟩
 |_::_,_::_,i+1,d,h,e=>by
  obtain⟨r,e1,e2⟩:=cu.get (i:=i) (d:=d) h.2 (by simpa using e);exact⟨r,by simpa using e1,e2⟩
theorem f7{st:ag}{A:List (List Int)}:iZ st (di A) A:=⟨_,rfl,cu.tup⟩
structure Ext(st st':ag):Prop where
 len:st.length<=st'.length
 same:∀m,m<st.length->st'[m]?=st[m]?
theorem Ext.push{st:ag}{c:List Cell}:Ext st (st++c):=⟨by simp,fun m h=>List.getElem?_append_left h⟩
theorem Ext.set{st:ag}{n:Nat}{c:Cell}{st0:ag}(a:Ext st0 st)(h:st0.length<=n):Ext st0 (st.set n c):=⟨by rw[List.length_set];exact a.len,fun m hm=>by rw[List.getElem?_set_ne (by omega)];exact a.same m hm⟩
theorem Ext.items{st st':ag}{d:D}{xs:List D}(x:Ext st st')(e:items? st d=some xs):items? st' d=some xs:=by
 cases d with
 |ref n=>
  unfold items? at e⊢;simp only at e⊢;cases q:st[n]? with
  |none=>rw[q]at e;cases e
  |some c=>
   have hn:=(List.getElem?_eq_some_iff.mp q).1;rw[x.same n hn];exact e
 |_=>exact e
theorem iq{r:List Int}{k:Nat}(h:k<r.length):dP (aJ r) (k:Int)=some (.int (r.getD k 0)):=by
 refine mF ?_;rw[List.getElem?_map,List.getElem?_eq_getElem h,Mx.a7 h];rfl
theorem getD_mem{r:List Int}{k:Nat}(h:k<r.length):r.getD k 0∈r:=by rw[Mx.a7 h];exact List.getElem_mem _
theorem ints_app{r:List Int}{x:Int}:aJ r++[D.int x]=aJ (r++[x]):=by simp[aJ]
theorem DU{A:List (List Int)}{r:List Int}:A.map bh++[bh r]=(A++[r]).map bh:=by simp
theorem Es{r s:List Int}{d:D}(h:d∈h7 (aJ r) (aJ s)):∃a b,a∈r/\b∈s/\d= .tup [.int a,.int b]:=by
 obtain⟨n,hn,e⟩:=List.mem_iff_getElem.mp h;have e':(h7 (aJ r) (aJ s))[n]?=some d:=by rw[List.getElem?_eq_getElem hn,e]
 obtain⟨x,y,ex,ey,rfl⟩:=sS e';rw[List.getElem?_map]at ex ey;cases q1:r[n]? with
 |none=>rw[q1]at ex;cases ex
 |some a=>
  cases q2:s[n]? with
  |none=>rw[q2]at ey;cases ey
  |some b=>
   rw[q1]at ex;rw[q2]at ey;cases ex;cases ey;exact⟨a,b,List.mem_of_getElem? q1,List.mem_of_getElem? q2,rfl⟩
theorem xQ(n:Nat):(List.replicate n [D.int 0]).flatten=aJ (List.replicate n 0):=by
 induction n with
 |zero=>rfl
 |succ n ih=>rw[List.replicate_succ,List.flatten_cons,ih];rfl
theorem CS{x y:D}{xs ys:List D}:h7 (x::xs) (y::ys)= .tup [x,y]::h7 xs ys:=rfl
theorem G9{n:Nat}{r:List Int}:(aJ r).all (pl n)=true:=by
 refine List.all_eq_true.mpr fun d hd=>?_;obtain⟨i,_,rfl⟩:=List.mem_map.mp hd;cases n<;>rfl
def aA:Addr:=253
abbrev fk(b:Bool):Cell:=Cell.tab 233 ⟨126,32,126,66⟩ "Bench.live_rows.<locals>.<lambda>" b
abbrev KN:List (Addr×Pos×Str):=[(233,⟨126,32,126,66⟩,"Bench.live_rows.<locals>.<lambda>")]
def oh:b_:=fun ds st K=>∃d,ds=[d]/\Any st d/\K (.bl (isInt d)) st
def kP:List Str:=["thing"]
def yT:DS:=(bI (jV (bZ pL (af (ae 0) (af (dC (.ty "int")) ao))) (AN (cm (bZ pL (af (ae 0) (af (dC (.ty "bool")) ao)))))))
theorem yH:∀ds st K,oh ds st K->ds.length=1/\yT {nx:=fun _ st'=>K .aE st',rt:=K} (aT kP ds) st:=by
 rintro ds st K ⟨d,rfl,⟨t,ht⟩,k⟩;refine⟨rfl,?_⟩;rw[<-Eh ht]at k;have hm:=o5 ht;refine x5 ht (by decide) ?_;simp only[mG,List.mem_cons,List.not_mem_nil,or_false]at hm;rcases hm with rfl|rfl|rfl|rfl|rfl|rfl
 . exact k
 . refine fe (x5 ht (by decide) ?_);exact k
 . refine fe (x5 ht (by decide) ?_);exact k
 . exact k
 . exact k
 . exact k
def nW:b_:=fun ds st K=>∃d,ds=[d]/\Any st d/\K (.bl (items? st d).isSome) st
def kR:List Str:=["thing"]
def zd:DS:=(bI (bZ pL (af (ae 0) (af (kb (af (dC (.ty "list")) (af (dC (.ty "tuple")) ao))) ao))))
theorem yS:∀ds st K,nW ds st K->ds.length=1/\zd {nx:=fun _ st'=>K .aE st',rt:=K} (aT kR ds) st:=by
 rintro ds st K ⟨d,rfl,⟨t,ht⟩,k⟩;refine⟨rfl,?_⟩;rw[<-Du ht]at k;have hm:=o5 ht;refine⟨Nat.le_of_ble_eq_true rfl,Hu ht rfl (by decide) ?_⟩;simp only[mG,List.mem_cons,List.not_mem_nil,or_false]at hm;rcases hm with rfl|rfl|rfl|rfl|rfl|rfl<;>exact k
def eV:b_:=fun ds st K=>∃d m,ds=[d,.int m]/\Any st d/\K (.bl (match items? st d with|some xs=>decide ((xs.length:Int)=m)|none=>false)) st
def iI:List Str:=["thing","many"]
def vk:DS:=(bI (jV (aB nW (af (ae 0) ao)) (aw iK (bZ eP (af (ae 0) ao)) (ae 1))))
theorem uo:∀ds st K,eV ds st K->ds.length=2/\vk {nx:=fun _ st'=>K .aE st',rt:=K} (aT iI ds) st:=by
 rintro ds st K ⟨d,m,rfl,ha,k⟩;refine⟨rfl,?_⟩;cases e:items? st d with
 |none=>
  rw[e]at k;exact⟨d,rfl,ha,by rw[e];exact k⟩
 |some xs=>
  rw[e]at k;refine⟨d,rfl,ha,?_⟩;rw[e];refine fe (dA e (yr ?_));exact k
def lV:b_:=fun ds st K=>∃d m,ds=[d,.int m]/\Thing st d/\K (.bl (zI st d m)) st
def i8:List Str:=["thing","many"]
def wb:DS:=(bI (jV (aB eV (af (ae 0) (af (ae 1) ao))) (bZ q_ (af (eK (fz (ae 0)) [none] (cq 0) cN (aB oh (af (ae 0) ao))) ao))))
theorem vm:∀ds st K,lV ds st K->ds.length=2/\wb {nx:=fun _ st'=>K .aE st',rt:=K} (aT i8 ds) st:=by
 rintro ds st K ⟨d,m,rfl,ha,k⟩;refine⟨rfl,?_⟩;refine⟨d,m,rfl,ha.any,?_⟩;unfold zI at k;cases e:items? st d with
 |none=>rw[e]at k;exact k
 |some xs=>
  rw[e]at k;obtain⟨h1,h2⟩:=ha.aq xs e;by_cases hl:(xs.length:Int)=m
  . simp only[hl,decide_true,Bool.true_and]at k⊢;rw[if_pos trivial];refine rg e fun ok aK=>?_;refine⟨h2,sD (g:=fun x=> .bl (isInt x)) aK xs [] (fun x hx K' q=>⟨_,rfl,⟨x,rfl,h1 x hx,q⟩⟩) ?_⟩;refine tT (v7 xs) ?_;simpa using k
  . simp only[hl,decide_false,Bool.false_and]at k⊢;exact k
def o9:b_:=fun ds st K=>∃a b,ds=[.int a,.int b]/\K (.int ((Nat.gcd a.natAbs b.natAbs:Nat):Int)) st
def oY:List Str:=["one","other","great","small","rest"]
def D7:DS:=(aL (bf 2 (bZ pw (af (ae 0) ao)))
 (aL (bf 3 (bZ pw (af (ae 1) ao)))
 (aL (uj (cm (aw sI (ae 3) (dC (.int 0)))) (aL (bf 4 (aw jh (ae 2) (ae 3)))
 (aL (bf 2 (ae 3))
 (bf 3 (ae 4)))))
 (bI (ae 2)))))
theorem EW{a:Int}{m:Nat}(h:a.natAbs<2^m):Builtin.Int.intBits a<=m:=by
 unfold Builtin.Int.intBits;by_cases h0:a.natAbs=0
 . have:a=0:=by omega
   subst this;simp
 . have:=(Nat.log2_lt h0).mpr h;split<;>omega
theorem dc{a b:Int}{m n:Nat}(ha:a.natAbs<=2^m)(hb:b.natAbs<=2^n)(h:m+n<=130000000):IntMulOk a b:=by
 have q:∀ {x:Int} {k:Nat},x.natAbs<=2^k->Builtin.Int.intBits x<=k+1:=fun{x k} h=>EW (Nat.lt_of_le_of_lt h (Nat.pow_lt_pow_right (by decide) (Nat.lt_succ_self k)));have h1:=q ha;have h2:=q hb;have e:(2:Nat)^27=134217728:=by decide
 have z:Builtin.Int.intTooBig (Builtin.Int.intBits a+Builtin.Int.intBits b)=false:=by
  unfold Builtin.Int.intTooBig bitsLine;exact decide_eq_false (by omega)
 unfold IntMulOk;rw[z];simp
theorem EO(a b:Nat):(a:Int).fmod (b:Int)=((a%b:Nat):Int):=by
 rw[Int.fmod_eq_emod_of_nonneg _ (Int.natCast_nonneg b)];exact(Int.natCast_emod a b).symm
theorem BG:∀ds st K,o9 ds st K->ds.length=2/\D7 {nx:=fun _ st'=>K .aE st',rt:=K} (aT oY ds) st:=by
 rintro ds st K ⟨a,b,rfl,k⟩;refine⟨rfl,?_⟩;refine qJ (qJ ?_);refine⟨fun m σ st'=>∃(g s:Nat) (r:Option D),σ=[some (.int a),some (.int b),some (.int g),some (.int s),r]/\st'=st/\Nat.gcd g s=Nat.gcd a.natAbs b.natAbs/\s=m,⟨b.natAbs,a.natAbs,b.natAbs,none,?_,rfl,rfl,rfl⟩,?_⟩
 . rfl
 . rintro m σ st' ⟨g,s,r,rfl,rfl,hg,rfl⟩;refine ne2 (fun h=>fe ?_) fun h=>?_
   . refine lE h ⟨g%s,Nat.mod_lt _ (by omega),s,g%s,some (.int ((g%s:Nat):Int)),?_,rfl,?_,rfl⟩
     . rw[EO];rfl
     . rw[Nat.gcd_comm,<-Nat.gcd_rec,Nat.gcd_comm];exact hg
   . have:s=0:=by omega
     subst this;rw[Nat.gcd_zero_right]at hg;subst hg;exact k
abbrev e9(q:Rat):D:= .tup [.int q.num,.int ((q.den:Nat):Int)]
def m4:b_:=fun ds st K=>∃(t b:Int),ds=[.int t,.int b]/\b≠0/\K (e9 (Rat.divInt t b)) st
def ug:List Str:=["top","bottom","shrink"]
def Ka:DS:=(aL (bf 2 (aB o9 (af (ae 0) (af (ae 1) ao))))
 (aL (eA (cm (aw qi (ae 1) (dC (.int 0)))) (bf 2 (nC iN (ae 2))) dQ)
 (bI (kb (af (aw jH (ae 0) (ae 2)) (af (aw jH (ae 1) (ae 2)) ao))))))
theorem qP{g t:Int}(hg:g≠0)(h:g∣t):t.fdiv (-g)=(-1*t).fdiv g:=by
 obtain⟨c,rfl⟩:=h
 have e1:(g*c).fdiv (-g)= -c:=by
  have:g*c=(-g)*(-c):=by rw[Int.neg_mul_neg]
  rw[this,Int.mul_fdiv_cancel_left _ (by omega)]
 have e2:(-1*(g*c)).fdiv g= -c:=by
  have: -1*(g*c)=g*(-c):=by rw[Int.neg_mul,Int.one_mul,Int.mul_neg]
  rw[this,Int.mul_fdiv_cancel_left _ hg]
 rw[e1,e2]
theorem BK(t b:Int):((Nat.gcd t.natAbs b.natAbs:Nat):Int)∣t:=Int.ofNat_dvd_left.mpr (Nat.gcd_dvd_left _ _)
theorem BL(t b:Int):((Nat.gcd t.natAbs b.natAbs:Nat):Int)∣b:=Int.ofNat_dvd_left.mpr (Nat.gcd_dvd_right _ _)
theorem Gj{t b:Int}(hb:b≠0):D.tup [.int (((if b<0 then(-1:Int)else 1)*t).fdiv ((Nat.gcd t.natAbs b.natAbs:Nat):Int)),.int (((if b<0 then(-1:Int)else 1)*b).fdiv ((Nat.gcd t.natAbs b.natAbs:Nat):Int))]=e9 (Rat.divInt t b):=by
 unfold e9;have hg:(b.gcd t:Nat)=Nat.gcd t.natAbs b.natAbs:=by unfold Int.gcd;rw[Nat.gcd_comm]
 have hs:(if b<0 then(-1:Int)else 1)=b.sign:=by
  rcases Int.lt_trichotomy b 0 with h|h|h
  . rw[if_pos h,Int.sign_eq_neg_one_of_neg h]
  . exact absurd h hb
  . rw[if_neg (by omega),Int.sign_eq_one_of_pos h]
 have e1:(Rat.divInt t b).num=((if b<0 then(-1:Int)else 1)*t).fdiv ((Nat.gcd t.natAbs b.natAbs:Nat):Int):=by
  rw[Rat.num_divInt,hs,hg,Int.fdiv_eq_ediv_of_nonneg _ (Int.natCast_nonneg _)]
 have e2:(((Rat.divInt t b).den:Nat):Int)=((if b<0 then(-1:Int)else 1)*b).fdiv ((Nat.gcd t.natAbs b.natAbs:Nat):Int):=by
  rw[Rat.den_divInt,if_neg hb,hs,hg,Int.fdiv_eq_ediv_of_nonneg _ (Int.natCast_nonneg _),Int.natCast_ediv];congr 1;rw[Int.sign_mul_self]
 rw[e1,e2]
theorem Gg:∀ds st K,m4 ds st K->ds.length=2/\Ka {nx:=fun _ st'=>K .aE st',rt:=K} (aT ug ds) st:=by
 rintro ds st K ⟨t,b,rfl,hb,k⟩;refine⟨rfl,?_⟩;refine⟨t,b,rfl,?_⟩
 have hg0:Nat.gcd t.natAbs b.natAbs≠0:=fun z=>by
  have:=Nat.eq_zero_of_gcd_eq_zero_right z;omega
 have hne:((Nat.gcd t.natAbs b.natAbs:Nat):Int)≠0:=by omega
 rw[<-Gj hb]at k;refine FR (fun h=>fe ?_) fun h=>?_
 . rw[if_pos h,<-qP hne (BK t b),<-qP hne (BL t b)]at k;exact il (jj (by omega) (jj (by omega) ⟨Nat.le_of_ble_eq_true rfl,k⟩))
 . rw[if_neg (by omega),Int.one_mul,Int.one_mul]at k;exact jj hne (jj hne ⟨Nat.le_of_ble_eq_true rfl,k⟩)
structure Fq(st:ag)(d:D)(q:Rat)(m:Nat):Prop where
 aq:items? st d=some [.int q.num,.int ((q.den:Nat):Int)]
 sz:Mx.Sz q m
theorem Fq.b{st:ag}{d:D}{q:Rat}{m:Nat}(h:Fq st d q m):(((q.den:Nat):Int)).natAbs<=2^m:=h.sz.den
theorem Fq.of{st:ag}{q:Rat}{m:Nat}(h:Mx.Sz q m):Fq st (e9 q) q m:=⟨rfl,h⟩
def yJ:b_:=fun ds st K=>∃x y p q a b,ds=[x,y]/\Fq st x p a/\Fq st y q b/\a+b<=130000000/\K (e9 (p+q)) st
def tP:List Str:=["one","other"]
def IC:DS:=(bI (aB m4 (af (aw fL (aw dg (aw aS (ae 0) (dC (.int 0))) (aw aS (ae 1) (dC (.int 1)))) (aw dg (aw aS (ae 1) (dC (.int 0))) (aw aS (ae 0) (dC (.int 1))))) (af (aw dg (aw aS (ae 0) (dC (.int 1))) (aw aS (ae 1) (dC (.int 1)))) ao))))
theorem G8:∀ds st K,yJ ds st K->ds.length=2/\IC {nx:=fun _ st'=>K .aE st',rt:=K} (aT tP ds) st:=by
 rintro ds st K ⟨x,y,p,q,a,b,rfl,X,Y,h,k⟩;refine⟨rfl,?_⟩;have h':b+a<=130000000:=by omega
 rw[Mx.add_eq]at k;exact ay X.aq rfl (ay Y.aq rfl (dB (dc X.sz.num Y.b h) (ay Y.aq rfl (ay X.aq rfl (dB (dc Y.sz.num X.b h') (gE (ay X.aq rfl (ay Y.aq rfl (dB (dc X.b Y.b h) ⟨_,_,rfl,Int.mul_ne_zero (Mx.den_nz p) (Mx.den_nz q),k⟩)))))))))
def uO:b_:=fun ds st K=>∃x y p q a b,ds=[x,y]/\Fq st x p a/\Fq st y q b/\a+b<=130000000/\K (e9 (p-q)) st
def rE:List Str:=["one","other"]
def Ge:DS:=(bI (aB m4 (af (aw qX (aw dg (aw aS (ae 0) (dC (.int 0))) (aw aS (ae 1) (dC (.int 1)))) (aw dg (aw aS (ae 1) (dC (.int 0))) (aw aS (ae 0) (dC (.int 1))))) (af (aw dg (aw aS (ae 0) (dC (.int 1))) (aw aS (ae 1) (dC (.int 1)))) ao))))
theorem Ey:∀ds st K,uO ds st K->ds.length=2/\Ge {nx:=fun _ st'=>K .aE st',rt:=K} (aT rE ds) st:=by
 rintro ds st K ⟨x,y,p,q,a,b,rfl,X,Y,h,k⟩;refine⟨rfl,?_⟩;have h':b+a<=130000000:=by omega
 rw[Mx.sub_eq]at k;exact ay X.aq rfl (ay Y.aq rfl (dB (dc X.sz.num Y.b h) (ay Y.aq rfl (ay X.aq rfl (dB (dc Y.sz.num X.b h') (tX (ay X.aq rfl (ay Y.aq rfl (dB (dc X.b Y.b h) ⟨_,_,rfl,Int.mul_ne_zero (Mx.den_nz p) (Mx.den_nz q),k⟩)))))))))
def vj:b_:=fun ds st K=>∃x y p q a b,ds=[x,y]/\Fq st x p a/\Fq st y q b/\a+b<=130000000/\K (e9 (p*q)) st
def rS:List Str:=["one","other"]
def HH:DS:=(bI (aB m4 (af (aw dg (aw aS (ae 0) (dC (.int 0))) (aw aS (ae 1) (dC (.int 0)))) (af (aw dg (aw aS (ae 0) (dC (.int 1))) (aw aS (ae 1) (dC (.int 1)))) ao))))
theorem EV:∀ds st K,vj ds st K->ds.length=2/\HH {nx:=fun _ st'=>K .aE st',rt:=K} (aT rS ds) st:=by
 rintro ds st K ⟨x,y,p,q,a,b,rfl,X,Y,h,k⟩;refine⟨rfl,?_⟩;rw[Mx.mul_eq]at k;exact ay X.aq rfl (ay Y.aq rfl (dB (dc X.sz.num Y.sz.num h) (ay X.aq rfl (ay Y.aq rfl (dB (dc X.b Y.b h) ⟨_,_,rfl,Int.mul_ne_zero (Mx.den_nz p) (Mx.den_nz q),k⟩)))))
def x4:b_:=fun ds st K=>∃x y p q a b,ds=[x,y]/\Fq st x p a/\Fq st y q b/\a+b<=130000000/\q.num≠0/\K (e9 (p/q)) st
def tI:List Str:=["one","other"]
def Iv:DS:=(bI (aB m4 (af (aw dg (aw aS (ae 0) (dC (.int 0))) (aw aS (ae 1) (dC (.int 1)))) (af (aw dg (aw aS (ae 0) (dC (.int 1))) (aw aS (ae 1) (dC (.int 0)))) ao))))
theorem GV:∀ds st K,x4 ds st K->ds.length=2/\Iv {nx:=fun _ st'=>K .aE st',rt:=K} (aT tI ds) st:=by
 rintro ds st K ⟨x,y,p,q,a,b,rfl,X,Y,h,hq,k⟩;refine⟨rfl,?_⟩;rw[Mx.div_eq]at k;exact ay X.aq rfl (ay Y.aq rfl (dB (dc X.sz.num Y.b h) (ay X.aq rfl (ay Y.aq rfl (dB (dc X.b Y.sz.num h) ⟨_,_,rfl,Int.mul_ne_zero (Mx.den_nz p) hq,k⟩)))))
def kj:b_:=fun ds st K=>∃n:Int,ds=[.int n]/\K (e9 (n:Rat)) st
def rl:List Str:=["n"]
def Hz:DS:=(bI (kb (af (ae 0) (af (dC (.int 1)) ao))))
theorem ED:∀ds st K,kj ds st K->ds.length=1/\Hz {nx:=fun _ st'=>K .aE st',rt:=K} (aT rl ds) st:=by
 rintro ds st K ⟨n,rfl,k⟩;exact⟨rfl,Nat.le_of_ble_eq_true rfl,k⟩
def qt:b_:=fun ds st K=>∃q:Rat,ds=[e9 q]/\K (.bl true) st
def nz:List Str:=["thing"]
def BI:DS:=(bI (jV (aB lV (af (ae 0) (af (dC (.int 2)) ao))) (jV (aw qH (aw aS (ae 0) (dC (.int 1))) (dC (.int 0))) (aw iK (aB o9 (af (aw aS (ae 0) (dC (.int 0))) (af (aw aS (ae 0) (dC (.int 1))) ao))) (dC (.int 1))))))
theorem AS{st:ag}{r:List Int}(h:r.length<=1000):Thing st (bh r):=⟨⟨_,rfl⟩,fun xs hx=>by
 have e:xs=aJ r:=by cases hx;rfl
 subst e;refine⟨fun x hx=>?_,cY (by rw[List.length_map];exact h)⟩;obtain⟨i,_,rfl⟩:=List.mem_map.mp hx;exact⟨_,rfl⟩⟩
theorem Bp:∀ds st K,qt ds st K->ds.length=1/\BI {nx:=fun _ st'=>K .aE st',rt:=K} (aT nz ds) st:=by
 rintro ds st K ⟨q,rfl,k⟩;refine⟨rfl,?_⟩;refine⟨_,2,rfl,AS (r:=[q.num,((q.den:Nat):Int)]) (Nat.le_of_ble_eq_true rfl),?_⟩;have hd:=q.den_pos;refine fe (ay rfl rfl (MA (by omega) (fe (ay rfl rfl (ay rfl rfl ⟨_,_,rfl,?_⟩)))));have hg:Nat.gcd q.num.natAbs ((q.den:Nat):Int).natAbs=1:=q.reduced;rw[hg];exact eqT rfl k
def nQ:b_:=fun ds st K=>∃(d:D) (A:List (List Int)),ds=[d]/\iZ st d A/\A.length<=1000/\K (di A) st
def nB:List Str:=["rows"]
def Dn:DS:=(bI (bZ c5 (af (eK (fz (ae 0)) [none] (cq 0) cN (bZ c5 (af (ae 0) ao))) ao)))
theorem ma{tg:fN}{te:DE}{ok:ag->Prop}{σc:bG}{st:ag}{K:List D->ag->Prop}{ds:List D}{A:List (List Int)}(f:List Int->D)(aK:ok st)(hr:cu st ds A)(hx:∀d r,r∈A->items? st d=some (aJ r)->∀K',K' (f r) st->∃σ2,tg d σc=some σ2/\te σ2 st K')(k:K (A.map f) st):cR tg cN te ok σc ds [] st K:=by
 refine kG (fun rest acc st'=>∃(A1 A2:List (List Int)),st=st'/\A1++A2=A/\cu st rest A2/\acc=A1.map f) ?_ ?_ _ _ _ ⟨[],A,rfl,rfl,hr,rfl⟩
 . rintro acc st' ⟨A1,A2,rfl,he,h,rfl⟩;match A2,h with
   | [],_=>
     rw[List.append_nil]at he;subst he;exact⟨aK,k⟩
 . rintro d rest acc st' ⟨A1,A2,rfl,he,h,rfl⟩ next
   match A2,h with
   |r::A2,h=>
    obtain⟨σ2,e2,q⟩:=hx d r (by rw[<-he];simp) h.1 (fun y st2=>cR tg cN te ok σc rest (A1.map f++[y]) st2 K) (next _ _ ⟨A1++[r],A2,rfl,by rw[<-he];simp,h.2,by simp⟩);exact⟨aK,σ2,e2,q⟩
theorem Ad:∀ds st K,nQ ds st K->ds.length=1/\Dn {nx:=fun _ st'=>K .aE st',rt:=K} (aT nB ds) st:=by
 rintro ds st K ⟨d,A,rfl,⟨da,hd,ra⟩,hl,k⟩;refine⟨rfl,?_⟩;refine rg hd fun ok aK=>⟨cY (by rw[ra.len];exact hl),?_⟩
 refine ma bh aK ra (fun e r hr he K' q=>⟨_,rfl,cK he q⟩) ?_;exact cK rfl k
def j9:b_:=fun ds st K=>∃x y t r s,ds=[x,.int t,y]/\items? st x=some (aJ r)/\items? st y=some (aJ s)/\r.length<=1000/\(∀b∈s,IntMulOk t b)/\K (bc (Mx.gb r t s)) st
def rK:List Str:=["row","times","other"]
def GO:DS:=(bI (eK (yq (af (ae 0) (af (ae 2) ao))) [none,none,some 1] (mv 0 1) cN (aw fL (ae 0) (aw dg (ae 2) (ae 1)))))
theorem vD{t:Int}:∀(r s:List Int),(h7 (aJ r) (aJ s)).map (fun d=>match d with| .tup [.int a,.int b]=> .int (a+t*b)|_=> .aE)=aJ (Mx.gb r t s)
 | [],_=>rfl
 |_::_,[]=>rfl
 |a::r,b::s=>by
  have:=vD (t:=t) r s;unfold h7 Mx.gb at this⊢;simp only[aJ,List.map_cons,List.zip_cons_cons,List.zipWith_cons_cons]at this⊢;rw[this]
theorem En:∀ds st K,j9 ds st K->ds.length=3/\GO {nx:=fun _ st'=>K .aE st',rt:=K} (aT rK ds) st:=by
 rintro ds st K ⟨x,y,t,r,s,rfl,hx,hy,hl,hm,k⟩;refine⟨rfl,?_⟩;refine yK hx hy fun ok aK=>⟨cY (by rw[xJ];simp;omega),?_⟩
 refine comp_map (g:=fun d=>match d with| .tup [.int a,.int b]=> .int (a+t*b)|_=> .aE) (aK st hx hy) _ (fun d hd K' q=>?_) ?_
 . obtain⟨a,b,ha,hb,rfl⟩:=Es hd;exact⟨_,rfl,dB (hm b hb) (gE q)⟩
 . rw[vD];exact k
def i9:b_:=fun ds st K=>∃(x y:D) (n:Nat) (ws:List Int) (A:List (List Int)),ds=[x,y,.int n]/\items? st x=some (aJ ws)/\iZ st y A/\(∀r∈A,r.length=n)/\n<=1000/\(∀w∈ws,∀r∈A,∀b∈r,IntMulOk w b)/\K (bh (Mx.cM ws A (List.replicate n 0))) st
def pD:List Str:=["weights","rows","wide","total","weight","row"]
def D6:DS:=(aL (bf 3 (aw dg (uR (af (dC (.int 0)) ao)) (ae 2)))
 (aL (lP (yq (af (ae 0) (af (ae 1) ao))) (mv 4 5) (bf 3 (aB j9 (af (ae 3) (af (ae 4) (af (ae 5) ao))))))
 (bI (bZ c5 (af (ae 3) ao)))))
theorem BE:∀ds st K,i9 ds st K->ds.length=3/\D6 {nx:=fun _ st'=>K .aE st',rt:=K} (aT pD ds) st:=by
 rintro ds st K ⟨x,y,n,ws,A,rfl,hx,⟨dr,hy,hr⟩,hw,hn,hm,k⟩;refine⟨rfl,?_⟩;refine Mq (Nat.le_of_ble_eq_true rfl) (Hq ⟨by omega,by omega,cY (by simp;omega)⟩ ?_);rw[Int.toNat_natCast,xQ];refine yK hx hy fun ok aK=>?_
 refine ju (fun rest σ st'=>∃(v4 v5:Option D) (ws':List Int) (ds':List D) (A':List (List Int)) (acc:List Int),st=st'/\rest=h7 (aJ ws') ds'/\cu st ds' A'/\σ=[some x,some y,some (.int n),some (bc acc),v4,v5]/\acc.length=n/\(∀r∈A',r∈A)/\(∀w∈ws',w∈ws)/\Mx.cM ws' A' acc=Mx.cM ws A (List.replicate n 0)) ?_ ?_ _ _ _
  ⟨none,none,ws,dr,A,List.replicate n 0,rfl,rfl,hr,rfl,by simp,fun _ h=>h,fun _ h=>h,rfl⟩
 . rintro σ st1 ⟨v4,v5,ws',ds',A',acc,rfl,he,hr',rfl,hl,_,_,hs⟩;refine⟨aK _ hx hy,cK rfl ?_⟩
   have:Mx.cM ws' A' acc=acc:=by
    match ws',ds',A',hr',he with
    | [],_,_,_,_=>unfold Mx.cM;rfl
    |_::_,[],[],_,_=>unfold Mx.cM;rfl
    |_::_,_::_,_::_,_,he=>cases he
   rw[this]at hs;rw[hs];exact k
 . rintro d rest σ st1 ⟨v4,v5,ws',ds',A',acc,rfl,he,hr',rfl,hl,ha,hw',hs⟩ next
   match ws',ds',A',hr',he with
   |w::ws',e::ds',r::A',hr',he=>
    simp only[aJ,List.map_cons,CS,List.cons.injEq]at he;obtain⟨rfl,rfl⟩:=he;refine⟨aK _ hx hy,_,rfl,?_⟩;have hrl:=hw r (ha r List.mem_cons_self);refine⟨_,_,_,acc,r,rfl,rfl,hr'.1,by omega,fun b hb=>hm w (hw' w List.mem_cons_self) r (ha r List.mem_cons_self) b hb,?_⟩;refine next _ _ ⟨_,_,ws',ds',A',Mx.gb acc w r,rfl,rfl,hr'.2,rfl,by rw[Mx.ni (by omega)];exact hl,fun q hq=>ha q (List.mem_cons_of_mem _ hq),fun q hq=>hw' q (List.mem_cons_of_mem _ hq),?_⟩
    rw[<-hs];rfl
   | [],_,_,_,he=>cases he
   |_::_,[],[],_,he=>cases he
def tF:b_:=fun ds st K=>∃(d:D) (A:List (List Int)) (j:Nat),ds=[d,.int j]/\iZ st d A/\(∀r∈A,j<r.length)/\A.length<=1000/\K (bh (Mx.pK A j)) st
def o4:List Str:=["rows","place"]
def Eg:DS:=(bI (bZ c5 (af (eK (fz (ae 0)) [none,some 1] (cq 0) cN (aw aS (ae 0) (ae 1))) ao)))
theorem BU{tg:fN}{te:DE}{ok:ag->Prop}{σc:bG}{st:ag}{K:List D->ag->Prop}{ds:List D}{A:List (List Int)}(f:List Int->D)(aK:ok st)(hr:cu st ds A)(hx:∀d r,r∈A->items? st d=some (aJ r)->∀K',K' (f r) st->∃σ2,tg d σc=some σ2/\te σ2 st K')(k:K (A.map f) st):cR tg cN te ok σc ds [] st K:=by
 refine kG (fun rest acc st'=>∃(A1 A2:List (List Int)),st=st'/\A1++A2=A/\cu st rest A2/\acc=A1.map f) ?_ ?_ _ _ _ ⟨[],A,rfl,rfl,hr,rfl⟩
 . rintro acc st' ⟨A1,A2,rfl,he,h,rfl⟩;match A2,h with
   | [],_=>
     rw[List.append_nil]at he;subst he;exact⟨aK,k⟩
 . rintro d rest acc st' ⟨A1,A2,rfl,he,h,rfl⟩ next
   match A2,h with
   |r::A2,h=>
    obtain⟨σ2,e2,q⟩:=hx d r (by rw[<-he];simp) h.1 (fun y st2=>cR tg cN te ok σc rest (A1.map f++[y]) st2 K) (next _ _ ⟨A1++[r],A2,rfl,by rw[<-he];simp,h.2,by simp⟩);exact⟨aK,σ2,e2,q⟩
theorem CW(A:List (List Int))(j:Nat):A.map (fun r=>D.int (r.getD j 0))=aJ (Mx.pK A j):=by unfold Mx.pK aJ;rw[List.map_map];rfl
theorem BO:∀ds st K,tF ds st K->ds.length=2/\Eg {nx:=fun _ st'=>K .aE st',rt:=K} (aT o4 ds) st:=by
 rintro ds st K ⟨d,A,j,rfl,⟨da,hd,ra⟩,hj,hl,k⟩;refine⟨rfl,?_⟩;refine rg hd fun ok aK=>⟨cY (by rw[ra.len];exact hl),?_⟩
 refine BU (fun r=> .int (r.getD j 0)) aK ra (fun e r hr he K' q=>⟨_,rfl,ay he (iq (hj r hr)) q⟩) ?_;rw[CW];exact cK rfl k
def ft:b_:=fun ds st K=>∃(d:D) (A:List (List Int)) (n:Nat),ds=[d,.int n]/\iZ st d A/\(∀r∈A,r.length=n)/\A.length<=1000/\n<=1000/\K (di (Mx.iX A n)) st
def iY:List Str:=["rows","wide"]
def we:DS:=(bI (bZ c5 (af (eK (gJ (af (ae 1) ao)) [none,some 0] (cq 0) cN (aB tF (af (ae 1) (af (ae 0) ao)))) ao)))
theorem DM(A:List (List Int))(n:Nat):(List.range n).map (fun j=>bh (Mx.pK A j))=(Mx.iX A n).map bh:=by unfold Mx.iX;rw[List.map_map];rfl
theorem vq:∀ds st K,ft ds st K->ds.length=2/\we {nx:=fun _ st'=>K .aE st',rt:=K} (aT iY ds) st:=by
 rintro ds st K ⟨d,A,n,rfl,hd,hw,hl,hn,k⟩;refine⟨rfl,?_⟩;refine kv ⟨by omega,by omega⟩ ⟨cY (by rw[gm];omega),?_⟩;rw[Int.toNat_natCast];refine pE (fun j=>bh (Mx.pK A j)) n (fun i hi K' q=>⟨_,rfl,d,A,i,rfl,hd,fun r hr=>by rw[hw r hr];exact hi,hl,q⟩) ?_;rw[DM];exact cK rfl k
def pQ:b_:=fun ds st K=>∃(n i:Nat),ds=[.int n,.int i]/\n<=1000/\K (bh (Mx.jn n i)) st
def mj:List Str:=["n","place"]
def Br:DS:=(bI (bZ c5 (af (eK (gJ (af (ae 0) ao)) [none,some 1] (cq 0) cN (Fs (cm (aw iK (ae 0) (ae 1))) (dC (.int 1)) (dC (.int 0)))) ao)))
theorem yW:∀ds st K,pQ ds st K->ds.length=2/\Br {nx:=fun _ st'=>K .aE st',rt:=K} (aT mj ds) st:=by
 rintro ds st K ⟨n,i,rfl,hn,k⟩;refine⟨rfl,?_⟩;refine kv ⟨by omega,by omega⟩ ⟨cY (by rw[gm];omega),?_⟩;rw[Int.toNat_natCast];refine pE (fun j=> .int (Mx.dl j i)) n (fun j hj K' q=>⟨_,rfl,?_⟩) ?_
 . refine eq2 (fun h=>fe ?_) fun h=>?_
   . have:j=i:=by omega
     subst this;rw[Mx.dW]at q;exact q
   . rw[Mx.eg (by omega)]at q;exact q
 . have:(List.range n).map (fun j=>D.int (Mx.dl j i))=aJ (Mx.jn n i):=by unfold Mx.jn aJ;rw[List.map_map];rfl
   rw[this];exact cK rfl k
def k9:b_:=fun ds st K=>∃(n:Nat),ds=[.int n]/\n<=1000/\K (di (Mx.units n)) st
def k6:List Str:=["n"]
def zj:DS:=(bI (bZ c5 (af (eK (gJ (af (ae 0) ao)) [none,some 0] (cq 0) cN (aB pQ (af (ae 1) (af (ae 0) ao)))) ao)))
theorem xj:∀ds st K,k9 ds st K->ds.length=1/\zj {nx:=fun _ st'=>K .aE st',rt:=K} (aT k6 ds) st:=by
 rintro ds st K ⟨n,rfl,hn,k⟩;refine⟨rfl,?_⟩;refine kv ⟨by omega,by omega⟩ ⟨cY (by rw[gm];omega),?_⟩;rw[Int.toNat_natCast];refine pE (fun i=>bh (Mx.jn n i)) n (fun i hi K' q=>⟨_,rfl,n,i,rfl,hn,q⟩) ?_;have:(List.range n).map (fun i=>bh (Mx.jn n i))=(Mx.units n).map bh:=by unfold Mx.units;rw[List.map_map];rfl
 rw[this];exact cK rfl k
def iF:List Int->Nat->Option Nat
 | [],_=>none
 |x::xs,i=>if x=0 then iF xs (i+1)else some i
def ie(r:List Int):Option Nat:=iF r 0
def fv(r:List Int):D:=match ie r with
 |some k=> .int (k:Int)
 |none=> .aE
def gf:b_:=fun ds st K=>∃(d:D) (r:List Int),ds=[d]/\items? st d=some (aJ r)/\K (fv r) st
def nE:List Str:=["row","place","number"]
def Cm:DS:=(aL (lP (A4 (af (ae 0) ao)) (mv 1 2) (eA (cm (aw sI (ae 2) (dC (.int 0)))) (bI (ae 1)) dQ))
 (bI (dC .aE)))
theorem Ao:∀ds st K,gf ds st K->ds.length=1/\Cm {nx:=fun _ st'=>K .aE st',rt:=K} (aT nE ds) st:=by
 rintro ds st K ⟨d,r,rfl,hd,k⟩;refine⟨rfl,?_⟩;refine Gn hd fun ok aK=>?_;refine ju (fun rest σ st'=>st'=st/\∃(v1 v2:Option D) (s:List Int) (i:Nat),σ=[some d,v1,v2]/\rest=i4 i (aJ s)/\iF r 0=iF s i) ?_ ?_ _ _ _ ⟨rfl,none,none,r,0,rfl,rfl,rfl⟩
 . rintro σ st' ⟨rfl,v1,v2,s,i,rfl,hr,hl⟩;match s,hr with
   | [],_=>
     refine⟨aK _ hd,?_⟩;have:fv r= .aE:=by unfold fv ie;rw[hl];rfl
     rw[this]at k;exact k
 . rintro x rest σ st' ⟨rfl,v1,v2,s,i,rfl,hr,hl⟩ next
   match s,hr,hl with
   |y::s,hr,hl=>
    simp only[aJ,List.map_cons,i4,List.cons.injEq]at hr;obtain⟨rfl,rfl⟩:=hr;refine⟨aK _ hd,_,rfl,?_⟩;refine ne2 (fun h=>fe ?_) fun h=>?_
    . have:fv r= .int (i:Int):=by unfold fv ie;rw[hl];unfold iF;rw[if_neg h]
      rw[this]at k;exact k
    . refine next _ _ ⟨rfl,_,_,s,i+1,rfl,rfl,?_⟩
      rw[hl];unfold iF;rw[if_pos h];cases s<;>rfl
   | [],hr,_=>cases hr
theorem yp:∀(r:List Int) (i l:Nat),(∀c,c<l->r.getD c 0=0)->r.getD l 0≠0->iF r i=some (i+l)
 | [],_,_,_,h=>(h rfl).elim
 |x::r,i,0,_,h=>by
  unfold iF;rw[if_neg (show¬x=0 from h)];rfl
 |x::r,i,l+1,hz,h=>by
  unfold iF;rw[if_pos (show x=0 from hz 0 (Nat.zero_lt_succ _)),yp r (i+1) l (fun c hc=>hz (c+1) (Nat.succ_lt_succ hc)) h,Nat.add_right_comm];rfl
theorem pN:∀(r:List Int) (i:Nat),iF r i=none->∀c,r.getD c 0=0
 | [],_,_,_=>rfl
 |x::r,i,h,c=>by
  unfold iF at h;split at h
  . cases c with
    |zero=>assumption
    |succ c=>exact pN r (i+1) h c
  . cases h
theorem C6{r:List Int}{l:Nat}(h:∀c,c<l->r.getD c 0=0)(h':r.getD l 0≠0):ie r=some l:=by
 have:=yp r 0 l h h';rw[Nat.zero_add]at this;exact this
def h8:b_:=fun ds st K=>∃(t d:Int),ds=[.int t,.int d]/\d≠0/\K (.int (Mx.qn t d)) st
def fD:List Str:=["top","bottom"]
def qL:DS:=(bI (aw jH (aw fL (aw dg (dC (.int 2)) (ae 0)) (ae 1)) (aw dg (dC (.int 2)) (ae 1))))
theorem p7:∀ds st K,h8 ds st K->ds.length=2/\qL {nx:=fun _ st'=>K .aE st',rt:=K} (aT fD ds) st:=by
 rintro ds st K ⟨t,d,rfl,hd,k⟩;exact⟨rfl,dB (ka (by decide) (by decide)) (gE (dB (ka (by decide) (by decide)) (jj (by omega) k)))⟩
def iP:b_:=fun ds st K=>∃(n k o:Nat) (A:List (List Int)),ds=[.ref n,.int k,.int o]/\st[n]?=some (.lst (A.map bc))/\k<A.length/\o<A.length/\K (.ref st.length) (st++[.lst ((Mx.bg A k o).map bc)])
def kW:List Str:=["rows","k","other","order"]
def zc:DS:=(aL (bf 3 (bZ oM (af (ae 0) ao)))
 (aL (eG (ae 3) (ae 1) (aw aS (ae 0) (ae 2)))
 (aL (eG (ae 3) (ae 2) (aw aS (ae 0) (ae 1)))
 (bI (ae 3)))))
theorem c9{A:List (List Int)}{j:Nat}(h:j<A.length):dP (A.map bc) (j:Int)=some (bc (A.getD j [])):=by
 refine mF ?_;rw[List.getElem?_map,List.getElem?_eq_getElem h,Mx.a7 h];rfl
theorem lj{m k:Nat}(h:k<m):iL m (k:Int)=some k:=by
 have:=KQ (i:=(k:Int)) (m:=m) (by omega) (by omega);rw[Int.toNat_natCast]at this;exact this
theorem gF{A:List (List Int)}{k:Nat}{r:List Int}:(A.map bc).set k (bc r)=(A.set k r).map bc:=by rw[List.map_set]
theorem yE:∀ds st K,iP ds st K->ds.length=3/\zc {nx:=fun _ st'=>K .aE st',rt:=K} (aT kW ds) st:=by
 rintro ds st K ⟨n,k,o,A,rfl,e,hk,ho,kk⟩;refine⟨rfl,?_⟩;have hn:n<st.length:=(List.getElem?_eq_some_iff.mp e).1;refine xp (aM e) ?_;have e1:(st++[Cell.lst (A.map bc)])[n]?=some (.lst (A.map bc)):=by rw[List.getElem?_append_left hn];exact e
 have e2:(st++[Cell.lst (A.map bc)])[st.length]?=some (.lst (A.map bc)):=by simp
 refine ay (aM e1) (c9 ho) (gD e2 (by rw[List.length_map];exact lj hk) ?_);rw[gF]
 have es:(st++[Cell.lst (A.map bc)]).set st.length (.lst ((A.set k (A.getD o [])).map bc))=st++[Cell.lst ((A.set k (A.getD o [])).map bc)]:=by
  rw[List.set_append_right _ _ (Nat.le_refl _),Nat.sub_self];rfl
 rw[es];have e3:(st++[Cell.lst ((A.set k (A.getD o [])).map bc)])[n]?=some (.lst (A.map bc)):=by rw[List.getElem?_append_left hn];exact e
 have e4:(st++[Cell.lst ((A.set k (A.getD o [])).map bc)])[st.length]?=some (.lst ((A.set k (A.getD o [])).map bc)):=by simp
 refine ay (aM e3) (c9 hk) (gD e4 (by rw[List.length_map,List.length_set];exact lj ho) ?_);rw[gF]
 have es2:(st++[Cell.lst ((A.set k (A.getD o [])).map bc)]).set st.length (.lst (((A.set k (A.getD o [])).set o (A.getD k [])).map bc))=st++[Cell.lst ((Mx.bg A k o).map bc)]:=by
  rw[List.set_append_right _ _ (Nat.le_refl _),Nat.sub_self];rfl
 rw[es2];exact kk
def lz:b_:=fun ds st K=>∃(d:D) (r:List Int),ds=[d]/\items? st d=some (aJ r)/\r.length<=1000/\K (bc (r.map fun x=> -x)) st
def nO:List Str:=["row"]
def Cq:DS:=(bI (eK (fz (ae 0)) [none] (cq 0) cN (nC iN (ae 0))))
theorem Bg:∀ds st K,lz ds st K->ds.length=1/\Cq {nx:=fun _ st'=>K .aE st',rt:=K} (aT nO ds) st:=by
 rintro ds st K ⟨d,r,rfl,hd,hl,k⟩;refine⟨rfl,?_⟩;refine rg hd fun ok aK=>⟨cY (by unfold aJ;rw[List.length_map];exact hl),?_⟩
 refine comp_map (g:=fun x=>match x with| .int a=> .int (-a)|_=> .aE) aK _ (fun x hx K' q=>?_) ?_
 . unfold aJ at hx;obtain⟨a,_,rfl⟩:=List.mem_map.mp hx;exact⟨_,rfl,il q⟩
 . have e:(aJ r).map (fun x=>match x with| .int a=> .int (-a)|_=> .aE)=aJ (r.map fun x=> -x):=by unfold aJ;rw[List.map_map,List.map_map];rfl
   rw[e];exact k
structure Bn(st:ag)(b xb xu xc:Nat)(A U C:List (List Int)):Prop where
 eb:st[b]?=some (Cell.ins aA [("body",.ref xb),("turn",.ref xu),("back_columns",.ref xc)])
 e1:st[xb]?=some (Cell.lst (A.map bc))
 e2:st[xu]?=some (Cell.lst (U.map bc))
 e3:st[xc]?=some (Cell.lst (C.map bc))
 n1:xb≠xu
 n2:xb≠xc
 n3:xu≠xc
theorem jE{st:ag}{b x:Nat}{C:Addr}{fs:List (Str×D)}{xs:List D}(h1:st[b]?=some (Cell.ins C fs))(h2:st[x]?=some (Cell.lst xs)):b≠x:=fun z=>by rw[z,h2]at h1;cases h1
def jg:b_:=fun ds st K=>∃(b N:Nat) (d:D) (A:List (List Int)),ds=[.ref b,d]/\st[b]?=some (.ins aA [])/\iZ st d A/\A.length=N/\N<=8/\∀st',Bn st' b st.length (st.length+1) (st.length+2) A (Mx.units N) (Mx.units N)->st'.length=st.length+3->(∀m,m<st.length->m≠b->st'[m]?=st[m]?)->K .aE st'
def gq:List Str:=["self","rows"]
def sT:DS:=(aL (nK aA "body" (ae 0) (qy (fz (ae 1)) [none] (cq 0) cN (bZ nJ (af (ae 0) ao))))
 (aL (nK aA "turn" (ae 0) (qy (fz (aB k9 (af (bZ eP (af (ae 1) ao)) ao))) [none] (cq 0) cN (bZ nJ (af (ae 0) ao))))
 (nK aA "back_columns" (ae 0) (qy (fz (aB k9 (af (bZ eP (af (ae 1) ao)) ao))) [none] (cq 0) cN (bZ nJ (af (ae 0) ao))))))
theorem pP(f:Str)(v:D):∀fs:List (Str×D),(putD f v fs).length<=fs.length+1
 | []=>by simp[putD]
 |(g,x)::r=>by
  unfold putD;split
  . simp
  . have:=pP f v r;simp only[List.length_cons];omega
theorem yG{st:ag}{A:List (List Int)}:cu st (A.map bh) A:=cu.tup
theorem vF(n:Nat):(Mx.units n).length=n:=by unfold Mx.units;simp
theorem rY:∀ds st K,jg ds st K->ds.length=2/\sT {nx:=fun _ st'=>K .aE st',rt:=K} (aT gq ds) st:=by
 rintro ds st K ⟨b,N,d,A,rfl,eb,hA,hl,hN,k⟩;refine⟨rfl,?_⟩;have hb:b<st.length:=(List.getElem?_eq_some_iff.mp eb).1;obtain⟨da,hd,ra⟩:=hA.ex;have hdl:=ra.len;have lst:∀(e:D) (r:List Int),True:=fun _ _=>trivial;refine rg hd fun ok aK=>⟨cY (by omega),?_⟩
 refine ma bc aK ra (fun e r hr he K' q=>⟨_,rfl,rT he q⟩) ?_;have eb1:(st++[Cell.lst (A.map bc)])[b]?=some (.ins aA []):=by rw[List.getElem?_append_left hb];exact eb
 refine mz eb1 (by decide) ?_;generalize hs1:(st++[Cell.lst (A.map bc)]).set b (.ins aA (putD "body" (.ref st.length) []))=st1;have l1:st1.length=st.length+1:=by rw[<-hs1];simp
 have f1:∀m,m<st.length->m≠b->st1[m]?=st[m]?:=fun m hm hmb=>by rw[<-hs1,List.getElem?_set_ne (Ne.symm hmb),List.getElem?_append_left hm]
 have b1:st1[b]?=some (.ins aA (putD "body" (.ref st.length) [])):=by rw[<-hs1,List.getElem?_set_self (by simp;omega)]
 have x1:st1[st.length]?=some (.lst (A.map bc)):=by rw[<-hs1,List.getElem?_set_ne (by omega)];simp
 clear hs1
 have itd:∃da',items? st1 d=some da'/\da'.length=N:=by
  cases d with
  |ref n=>
   by_cases hnb:n=b
   . subst hnb;unfold items? at hd;simp only[eb]at hd;cases hd
   . have hn:n<st.length:=by
      unfold items? at hd;simp only at hd;cases q:st[n]? with
      |none=>rw[q]at hd;cases hd
      |some c=>exact(List.getElem?_eq_some_iff.mp q).1
     refine⟨da,?_,by omega⟩;unfold items? at hd⊢;simp only at hd⊢;rw[f1 n hn hnb];exact hd
  |_=>exact⟨da,hd,by omega⟩
 obtain⟨da1,hd1,hdl1⟩:=itd;refine dA hd1 ?_;rw[hdl1];refine⟨N,rfl,by omega,?_⟩;refine iE ⟨cY (by rw[List.length_map,vF];omega),?_⟩;refine ma bc trivial yG (fun e r hr he K' q=>⟨_,rfl,rT he q⟩) ?_;have b2:(st1++[Cell.lst ((Mx.units N).map bc)])[b]?=some (.ins aA (putD "body" (.ref st.length) [])):=by rw[List.getElem?_append_left (by omega)];exact b1
 refine mz b2 (by have:=pP "body" (.ref st.length) [];simp only[List.length_nil]at this;omega) ?_;generalize hs2:(st1++[Cell.lst ((Mx.units N).map bc)]).set b (.ins aA (putD "turn" (.ref st1.length) (putD "body" (.ref st.length) [])))=st2;have l2:st2.length=st.length+2:=by rw[<-hs2];simp;omega
 have f2:∀m,m<st1.length->m≠b->st2[m]?=st1[m]?:=fun m hm hmb=>by rw[<-hs2,List.getElem?_set_ne (Ne.symm hmb),List.getElem?_append_left hm]
 have b2':st2[b]?=some (.ins aA (putD "turn" (.ref st1.length) (putD "body" (.ref st.length) []))):=by rw[<-hs2,List.getElem?_set_self (by simp;omega)]
 have x2:st2[st1.length]?=some (.lst ((Mx.units N).map bc)):=by rw[<-hs2,List.getElem?_set_ne (by omega)];simp
 clear hs2
 have itd2:items? st2 d=some da1:=by
  cases d with
  |ref n=>
   by_cases hnb:n=b
   . subst hnb;unfold items? at hd1;simp only[b1]at hd1;cases hd1
   . have hn:n<st1.length:=by
      unfold items? at hd1;simp only at hd1;cases q:st1[n]? with
      |none=>rw[q]at hd1;cases hd1
      |some c=>exact(List.getElem?_eq_some_iff.mp q).1
     unfold items? at hd1⊢;simp only at hd1⊢;rw[f2 n hn hnb];exact hd1
  |_=>exact hd1
 refine dA itd2 ?_;rw[hdl1];refine⟨N,rfl,by omega,?_⟩;refine iE ⟨cY (by rw[List.length_map,vF];omega),?_⟩;refine ma bc trivial yG (fun e r hr he K' q=>⟨_,rfl,rT he q⟩) ?_;have b3:(st2++[Cell.lst ((Mx.units N).map bc)])[b]?=some (.ins aA (putD "turn" (.ref st1.length) (putD "body" (.ref st.length) []))):=by rw[List.getElem?_append_left (by omega)];exact b2'
 refine mz b3 (by have h1:=pP "body" (.ref st.length) [];have h2:=pP "turn" (.ref st1.length) (putD "body" (.ref st.length) []);simp only[List.length_nil]at h1;omega) ?_;refine k _ ⟨?_,?_,?_,?_,by omega,by omega,by omega⟩ (by simp;omega) fun m hm hmb=>?_
 . rw[List.getElem?_set_self (by simp;omega),l1,l2];rfl
 . rw[List.getElem?_set_ne (by omega),List.getElem?_append_left (by omega),f2 _ (by omega) (by omega)];exact x1
 . rw[List.getElem?_set_ne (by omega),List.getElem?_append_left (by omega)];rw[l1]at x2;exact x2
 . rw[List.getElem?_set_ne (by omega)];rw[show st.length+2=st2.length by omega];simp
 . rw[List.getElem?_set_ne (Ne.symm hmb),List.getElem?_append_left (by omega),f2 m (by omega) hmb,f1 m hm hmb]
def j0:b_:=fun ds st K=>∃(b xb xu xc N w k j:Nat) (A U C:List (List Int)) (q:Int),ds=[.ref b,.int k,.int q,.int j]/\Bn st b xb xu xc A U C/\Mx.cy N w A/\Mx.cy N N U/\Mx.cy N N C/\k<N/\j<N/\N<=8/\w<=9/\(∀x∈A.getD j [],IntMulOk (-q) x)/\(∀x∈U.getD j [],IntMulOk (-q) x)/\(∀x∈C.getD k [],IntMulOk q x)/\
 ∀st',Bn st' b xb xu xc (Mx.a8 A k q j) (Mx.a8 U k q j) (Mx.a8 C j (-q) k)->st'.length=st.length->(∀m,m≠xb->m≠xu->m≠xc->st'[m]?=st[m]?)->K .aE st'
def jY:List Str:=["self","k","times","other"]
def yz:DS:=(aL (eG (dv aA "body" (ae 0)) (ae 1) (aB j9 (af (aw aS (dv aA "body" (ae 0)) (ae 1)) (af (nC iN (ae 2)) (af (aw aS (dv aA "body" (ae 0)) (ae 3)) ao)))))
 (aL (eG (dv aA "turn" (ae 0)) (ae 1) (aB j9 (af (aw aS (dv aA "turn" (ae 0)) (ae 1)) (af (nC iN (ae 2)) (af (aw aS (dv aA "turn" (ae 0)) (ae 3)) ao)))))
 (eG (dv aA "back_columns" (ae 0)) (ae 3) (aB j9 (af (aw aS (dv aA "back_columns" (ae 0)) (ae 3)) (af (ae 2) (af (aw aS (dv aA "back_columns" (ae 0)) (ae 1)) ao)))))))
theorem wx:∀ds st K,j0 ds st K->ds.length=4/\yz {nx:=fun _ st'=>K .aE st',rt:=K} (aT jY ds) st:=by
 rintro ds st K ⟨b,xb,xu,xc,N,w,k,j,A,U,C,q,rfl,B,hA,hU,hC,hk,hj,hN,hw,mA,mU,mC,kk⟩;refine⟨rfl,?_⟩;have lA:=hA.len;have lU:=hU.len;have lC:=hC.len;have rA:=Mx.cz hA hk;have rU:=Mx.cz hU hk;have rC:=Mx.cz hC hj;have bx1:=jE B.eb B.e1;have bx2:=jE B.eb B.e2;have bx3:=jE B.eb B.e3;have n1:=B.n1;have n2:=B.n2;have n3:=B.n3;refine cp B.eb rfl (ay (aM B.e1) (c9 (by omega)) (il (cp B.eb rfl (ay (aM B.e1) (c9 (by omega)) ?_))));refine⟨_,_,-q,A.getD k [],A.getD j [],rfl,rfl,rfl,by omega,mA,?_⟩;refine cp B.eb rfl (gD B.e1 (by rw[List.length_map,lA];exact lj hk) ?_);rw[gF];have g1:∀m,m≠xb->(st.set xb (.lst ((A.set k (Mx.gb (A.getD k []) (-q) (A.getD j []))).map bc)))[m]?=st[m]?:=fun m hm=>List.getElem?_set_ne (Ne.symm hm);have h1:(st.set xb (.lst ((A.set k (Mx.gb (A.getD k []) (-q) (A.getD j []))).map bc)))[xb]?=some (.lst ((Mx.a8 A k q j).map bc)):=List.getElem?_set_self (List.getElem?_eq_some_iff.mp B.e1).1;have z1:(st.set xb (.lst ((A.set k (Mx.gb (A.getD k []) (-q) (A.getD j []))).map bc))).length=st.length:=List.length_set;generalize st.set xb (.lst ((A.set k (Mx.gb (A.getD k []) (-q) (A.getD j []))).map bc))=st1 at g1 h1 z1⊢;have eb1:=(g1 b bx1).trans B.eb;have e21:=(g1 xu (Ne.symm n1)).trans B.e2;have e31:=(g1 xc (Ne.symm n2)).trans B.e3;refine cp eb1 rfl (ay (aM e21) (c9 (by omega)) (il (cp eb1 rfl (ay (aM e21) (c9 (by omega)) ?_))));refine⟨_,_,-q,U.getD k [],U.getD j [],rfl,rfl,rfl,by omega,mU,?_⟩;refine cp eb1 rfl (gD e21 (by rw[List.length_map,lU];exact lj hk) ?_);rw[gF];have g2:∀m,m≠xu->(st1.set xu (.lst ((U.set k (Mx.gb (U.getD k []) (-q) (U.getD j []))).map bc)))[m]?=st1[m]?:=fun m hm=>List.getElem?_set_ne (Ne.symm hm);have h2:(st1.set xu (.lst ((U.set k (Mx.gb (U.getD k []) (-q) (U.getD j []))).map bc)))[xu]?=some (.lst ((Mx.a8 U k q j).map bc)):=List.getElem?_set_self (List.getElem?_eq_some_iff.mp e21).1;have z2:(st1.set xu (.lst ((U.set k (Mx.gb (U.getD k []) (-q) (U.getD j []))).map bc))).length=st1.length:=List.length_set;generalize st1.set xu (.lst ((U.set k (Mx.gb (U.getD k []) (-q) (U.getD j []))).map bc))=st2 at g2 h2 z2⊢;have eb2:=(g2 b bx2).trans eb1;have e32:=(g2 xc (Ne.symm n3)).trans e31;refine cp eb2 rfl (ay (aM e32) (c9 (by omega)) (cp eb2 rfl (ay (aM e32) (c9 (by omega)) ?_)));refine⟨_,_,q,C.getD j [],C.getD k [],rfl,rfl,rfl,by omega,mC,?_⟩;refine cp eb2 rfl (gD e32 (by rw[List.length_map,lC];exact lj hj) ?_);rw[gF];have hc:C.set j (Mx.gb (C.getD j []) q (C.getD k []))=Mx.a8 C j (-q) k:=by unfold Mx.a8;rw[Int.neg_neg]
 rw[hc];refine kk _ ⟨?_,?_,?_,?_,n1,n2,n3⟩ (by rw[List.length_set];omega) fun m m1 m2 m3=>?_
 . rw[List.getElem?_set_ne (Ne.symm bx3)];exact eb2
 . rw[List.getElem?_set_ne (Ne.symm n2),g2 _ n1];exact h1
 . rw[List.getElem?_set_ne (Ne.symm n3)];exact h2
 . exact List.getElem?_set_self (List.getElem?_eq_some_iff.mp e32).1
 . rw[List.getElem?_set_ne (Ne.symm m3),g2 m m2,g1 m m1]
def ji:b_:=fun ds st K=>∃(b xb xu xc N w k o:Nat) (A U C:List (List Int)),ds=[.ref b,.int k,.int o]/\Bn st b xb xu xc A U C/\Mx.cy N w A/\Mx.cy N N U/\Mx.cy N N C/\k<N/\o<N/\
 ∀st',Bn st' b st.length (st.length+1) (st.length+2) (Mx.bg A k o) (Mx.bg U k o) (Mx.bg C k o)->st'.length=st.length+3->(∀m,m<st.length->m≠b->st'[m]?=st[m]?)->K .aE st'
def gj:List Str:=["self","k","other"]
def sV:DS:=(aL (nK aA "body" (ae 0) (aB iP (af (dv aA "body" (ae 0)) (af (ae 1) (af (ae 2) ao)))))
 (aL (nK aA "turn" (ae 0) (aB iP (af (dv aA "turn" (ae 0)) (af (ae 1) (af (ae 2) ao)))))
 (nK aA "back_columns" (ae 0) (aB iP (af (dv aA "back_columns" (ae 0)) (af (ae 1) (af (ae 2) ao)))))))
theorem r8:∀ds st K,ji ds st K->ds.length=3/\sV {nx:=fun _ st'=>K .aE st',rt:=K} (aT gj ds) st:=by
 rintro ds st K ⟨b,xb,xu,xc,N,w,k,o,A,U,C,rfl,B,hA,hU,hC,hk,ho,kk⟩;refine⟨rfl,?_⟩;have lA:=hA.len;have lU:=hU.len;have lC:=hC.len;have bx1:=jE B.eb B.e1;have bx2:=jE B.eb B.e2;have bx3:=jE B.eb B.e3;have hb:b<st.length:=(List.getElem?_eq_some_iff.mp B.eb).1;have hu:xu<st.length:=(List.getElem?_eq_some_iff.mp B.e2).1;have hc:xc<st.length:=(List.getElem?_eq_some_iff.mp B.e3).1;refine cp B.eb rfl ?_;refine⟨xb,k,o,A,rfl,B.e1,by omega,by omega,?_⟩;have eb1:(st++[Cell.lst ((Mx.bg A k o).map bc)])[b]?=some (.ins aA [("body",.ref xb),("turn",.ref xu),("back_columns",.ref xc)]):=by rw[List.getElem?_append_left hb];exact B.eb
 refine mz eb1 (by simp) ?_;have pb:putD "body" (.ref st.length) [("body",.ref xb),("turn",.ref xu),("back_columns",.ref xc)]=([("body",.ref st.length),("turn",.ref xu),("back_columns",.ref xc)]:List (Str×D)):=rfl;rw[pb];generalize hs1:(st++[Cell.lst ((Mx.bg A k o).map bc)]).set b (.ins aA [("body",.ref st.length),("turn",.ref xu),("back_columns",.ref xc)])=st1;have l1:st1.length=st.length+1:=by rw[<-hs1];simp
 have f1:∀m,m<st.length->m≠b->st1[m]?=st[m]?:=fun m hm hmb=>by rw[<-hs1,List.getElem?_set_ne (Ne.symm hmb),List.getElem?_append_left hm]
 have b1:st1[b]?=some (.ins aA [("body",.ref st.length),("turn",.ref xu),("back_columns",.ref xc)]):=by rw[<-hs1,List.getElem?_set_self (by simp;omega)]
 have x1:st1[st.length]?=some (.lst ((Mx.bg A k o).map bc)):=by rw[<-hs1,List.getElem?_set_ne (by omega)];simp
 clear hs1 eb1;refine cp b1 rfl ?_;refine⟨xu,k,o,U,rfl,(f1 xu hu (Ne.symm bx2)).trans B.e2,by omega,by omega,?_⟩;have eb1:(st1++[Cell.lst ((Mx.bg U k o).map bc)])[b]?=some (.ins aA [("body",.ref st.length),("turn",.ref xu),("back_columns",.ref xc)]):=by rw[List.getElem?_append_left (by omega)];exact b1
 refine mz eb1 (by simp) ?_;have pb:putD "turn" (.ref st1.length) [("body",.ref st.length),("turn",.ref xu),("back_columns",.ref xc)]=([("body",.ref st.length),("turn",.ref st1.length),("back_columns",.ref xc)]:List (Str×D)):=rfl;rw[pb];generalize hs2:(st1++[Cell.lst ((Mx.bg U k o).map bc)]).set b (.ins aA [("body",.ref st.length),("turn",.ref st1.length),("back_columns",.ref xc)])=st2;have l2:st2.length=st.length+2:=by rw[<-hs2];simp;omega
 have f2:∀m,m<st1.length->m≠b->st2[m]?=st1[m]?:=fun m hm hmb=>by rw[<-hs2,List.getElem?_set_ne (Ne.symm hmb),List.getElem?_append_left hm]
 have b2:st2[b]?=some (.ins aA [("body",.ref st.length),("turn",.ref st1.length),("back_columns",.ref xc)]):=by rw[<-hs2,List.getElem?_set_self (by simp;omega)]
 have x2:st2[st1.length]?=some (.lst ((Mx.bg U k o).map bc)):=by rw[<-hs2,List.getElem?_set_ne (by omega)];simp
 clear hs2 eb1;refine cp b2 rfl ?_;refine⟨xc,k,o,C,rfl,((f2 xc (by omega) (Ne.symm bx3)).trans (f1 xc hc (Ne.symm bx3))).trans B.e3,by omega,by omega,?_⟩;have eb1:(st2++[Cell.lst ((Mx.bg C k o).map bc)])[b]?=some (.ins aA [("body",.ref st.length),("turn",.ref st1.length),("back_columns",.ref xc)]):=by rw[List.getElem?_append_left (by omega)];exact b2
 refine mz eb1 (by simp) ?_;have pb:putD "back_columns" (.ref st2.length) [("body",.ref st.length),("turn",.ref st1.length),("back_columns",.ref xc)]=([("body",.ref st.length),("turn",.ref st1.length),("back_columns",.ref st2.length)]:List (Str×D)):=rfl;rw[pb];refine kk _ ⟨?_,?_,?_,?_,by omega,by omega,by omega⟩ (by simp;omega) fun m hm hmb=>?_
 . rw[List.getElem?_set_self (by simp;omega),l1,l2]
 . rw[List.getElem?_set_ne (by omega),List.getElem?_append_left (by omega),f2 _ (by omega) (by omega)];exact x1
 . rw[List.getElem?_set_ne (by omega),List.getElem?_append_left (by omega)];rw[l1]at x2;exact x2
 . rw[List.getElem?_set_ne (by omega)];rw[show st.length+2=st2.length by omega];simp
 . rw[List.getElem?_set_ne (Ne.symm hmb),List.getElem?_append_left (by omega),f2 m (by omega) hmb,f1 m hm hmb]
def gQ:b_:=fun ds st K=>∃(b xb xu xc N w k:Nat) (A U C:List (List Int)),ds=[.ref b,.int k]/\Bn st b xb xu xc A U C/\Mx.cy N w A/\Mx.cy N N U/\Mx.cy N N C/\k<N/\N<=8/\w<=9/\
 ∀st',Bn st' b xb xu xc (Mx.fZ A k) (Mx.fZ U k) (Mx.fZ C k)->st'.length=st.length->(∀m,m≠xb->m≠xu->m≠xc->st'[m]?=st[m]?)->K .aE st'
def fg:List Str:=["self","k"]
def p9:DS:=(aL (eG (dv aA "body" (ae 0)) (ae 1) (aB lz (af (aw aS (dv aA "body" (ae 0)) (ae 1)) ao)))
 (aL (eG (dv aA "turn" (ae 0)) (ae 1) (aB lz (af (aw aS (dv aA "turn" (ae 0)) (ae 1)) ao)))
 (eG (dv aA "back_columns" (ae 0)) (ae 1) (aB lz (af (aw aS (dv aA "back_columns" (ae 0)) (ae 1)) ao)))))
theorem pk:∀ds st K,gQ ds st K->ds.length=2/\p9 {nx:=fun _ st'=>K .aE st',rt:=K} (aT fg ds) st:=by
 rintro ds st K ⟨b,xb,xu,xc,N,w,k,A,U,C,rfl,B,hA,hU,hC,hk,hN,hw,kk⟩;refine⟨rfl,?_⟩;have lA:=hA.len;have lU:=hU.len;have lC:=hC.len;have rA:=Mx.cz hA hk;have rU:=Mx.cz hU hk;have rC:=Mx.cz hC hk;have bx1:=jE B.eb B.e1;have bx2:=jE B.eb B.e2;have bx3:=jE B.eb B.e3;have n1:=B.n1;have n2:=B.n2;have n3:=B.n3;refine cp B.eb rfl (ay (aM B.e1) (c9 (by omega)) ?_);refine⟨_,A.getD k [],rfl,rfl,by omega,?_⟩;refine cp B.eb rfl (gD B.e1 (by rw[List.length_map,lA];exact lj hk) ?_);rw[gF];have g1:∀m,m≠xb->(st.set xb (.lst ((A.set k ((A.getD k []).map fun x=> -x)).map bc)))[m]?=st[m]?:=fun m hm=>List.getElem?_set_ne (Ne.symm hm);have h1:(st.set xb (.lst ((A.set k ((A.getD k []).map fun x=> -x)).map bc)))[xb]?=some (.lst ((Mx.fZ A k).map bc)):=List.getElem?_set_self (List.getElem?_eq_some_iff.mp B.e1).1;have z1:(st.set xb (.lst ((A.set k ((A.getD k []).map fun x=> -x)).map bc))).length=st.length:=List.length_set;generalize st.set xb (.lst ((A.set k ((A.getD k []).map fun x=> -x)).map bc))=st1 at g1 h1 z1⊢;have eb1:=(g1 b bx1).trans B.eb;have e21:=(g1 xu (Ne.symm n1)).trans B.e2;have e31:=(g1 xc (Ne.symm n2)).trans B.e3;refine cp eb1 rfl (ay (aM e21) (c9 (by omega)) ?_);refine⟨_,U.getD k [],rfl,rfl,by omega,?_⟩;refine cp eb1 rfl (gD e21 (by rw[List.length_map,lU];exact lj hk) ?_);rw[gF];have g2:∀m,m≠xu->(st1.set xu (.lst ((U.set k ((U.getD k []).map fun x=> -x)).map bc)))[m]?=st1[m]?:=fun m hm=>List.getElem?_set_ne (Ne.symm hm);have h2:(st1.set xu (.lst ((U.set k ((U.getD k []).map fun x=> -x)).map bc)))[xu]?=some (.lst ((Mx.fZ U k).map bc)):=List.getElem?_set_self (List.getElem?_eq_some_iff.mp e21).1;have z2:(st1.set xu (.lst ((U.set k ((U.getD k []).map fun x=> -x)).map bc))).length=st1.length:=List.length_set;generalize st1.set xu (.lst ((U.set k ((U.getD k []).map fun x=> -x)).map bc))=st2 at g2 h2 z2⊢;have eb2:=(g2 b bx2).trans eb1;have e32:=(g2 xc (Ne.symm n3)).trans e31;refine cp eb2 rfl (ay (aM e32) (c9 (by omega)) ?_);refine⟨_,C.getD k [],rfl,rfl,by omega,?_⟩;refine cp eb2 rfl (gD e32 (by rw[List.length_map,lC];exact lj hk) ?_);rw[gF];refine kk _ ⟨?_,?_,?_,?_,n1,n2,n3⟩ (by rw[List.length_set];omega) fun m m1 m2 m3=>?_
 . rw[List.getElem?_set_ne (Ne.symm bx3)];exact eb2
 . rw[List.getElem?_set_ne (Ne.symm n2),g2 _ n1];exact h1
 . rw[List.getElem?_set_ne (Ne.symm n3)];exact h2
 . exact List.getElem?_set_self (List.getElem?_eq_some_iff.mp e32).1
 . rw[List.getElem?_set_ne (Ne.symm m3),g2 m m2,g1 m m1]
def fS:b_:=fun ds st K=>∃(b xb xu xc N w top p:Nat) (A U C:List (List Int)) (f:Bool),ds=[.ref b,.int top,.int p]/\Bn st b xb xu xc A U C/\Mx.cy N w A/\top<=N/\N<=8/\p<w/\w<=9/\st[0]?=some (fk f)/\
 ∀L,Mx.f9 A N top p L->K (.lst (L.map fun(k:Nat)=> .int (k:Int))) (st.set 0 (fk true))
def fQ:List Str:=["self","top","place","live"]
def r9:DS:=(aL (bf 3 (eK (rJ (af (ae 1) (af (bZ eP (af (dv aA "body" (ae 0)) ao)) ao))) [none,some 0,some 2] (cq 0) (cm (aw sI (aw aS (aw aS (dv aA "body" (ae 1)) (ae 0)) (ae 2)) (dC (.int 0)))) (ae 0)))
 (bI (yt 0 233 ⟨126,32,126,66⟩ "Bench.live_rows.<locals>.<lambda>" [none,some 0,some 2] (bZ pw (af (aw aS (aw aS (dv aA "body" (ae 1)) (ae 0)) (ae 2)) ao)) (ae 3))))
theorem t4{a b:Prop}(h:b):if false=true then a else b:=h
theorem HS{st:ag}{b:Nat}{C:Addr}{fs:List (Str×D)}{f:Bool}(h1:st[b]?=some (Cell.ins C fs))(h2:st[0]?=some (fk f)):b≠0:=fun z=>by rw[z,h2]at h1;cases h1
theorem rQ{st:ag}{b:Nat}{xs:List D}{f:Bool}(h1:st[b]?=some (Cell.lst xs))(h2:st[0]?=some (fk f)):b≠0:=fun z=>by rw[z,h2]at h1;cases h1
theorem Bn.keep{st st':ag}{b xb xu xc:Nat}{A U C:List (List Int)}(B:Bn st b xb xu xc A U C)(h:∀m,m=b\/m=xb\/m=xu\/m=xc->st'[m]?=st[m]?):Bn st' b xb xu xc A U C:=
 ⟨(h b (.inl rfl)).trans B.eb,(h xb (.inr (.inl rfl))).trans B.e1,(h xu (.inr (.inr (.inl rfl)))).trans B.e2,(h xc (.inr (.inr (.inr rfl)))).trans B.e3,B.n1,B.n2,B.n3⟩
theorem Bn.tab{st:ag}{b xb xu xc:Nat}{A U C:List (List Int)}{f:Bool}(B:Bn st b xb xu xc A U C)(h:st[0]?=some (fk f))(c:Cell):Bn (st.set 0 c) b xb xu xc A U C:=
 B.keep fun m hm=>List.getElem?_set_ne fun z=>by
  subst z;rcases hm with rfl|rfl|rfl|rfl
  . exact HS B.eb h rfl
  . exact rQ B.e1 h rfl
  . exact rQ B.e2 h rfl
  . exact rQ B.e3 h rfl
theorem m5{r:List Int}{k:Nat}(h:k<r.length):dP (aJ r) (k:Int)=some (.int (r.getD k 0)):=by
 refine mF ?_;unfold aJ;rw[List.getElem?_map,List.getElem?_eq_getElem h,Mx.a7 h];rfl
def fy(A:List (List Int))(N top p:Nat):List Nat:=(List.range (N-top)).filterMap fun i=>if Mx.g A (top+i) p≠0 then some (top+i)else none
theorem vM{A:List (List Int)}{N top p k:Nat}:k∈fy A N top p↔top<=k/\k<N/\Mx.g A k p≠0:=by
 unfold fy;rw[List.mem_filterMap];constructor
 . rintro⟨i,hi,e⟩;rw[List.mem_range]at hi;split at e
   . rename_i h;cases e;exact⟨by omega,by omega,h⟩
   . cases e
 . rintro⟨h1,h2,h3⟩;refine⟨k-top,List.mem_range.mpr (by omega),?_⟩;rw[show top+(k-top)=k by omega,if_pos h3]
theorem pw_filterMap{f:Nat->Option Nat}(h:∀i j a b,i<j->f i=some a->f j=some b->a<b):∀ {l:List Nat},l.Pairwise (· < ·)->(l.filterMap f).Pairwise (· < ·)
 | [],_=>by simp
 |x::l,hl=>by
  obtain⟨h1,h2⟩:=List.pairwise_cons.mp hl;rw[List.filterMap_cons];split
  . exact pw_filterMap h h2
  . rename_i a e;refine List.pairwise_cons.mpr ⟨fun b hb=>?_,pw_filterMap h h2⟩;obtain⟨j,hj,ej⟩:=List.mem_filterMap.mp hb;exact h x j a b (h1 j hj) e ej
theorem pw_liveR{A:List (List Int)}{N top p:Nat}:(fy A N top p).Pairwise (· < ·):=by
 unfold fy;refine pw_filterMap (fun i j a b hij ha hb=>?_) List.pairwise_lt_range;split at ha
 . split at hb
   . cases ha;cases hb;omega
   . cases hb
 . cases ha
theorem wj{f:Nat->Option Nat}(l:List Nat):(l.filterMap f).length<=l.length:=List.length_filterMap_le ..
theorem Hx{A:List (List Int)}{N top p:Nat}{os:List (Int×Int)}(hp:os.Perm (((fy A N top p).map fun(k:Nat)=>(((Mx.g A k p).natAbs:Nat):Int)).zip ((fy A N top p).map fun(k:Nat)=>(k:Int))))(hs:os.Pairwise slt):
 Mx.f9 A N top p (os.map fun q=>q.2.toNat)/\os.map (fun q=>D.int q.2)=(os.map fun q=>q.2.toNat).map fun(k:Nat)=>D.int (k:Int):=by
 have hz:((fy A N top p).map fun(k:Nat)=>(((Mx.g A k p).natAbs:Nat):Int)).zip ((fy A N top p).map fun(k:Nat)=>(k:Int))=(fy A N top p).map fun k=>((((Mx.g A k p).natAbs:Nat):Int),(k:Int)):=by
  exact List.zip_map' ..
 rw[hz]at hp
 have hm:∀q∈os,∃k,k∈fy A N top p/\q=((((Mx.g A k p).natAbs:Nat):Int),(k:Int)):=fun q hq=>by
  obtain⟨k,h1,h2⟩:=List.mem_map.mp (hp.mem_iff.mp hq);exact⟨k,h1,h2.symm⟩
 refine⟨⟨fun k=>?_,?_⟩,?_⟩
 . rw[<-vM];constructor
   . intro h;obtain⟨q,hq,e⟩:=List.mem_map.mp h;obtain⟨j,h1,rfl⟩:=hm q hq;simp only[Int.toNat_natCast]at e;rw[<-e];exact h1
   . intro h;exact List.mem_map.mpr ⟨((((Mx.g A k p).natAbs:Nat):Int),(k:Int)),hp.mem_iff.mpr (List.mem_map.mpr ⟨k,h,rfl⟩),by simp⟩
 . rw[List.pairwise_map];refine hs.imp_of_mem fun{x y} hx hy h=>?_;obtain⟨j,_,rfl⟩:=hm x hx;obtain⟨k,_,rfl⟩:=hm y hy;unfold slt at h;simp only[Int.toNat_natCast];omega
 . rw[List.map_map];refine List.map_congr_left fun q hq=>?_;obtain⟨j,_,rfl⟩:=hm q hq;simp
theorem qC:∀ds st K,fS ds st K->ds.length=3/\r9 {nx:=fun _ st'=>K .aE st',rt:=K} (aT fQ ds) st:=by
 rintro ds st K ⟨b,xb,xu,xc,N,w,top,p,A,U,C,f,rfl,B,hA,ht,hN,hp,hw,h0,k⟩;refine⟨rfl,?_⟩;have lA:=hA.len;have rowA:∀i,i<N->(A.getD i []).length=w:=fun i hi=>Mx.cz hA hi;refine cp B.eb rfl (dA (aM B.e1) ?_);rw[List.length_map,lA];refine GZ ⟨by omega,by omega,by omega,by omega⟩ ⟨cY (by unfold dR;simp;omega),?_⟩;have er:((N:Int)-(top:Int)).toNat=N-top:=by omega
 rw[er];refine kG (fun rest acc st'=>∃i:Nat,i<=N-top/\st'=st/\rest=(List.range (N-top-i)).map (fun j=>D.int ((top+i+j:Nat):Int))/\acc=((List.range i).filterMap fun i=>if Mx.g A (top+i) p≠0 then some (top+i)else none).map fun(k:Nat)=>D.int (k:Int)) ?_ ?_ _ _ _ ⟨0,Nat.zero_le _,rfl,by unfold dR;simp,by simp⟩
 . rintro acc st' ⟨i,hi,rfl,hr,rfl⟩
   have hi':i=N-top:=by
    rcases Nat.lt_or_ge i (N-top)with z|z
    . rw[show N-top-i=(N-top-i-1)+1 by omega,List.range_succ_eq_map]at hr;cases hr
    . omega
   subst hi';refine⟨trivial,?_⟩;have e1:((fy A N top p).map fun(k:Nat)=>D.int (k:Int))=((fy A N top p).map fun(k:Nat)=>(k:Int)).map D.int:=by rw[List.map_map];rfl
   refine⟨(fy A N top p).map fun(k:Nat)=>(k:Int),(fy A N top p).map fun(k:Nat)=>(((Mx.g A k p).natAbs:Nat):Int),f,congrArg D.lst e1,?_,?_,by rw[List.length_map,List.length_map],h0,fun i n q hn hq=>?_,fun os hp' hs=>?_⟩
   . rw[List.length_map];have:=wj (f:=fun i=>if Mx.g A (top+i) p≠0 then some (top+i)else none) (List.range (N-top));rw[List.length_range]at this;show(fy A N top p).length<64;unfold fy;omega
   . rw[List.pairwise_map];exact pw_liveR.imp fun h=>by omega
   . rw[List.getElem?_map]at hn hq;cases z:(fy A N top p)[i]? with
     |none=>rw[z]at hn;cases hn
     |some j=>
      rw[z]at hn hq;cases hn;cases hq;obtain⟨j1,j2,j3⟩:=vM.mp (List.mem_of_getElem? z);have B1:=B.tab h0 (fk true);refine cp B1.eb rfl (ay (aM B1.e1) (c9 (by omega)) (ay rfl (m5 (by rw[rowA j j2];exact hp)) (qJ ⟨rfl,rfl⟩)))
   . obtain⟨h1,h2⟩:=Hx hp' hs;rw[h2];exact k _ h1
 . rintro d rest acc st' ⟨i,hi,rfl,hr,rfl⟩ next
   have hlt:i<N-top:=by
    rcases Nat.lt_or_ge i (N-top)with z|z
    . exact z
    . rw[show N-top-i=0 by omega]at hr;cases hr
   rw[show N-top-i=(N-top-i-1)+1 by omega,List.range_succ_eq_map,List.map_cons,List.map_map]at hr;obtain⟨rfl,rfl⟩:=List.cons.inj hr;refine⟨trivial,_,rfl,?_⟩;refine cp B.eb rfl (ay (aM B.e1) (c9 (j:=top+i+0) (by omega)) (ay rfl (m5 (by rw[rowA _ (by omega)];exact hp)) ?_));have e2:List.range (i+1)=List.range i++[i]:=List.range_succ
   have e3:((List.range (N-top-i-1)).map ((fun j=>D.int ((top+i+j:Nat):Int))∘Nat.succ))=(List.range (N-top-(i+1))).map fun j=>D.int ((top+(i+1)+j:Nat):Int):=by
    rw[show N-top-i-1=N-top-(i+1) by omega];refine List.map_congr_left fun j _=>?_;show D.int ((top+i+(j+1):Nat):Int)=_;rw[show top+i+(j+1)=top+(i+1)+j by omega]
   refine ne2 (fun h=>?_) fun h=>?_
   . refine(next _ _ ⟨i+1,by omega,rfl,e3,?_⟩);rw[e2,List.filterMap_append,List.map_append];have:Mx.g A (top+i) p≠0:=h;simp[this]
   . refine(next _ _ ⟨i+1,by omega,rfl,e3,?_⟩);rw[e2,List.filterMap_append,List.map_append];have:Mx.g A (top+i) p=0:=h;simp[this]
structure Bo(n0:Nat)(st st':ag)(b xb xu xc:Nat):Prop where
 lo:1<=n0/\n0<=b/\n0<=xb/\n0<=xu/\n0<=xc
 fr:∀m,m<n0->m≠0->st'[m]?=st[m]?
 tb:∃f,st'[0]?=some (fk f)
def kc:b_:=fun ds st K=>∃(n0 b xb xu xc N w top p e u:Nat) (A0 A U C:List (List Int)) (ld:Nat->Nat),ds=[.ref b,.int top,.int p]/\Bn st b xb xu xc A U C/\Bo n0 st st b xb xu xc/\Mx.g6 A0 N w ⟨A,U,C⟩ top p ld e u/\N<=8/\w<=9/\p<w/\(N-top+1)*(e+1)<=60000000/\
 (∀st',Bn st' b xb xu xc A U C->Bo n0 st st' b xb xu xc->Mx.f9 A N top p []->K (.bl false) st')/\
 ∀st' xb' xu' xc' (c:Mx.B3) (r:Nat),Bn st' b xb' xu' xc' (Mx.setB c p top r).A (Mx.setB c p top r).U (Mx.setB c p top r).C->Bo n0 st st' b xb' xu' xc'->Mx.d6 N top p ⟨A,U,C⟩ c->Mx.f9 c.A N top p [r]->top<N->
  Mx.ja A0 N w top p (2^((N-top+1)*(e+1))) ⟨A,U,C⟩ (Mx.setB c p top r)->K (.bl true) st'
def iG:List Str:=["self","top","place","live","great","small"]
def vf:DS:=(aL (bf 3 (iR aA "live_rows" fS (ae 0) (af (ae 1) (af (ae 2) ao))))
 (aL (uj (cm (aw qH (bZ eP (af (ae 3) ao)) (dC (.int 1)))) (aL (bf 4 (aw aS (ae 3) (nC iN (dC (.int 1)))))
 (aL (bf 5 (aw aS (ae 3) (nC iN (dC (.int 2)))))
 (aL (la (iR aA "take" j0 (ae 0) (af (ae 4) (af (aB h8 (af (aw aS (aw aS (dv aA "body" (ae 0)) (ae 4)) (ae 2)) (af (aw aS (aw aS (dv aA "body" (ae 0)) (ae 5)) (ae 2)) ao))) (af (ae 5) ao)))))
 (bf 3 (iR aA "live_rows" fS (ae 0) (af (ae 1) (af (ae 2) ao))))))))
 (aL (eA (cm (aw iK (bZ eP (af (ae 3) ao)) (dC (.int 0)))) (bI (dC (.bl false))) dQ)
 (aL (la (iR aA "exchange" ji (ae 0) (af (ae 1) (af (aw aS (ae 3) (dC (.int 0))) ao))))
 (aL (eA (cm (aw qi (aw aS (aw aS (dv aA "body" (ae 0)) (ae 1)) (ae 2)) (dC (.int 0)))) (la (iR aA "change_sign" gQ (ae 0) (af (ae 1) ao))) dQ)
 (bI (dC (.bl true))))))))
theorem Bo.Jd{n0:Nat}{st st':ag}{b xb xu xc:Nat}(h:Bo n0 st st' b xb xu xc):Bo n0 st (st'.set 0 (fk true)) b xb xu xc:=
 ⟨h.lo,fun m hm h0=>by rw[List.getElem?_set_ne (Ne.symm h0)];exact h.fr m hm h0,true,by
  obtain⟨f,e⟩:=h.tb;exact List.getElem?_set_self (List.getElem?_eq_some_iff.mp e).1⟩
theorem Bo.low{n0:Nat}{st st1 st2:ag}{b xb xu xc:Nat}(h:Bo n0 st st1 b xb xu xc)(f:∀m,m≠xb->m≠xu->m≠xc->st2[m]?=st1[m]?):Bo n0 st st2 b xb xu xc:=by
 obtain⟨l1,l2,l3,l4,l5⟩:=h.lo;refine⟨h.lo,fun m hm h0=>?_,?_⟩
 . rw[f m (by omega) (by omega) (by omega)];exact h.fr m hm h0
 . obtain⟨z,e⟩:=h.tb;exact⟨z,by rw[f 0 (by omega) (by omega) (by omega)];exact e⟩
theorem vn{X:List (List Int)}{N w top m i:Nat}(hX:Mx.cy N w X)(h:Mx.fM X N top m)(hi:top<=i)(hN:i<N):∀x∈X.getD i [],x.natAbs<=m:=fun x hx=>by
 obtain⟨c,hc,rfl⟩:=List.mem_iff_getElem.mp hx;have:=h i c hi hN;unfold Mx.g at this;rwa [Mx.a7 hc]at this
theorem xk{n j:Nat}(h:1<=j)(h2:j<=n):iL n (-(j:Int))=some (n-j):=by
 unfold iL;rw[if_neg (by omega),if_pos (by omega)];congr 1;omega
theorem L4{L:List Nat}{j k:Nat}:dP ((L++[j,k]).map fun(k:Nat)=>D.int (k:Int)) (-1)=some (.int (k:Int)):=by
 unfold dP;have:=xk (n:=((L++[j,k]).map fun(k:Nat)=>D.int (k:Int)).length) (j:=1) (by decide) (by simp);rw[show(-((1:Nat):Int))= -1 from rfl]at this;rw[this];simp
theorem Ml{L:List Nat}{j k:Nat}:dP ((L++[j,k]).map fun(k:Nat)=>D.int (k:Int)) (-2)=some (.int (j:Int)):=by
 unfold dP;have:=xk (n:=((L++[j,k]).map fun(k:Nat)=>D.int (k:Int)).length) (j:=2) (by decide) (by simp);rw[show(-((2:Nat):Int))= -2 from rfl]at this;rw[this];simp
theorem DQ:∀ {L:List Nat},1<L.length->∃M j k,L=M++[j,k]:=fun{L} h=>by
 refine⟨L.take (L.length-2),L[L.length-2]'(by omega),L[L.length-1]'(by omega),?_⟩;have e1:L=L.take (L.length-2)++L.drop (L.length-2):=(List.take_append_drop _ _).symm
 have e2:L.drop (L.length-2)=[L[L.length-2]'(by omega),L[L.length-1]'(by omega)]:=by
  rw[List.drop_eq_getElem_cons (by omega),List.drop_eq_getElem_cons (by omega),List.drop_eq_nil_of_le (by omega)];congr 2;congr 1;omega
 rw[<-e2];exact e1
theorem uH:∀ds st K,kc ds st K->ds.length=3/\vf {nx:=fun _ st'=>K .aE st',rt:=K} (aT iG ds) st:=by
 rintro ds st K ⟨n0,b,xb,xu,xc,N,w,top,p,e,u,A0,A,U,C,ld,rfl,B,O,S,hN,hw,hp,hz,kf,kt⟩;refine⟨rfl,?_⟩;have hle:=S.le;obtain⟨f,h0⟩:=O.tb;refine jv B.eb rfl ?_;refine⟨b,xb,xu,xc,N,w,top,p,A,U,C,f,rfl,B,S.tn.isA,hle,hN,hp,hw,h0,fun L hL=>?_⟩;have B1:=B.tab h0 (fk true);have O1:=O.Jd;try dsimp only[ao]
 refine mP (fun σ st'=>∃(L:List Nat) (v4 v5:Option D) (c:Mx.B3) (gr:Nat),σ=[some (.ref b),some (.int top),some (.int p),some (.lst (L.map fun(k:Nat)=> .int (k:Int))),v4,v5]/\L.length<=1/\Bn st' b xb xu xc c.A c.U c.C/\Bo n0 st st' b xb xu xc/\Mx.d6 N top p ⟨A,U,C⟩ c/\Mx.ow A0 N w top p (2^e) ⟨A,U,C⟩ c gr/\Mx.f9 c.A N top p L) (fun nx hnx=>?_) ?_
 . refine⟨fun m σ st'=>∃(L:List Nat) (v4 v5:Option D) (c:Mx.B3) (gr:Nat),σ=[some (.ref b),some (.int top),some (.int p),some (.lst (L.map fun(k:Nat)=> .int (k:Int))),v4,v5]/\Bn st' b xb xu xc c.A c.U c.C/\Bo n0 st st' b xb xu xc/\Mx.d6 N top p ⟨A,U,C⟩ c/\Mx.ow A0 N w top p (2^e) ⟨A,U,C⟩ c gr/\Mx.f9 c.A N top p L/\m=Mx.mu c.A N p,⟨_,L,none,none,⟨A,U,C⟩,1,rfl,B1,O1,.refl _,S.B9,hL,rfl⟩,?_⟩;rintro m σ st1 ⟨L,v4,v5,c,gr,rfl,B,O,hR,hG,hL,rfl⟩;refine dA rfl ?_;rw[List.length_map];refine JP (fun h=>fe ?_) fun h=>t4 (hnx _ _ ⟨L,v4,v5,c,gr,rfl,by omega,B,O,hR,hG,hL⟩);obtain⟨M,j,k,rfl⟩:=DQ (L:=L) (by omega);refine il (ay rfl L4 (il (ay rfl Ml ?_)));obtain⟨G2,hlt,hoth,k1,k2,j1,j2,hjk,hj0⟩:=hG.step hp hL;have T:=hG.tn;have lA:=T.isA.len;have hlow:=G2.low S.lo.1;refine jv B.eb rfl (cp B.eb rfl (ay (aM B.e1) (c9 (by omega)) (ay rfl (m5 (by rw[Mx.cz T.isA k2];exact hp)) (cp B.eb rfl (ay (aM B.e1) (c9 (by omega)) (ay rfl (m5 (by rw[Mx.cz T.isA j2];exact hp)) ?_))))));refine⟨_,_,rfl,hj0,?_⟩
   have hq:(Mx.qn (Mx.g c.A k p) (Mx.g c.A j p)).natAbs<=2^((N-top+1)*(e+1)):=by
    refine Nat.le_trans ?_ hlow;have a1:=hG.pos;have a2:1<=2^e:=Nat.one_le_two_pow;have a3:1*(Mx.qn (Mx.g c.A k p) (Mx.g c.A j p)).natAbs<=gr*(1+(Mx.qn (Mx.g c.A k p) (Mx.g c.A j p)).natAbs):=Nat.mul_le_mul a1 (by omega);have a4:=Nat.mul_le_mul a2 a3;omega
   have hx:2^e*gr<=2^((N-top+1)*(e+1)):=hG.low S.lo.1
   have hm:∀ {x:Int},x.natAbs<=2^e*gr->IntMulOk (Mx.qn (Mx.g c.A k p) (Mx.g c.A j p)) x/\IntMulOk (-(Mx.qn (Mx.g c.A k p) (Mx.g c.A j p))) x:=fun{x} h=>
    ⟨dc hq (Nat.le_trans h hx) (by omega),dc (by rw[Int.natAbs_neg];exact hq) (Nat.le_trans h hx) (by omega)⟩
   refine⟨b,xb,xu,xc,N,w,k,j,c.A,c.U,c.C,_,rfl,B,T.isA,T.du,T.fi,k2,j2,hN,hw,fun x hx=>(hm (vn T.isA hG.lA j1 j2 x hx)).2,fun x hx=>(hm (vn T.du hG.lU j1 j2 x hx)).2,fun x hx=>(hm (vn T.fi hG.lC k1 k2 x hx)).1,fun st2 B2 l2 f2=>?_⟩;have O2:=O.low f2;obtain⟨f',h0'⟩:=O2.tb;refine jv B2.eb rfl ?_;refine⟨b,xb,xu,xc,N,w,top,p,_,_,_,f',rfl,B2,G2.tn.isA,hle,hN,hp,hw,h0',fun L2 hL2=>?_⟩;refine⟨_,?_,L2,_,_,Mx.jT c p k j,_,rfl,B2.tab h0' (fk true),O2.Jd,hR.tail ⟨M,k,j,hL,rfl⟩,G2,hL2,rfl⟩;unfold Mx.mu;refine Mx.Ft (k:=k) hlt k2 fun i hi=>?_;by_cases h:i=k
   . rw[h];exact Nat.le_of_lt hlt
   . rw[hoth i h];exact Nat.le_refl _
 . rintro σ st1 ⟨L,v4,v5,c,gr,rfl,hl,B,O,hR,hG,hL⟩;refine dA rfl ?_;rw[List.length_map];match L,hl,hL with
   | [],_,hL=>
     refine eq2 (fun h=>fe ?_) fun h=>absurd rfl h
     have e0:c=⟨A,U,C⟩:=by
      rcases hG.LZ with z|⟨j,h1,h2,h3⟩
      . exact z
      . exact absurd ((hL.mem j).mpr ⟨h1,h2,h3⟩) (by simp)
     subst e0;exact kf st1 B O hL
   | [r],_,hL=>
     refine eq2 (fun h=>absurd h (by simp)) fun h=>t4 ?_;obtain⟨s1,hr1,hr2⟩:=hG.set hL;have ht:top<N:=by omega
     have T:=hG.tn
     have s2:Mx.ja A0 N w top p (2^((N-top+1)*(e+1))) ⟨A,U,C⟩ (Mx.setB c p top r):=by
      have hlow:=hG.low S.lo.1;exact⟨s1.tn,s1.up,⟨fun i q h1 h2=>Nat.le_trans (s1.lo.1 i q h1 h2) hlow,fun i q h1 h2=>Nat.le_trans (s1.lo.2.1 i q h1 h2) hlow,fun i q h1 h2=>Nat.le_trans (s1.lo.2.2 i q h1 h2) hlow⟩,s1.zs,s1.tp,s1.z1⟩
     refine jv B.eb rfl (ay rfl (show dP ([r].map fun(k:Nat)=>D.int (k:Int)) 0=some (.int (r:Int))from rfl) ?_);refine⟨b,xb,xu,xc,N,w,top,r,c.A,c.U,c.C,rfl,B,T.isA,T.du,T.fi,ht,hr2,fun st2 B2 l2 f2=>?_⟩;obtain⟨l1,l2',l3,l4,l5⟩:=O.lo
     have hst:n0<=st1.length:=by
      have:=(List.getElem?_eq_some_iff.mp B.eb).1;omega
     have O2:Bo n0 st st2 b st1.length (st1.length+1) (st1.length+2):=by
      refine⟨⟨l1,l2',by omega,by omega,by omega⟩,fun m hm h0=>?_,?_⟩
      . rw[f2 m (by omega) (by omega)];exact O.fr m hm h0
      . obtain⟨z,e⟩:=O.tb;exact⟨z,by rw[f2 0 (by omega) (by omega)];exact e⟩
     have T1:=T.Fm ht hr2;refine cp B2.eb rfl (ay (aM B2.e1) (c9 (by have:=T1.isA.len;omega)) (ay rfl (m5 (by rw[Mx.cz T1.isA ht];exact hp)) ?_));refine FR (fun h=>fe ?_) fun h=>t4 ?_
     . have es:Mx.setB c p top r=⟨Mx.fZ (Mx.bg c.A top r) top,Mx.fZ (Mx.bg c.U top r) top,Mx.fZ (Mx.bg c.C top r) top⟩:=if_pos h;refine jv B2.eb rfl ?_;refine⟨b,_,_,_,N,w,top,_,_,_,rfl,B2,T1.isA,T1.du,T1.fi,ht,hN,hw,fun st3 B3 l3 f3=>?_⟩;exact kt st3 _ _ _ c r (by rw[es];exact B3) (O2.low f3) hR hL ht s2
     . have es:Mx.setB c p top r=⟨Mx.bg c.A top r,Mx.bg c.U top r,Mx.bg c.C top r⟩:=if_neg (fun z=>by unfold Mx.g at z;omega);exact kt st2 _ _ _ c r (by rw[es];exact B2) O2 hR hL ht s2
def gN:b_:=fun ds st K=>∃(b xb xu xc N w top p e u:Nat) (A0 A U C:List (List Int)),ds=[.ref b,.int top,.int p]/\Bn st b xb xu xc A U C/\Mx.Tn A0 A U C N w/\N<=8/\w<=9/\p<w/\top<N/\0<Mx.g A top p/\(∀q,q<p->Mx.g A top q=0)/\
 (∀q,(Mx.g A top q).natAbs<=2^e/\(Mx.g U top q).natAbs<=2^e/\(Mx.g C top q).natAbs<=2^e)/\(∀i q,i<top->(Mx.g A i q).natAbs<=2^u/\(Mx.g U i q).natAbs<=2^u/\(Mx.g C i q).natAbs<=2^u)/\e<=60000000/\u<=60000000/\
 ∀st',Bn st' b xb xu xc (Mx.ku p top top ⟨A,U,C⟩).A (Mx.ku p top top ⟨A,U,C⟩).U (Mx.ku p top top ⟨A,U,C⟩).C->(∀m,m≠xb->m≠xu->m≠xc->st'[m]?=st[m]?)->Mx.pS A0 N w top p e u ⟨A,U,C⟩ top (Mx.ku p top top ⟨A,U,C⟩)->K .aE st'
def fh:List Str:=["self","top","place","k"]
def pZ:DS:=(lP (gJ (af (ae 1) ao)) (cq 3) (la (iR aA "take" j0 (ae 0) (af (ae 3) (af (aw jH (aw aS (aw aS (dv aA "body" (ae 0)) (ae 3)) (ae 2)) (aw aS (aw aS (dv aA "body" (ae 0)) (ae 1)) (ae 2))) (af (ae 1) ao))))))
theorem A6{X:List (List Int)}{i:Nat}{x:Int}(hx:x∈X.getD i []):∃q,x=Mx.g X i q:=by
 obtain⟨c,hc,rfl⟩:=List.mem_iff_getElem.mp hx;exact⟨c,by unfold Mx.g;rw[Mx.a7 hc]⟩
theorem pR:∀ds st K,gN ds st K->ds.length=3/\pZ {nx:=fun _ st'=>K .aE st',rt:=K} (aT fh ds) st:=by
 rintro ds st K ⟨b,xb,xu,xc,N,w,top,p,e,u,A0,A,U,C,rfl,B,T,hN,hw,hp,ht,htp,hz,hlo,hhi,he,hu,kk⟩;refine⟨rfl,?_⟩;refine kv ⟨by omega,by omega⟩ ?_;rw[Int.toNat_natCast];refine nR top (fun k σ st'=>∃v3:Option D,σ=[some (.ref b),some (.int top),some (.int p),v3]/\Bn st' b xb xu xc (Mx.ku p top k ⟨A,U,C⟩).A (Mx.ku p top k ⟨A,U,C⟩).U (Mx.ku p top k ⟨A,U,C⟩).C/\(∀m,m≠xb->m≠xu->m≠xc->st'[m]?=st[m]?)/\Mx.pS A0 N w top p e u ⟨A,U,C⟩ k (Mx.ku p top k ⟨A,U,C⟩)) ?_ ?_ ⟨none,rfl,B,fun _ _ _ _=>rfl,Mx.pS.start T fun q=>(hlo q).2.2⟩
 . rintro σ st' ⟨v3,rfl,B',f,I⟩;exact kk st' B' f I
 . rintro k σ st' rest hk ⟨v3,rfl,B',f,I⟩ next
   refine⟨_,rfl,?_⟩;have hs:=I.step hk ht hp htp hz (fun q=>⟨(hlo q).1,(hlo q).2.1⟩) hhi;generalize hc:Mx.ku p top k ⟨A,U,C⟩=c at*;have lA:=I.tn.isA.len;have kN:k<N:=by omega
   have gA:∀i q,k<=i->Mx.g c.A i q=Mx.g A i q:=fun i q hi=>by unfold Mx.g;rw[(I.rA i hi).1]
   have gU:∀i q,k<=i->Mx.g c.U i q=Mx.g U i q:=fun i q hi=>by unfold Mx.g;rw[(I.rA i hi).2]
   have gC:∀i q,i≠top->Mx.g c.C i q=Mx.g C i q:=fun i q hi=>by unfold Mx.g;rw[I.rC i hi]
   have hq:((Mx.g c.A k p).fdiv (Mx.g c.A top p)).natAbs<=2^u:=by
    rw[gA k p (Nat.le_refl _),gA top p (by omega)];exact Nat.le_trans (Mx.jb _ htp) (hhi k p hk).1
   have htp':Mx.g c.A top p≠0:=by rw[gA top p (by omega)];omega
   refine jv B'.eb rfl (cp B'.eb rfl (ay (aM B'.e1) (c9 (by omega)) (ay rfl (m5 (by rw[Mx.cz I.tn.isA kN];exact hp)) (cp B'.eb rfl (ay (aM B'.e1) (c9 (by omega)) (ay rfl (m5 (by rw[Mx.cz I.tn.isA ht];exact hp)) (jj htp' ?_)))))));refine⟨b,xb,xu,xc,N,w,k,top,c.A,c.U,c.C,_,rfl,B',I.tn.isA,I.tn.du,I.tn.fi,kN,ht,hN,hw,fun x hx=>?_,fun x hx=>?_,fun x hx=>?_,fun st2 B2 l2 f2=>?_⟩
   . obtain⟨q,rfl⟩:=A6 hx;rw[gA top q (by omega)];exact dc (by rw[Int.natAbs_neg];exact hq) (hlo q).1 (by omega)
   . obtain⟨q,rfl⟩:=A6 hx;rw[gU top q (by omega)];exact dc (by rw[Int.natAbs_neg];exact hq) (hlo q).2.1 (by omega)
   . obtain⟨q,rfl⟩:=A6 hx;rw[gC k q (by omega)];exact dc hq (hhi k q hk).2.2 (by omega)
   . have el:Mx.ku p top (k+1) ⟨A,U,C⟩=⟨Mx.a8 c.A k ((Mx.g c.A k p).fdiv (Mx.g c.A top p)) top,Mx.a8 c.U k ((Mx.g c.A k p).fdiv (Mx.g c.A top p)) top,Mx.a8 c.C top (-((Mx.g c.A k p).fdiv (Mx.g c.A top p))) k⟩:=by rw[<-hc];rfl
     refine next _ _ ⟨_,rfl,?_,fun m h1 h2 h3=>(f2 m h1 h2 h3).trans (f m h1 h2 h3),?_⟩
     . rw[el];exact B2
     . rw[el];exact hs
structure Bk(st st':ag):Prop where
 le:st.length<=st'.length
 fr:∀m,m<st.length->m≠0->st'[m]?=st[m]?
 tb:∃f,st'[0]?=some (fk f)
def jB:b_:=fun ds st K=>∃(d:D) (N w e0:Nat) (A:List (List Int)) (f:Bool),ds=[d]/\iZ st d A/\Mx.cy N w A/\1<=N/\N<=8/\w<=9/\Mx.fM A N 0 (2^e0)/\(∀t,t<=N->Mx.Ez N e0 t<=50000000/\Mx.Vz N e0 t<=60000000)/\st[0]?=some (fk f)/\
 ∀st' (top:Nat) (c:Mx.B3) (ld:Nat->Nat),Mx.jG A N w top c->Mx.g6 A N w c top w ld (Mx.Ez N e0 top) (Mx.Vz N e0 top)->Bk st st'->K (.tup [di (c.A.take top),di c.U,di (Mx.iX c.C N)]) st'
def l_:List Str:=["rows","bench","top","place","back"]
def Ax:DS:=(aL (bf 1 (Bc aA jg (af (ae 0) ao)))
 (aL (bf 2 (dC (.int 0)))
 (aL (lP (gJ (af (bZ eP (af (aw aS (ae 0) (dC (.int 0))) ao)) ao)) (cq 3) (eA (cm (iR aA "gather" kc (ae 1) (af (ae 2) (af (ae 3) ao)))) (aL (la (iR aA "lower_above" gN (ae 1) (af (ae 2) (af (ae 3) ao))))
 (AK 2 (wZ (fun i j=>i+j)) (dC (.int 1)))) dQ))
 (aL (bf 4 (aB ft (af (dv aA "back_columns" (ae 1)) (af (bZ eP (af (ae 0) ao)) ao))))
 (bI (kb (af (aB nQ (af (nt (dv aA "body" (ae 1)) kL (pU (ae 2))) ao)) (af (aB nQ (af (dv aA "turn" (ae 1)) ao)) (af (ae 4) ao)))))))))
theorem lg{st st':ag}{f:Bool}(h0:st[0]?=some (fk f))(fr:∀m,m<st.length->m≠0->st'[m]?=st[m]?){d:D}{xs:List D}(h:items? st d=some xs):items? st' d=some xs:=by
 cases d with
 |ref n=>
  have e:=CO h;have n0:n≠0:=rQ e h0;rw[aM ((fr n (List.getElem?_eq_some_iff.mp e).1 n0).trans e)]
 |_=>exact h
theorem vQ{st st':ag}{f:Bool}(h0:st[0]?=some (fk f))(fr:∀m,m<st.length->m≠0->st'[m]?=st[m]?):∀ {ds:List D} {A:List (List Int)},cu st ds A->cu st' ds A
 | [],[],_=>trivial
 |_::_,_::_,h=>⟨lg h0 fr h.1,vQ h0 fr h.2⟩
theorem uG{st st':ag}{f:Bool}(h0:st[0]?=some (fk f))(fr:∀m,m<st.length->m≠0->st'[m]?=st[m]?){d:D}{A:List (List Int)}(h:iZ st d A):iZ st' d A:=by
 obtain⟨ds,h1,h2⟩:=h.ex;exact⟨ds,lg h0 fr h1,vQ h0 fr h2⟩
theorem uL{xs:List D}{j:Nat}:L3.cutD xs none (some (j:Int))=xs.take j:=by
 unfold L3.cutD;rw[HT.zA,HT.yo,List.drop_zero,Nat.sub_zero];by_cases h:j<=xs.length
 . rw[Nat.min_eq_left h]
 . rw[Nat.min_eq_right (by omega),List.take_length,List.take_of_length_le (by omega)]
theorem zf:∀ds st K,jB ds st K->ds.length=1/\Ax {nx:=fun _ st'=>K .aE st',rt:=K} (aT l_ ds) st:=by
 rintro ds st K ⟨d,N,w,e0,A,f,rfl,hd,hA,hN1,hN,hw,hlo,hsz,h0,kk⟩;refine⟨rfl,?_⟩;have lA:=hA.len;have h0l:0<st.length:=(List.getElem?_eq_some_iff.mp h0).1;have hd1:iZ (st++[Cell.ins aA []]) d A:=uG h0 (fun m hm _=>List.getElem?_append_left hm) hd;refine⟨st.length,N,d,A,rfl,by simp,hd1,lA,hN,fun st1 B1 l1 f1=>⟨rfl,?_⟩⟩;have hl1:(st++[Cell.ins aA []]).length=st.length+1:=by simp
 have fr1:∀m,m<st.length->st1[m]?=st[m]?:=fun m hm=>by rw[f1 m (by omega) (by omega),List.getElem?_append_left hm]
 have O1:Bo st.length st st1 st.length (st.length+1) (st.length+1+1) (st.length+1+2):=⟨⟨h0l,by omega,by omega,by omega,by omega⟩,fun m hm _=>fr1 m hm,f,(fr1 0 h0l).trans h0⟩
 rw[hl1]at B1;have hdk:∀ {st':ag},(∀m,m<st.length->m≠0->st'[m]?=st[m]?)->iZ st' d A:=fun h=>uG h0 h hd;obtain⟨da,hda,hra⟩:=(hdk O1.fr).ex;have hdl:=hra.len
 have hrow0:∃d0,da[0]?=some d0/\items? st1 d0=some (aJ (A.getD 0 [])):=by
  have hi:0<da.length:=by omega
  obtain⟨r,e1,e2⟩:=cu.get hra (List.getElem?_eq_getElem hi);refine⟨da[0],List.getElem?_eq_getElem hi,?_⟩;have:A.getD 0 []=r:=by rw[List.getD_eq_getElem?_getD,e1];rfl
  rw[this];exact e2
 obtain⟨d0,hd0,hi0⟩:=hrow0;have er:(aJ (A.getD 0 [])).length=w:=by unfold aJ;rw[List.length_map];exact Mx.cz hA (by omega)
 try dsimp only[ao]
 refine mP (A:=bf 2 _) (fun σ st'=>σ=[some d,some (.ref st.length),some (.int 0),none,none]/\st'=st1) (fun nx h=>h _ _ ⟨rfl,rfl⟩) ?_;rintro _ _ ⟨rfl,rfl⟩;refine mP (A:=lP _ _ _) (fun σ st'=>∃(top xb xu xc:Nat) (v3:Option D) (c:Mx.B3) (ld:Nat->Nat),σ=[some d,some (.ref st.length),some (.int top),v3,none]/\Bn st' st.length xb xu xc c.A c.U c.C/\Bo st.length st st' st.length xb xu xc/\Mx.jG A N w top c/\Mx.g6 A N w c top w ld (Mx.Ez N e0 top) (Mx.Vz N e0 top)) (fun nx hnx=>?_) ?_
 . refine ay hda (show dP da 0=some d0 from mF (j:=0) hd0) (dA hi0 ?_);rw[er];refine kv ⟨by omega,by omega⟩ ?_;rw[Int.toNat_natCast];refine nR w (fun p σ st'=>∃(top xb xu xc:Nat) (v3:Option D) (c:Mx.B3) (ld:Nat->Nat),σ=[some d,some (.ref st.length),some (.int top),v3,none]/\Bn st' st.length xb xu xc c.A c.U c.C/\Bo st.length st st' st.length xb xu xc/\Mx.jG A N p top c/\Mx.g6 A N w c top p ld (Mx.Ez N e0 top) (Mx.Vz N e0 top)) ?_ ?_ ⟨0,_,_,_,none,⟨A,Mx.units N,Mx.units N⟩,fun _=>0,rfl,B1,O1,.start,Mx.g6.start hA hlo⟩
   . rintro σ st' ⟨top,xb,xu,xc,v3,c,ld,rfl,B,O,hC,S⟩;exact hnx _ _ ⟨top,xb,xu,xc,v3,c,ld,rfl,B,O,hC,S⟩
   . rintro p σ st' rest hp ⟨top,xb,xu,xc,v3,c,ld,rfl,B,O,hC,S⟩ next
     refine⟨_,rfl,?_⟩;have hle:=S.le
     have hz1:(N-top+1)*(Mx.Ez N e0 top+1)<=60000000:=by
      by_cases ht:top<N
      . exact Nat.le_trans (hsz (top+1) ht).1 (by decide)
      . have e:N-top=0:=by omega
        rw[e];have:=(hsz top hle).1;omega
     refine jv B.eb rfl ?_;refine⟨st.length,st.length,xb,xu,xc,N,w,top,p,_,_,A,c.A,c.U,c.C,ld,rfl,B,⟨O.lo,fun _ _ _=>rfl,O.tb⟩,S,hN,hw,hp,hz1,fun st2 B2 O2 hL=>?_,fun st2 xb2 xu2 xc2 c2 r B2 O2 hR hL ht s1=>?_⟩
     . exact t4 (next _ _ ⟨top,xb,xu,xc,_,c,ld,rfl,B2,⟨O2.lo,fun m h1 h2=>(O2.fr m h1 h2).trans (O.fr m h1 h2),O2.tb⟩,.next hC (.none hL),S.skip hL⟩)
     . refine fe ?_;have O2':Bo st.length st st2 st.length xb2 xu2 xc2:=⟨O2.lo,fun m h1 h2=>(O2.fr m h1 h2).trans (O.fr m h1 h2),O2.tb⟩
       have hup:∀i q,i<top->Mx.g (Mx.setB c2 p top r).A i q=Mx.g c.A i q/\Mx.g (Mx.setB c2 p top r).U i q=Mx.g c.U i q/\Mx.g (Mx.setB c2 p top r).C i q=Mx.g c.C i q:=fun i q hi=>by
        obtain⟨a1,a2,a3⟩:=s1.up i hi;unfold Mx.g;rw[a1,a2,a3];exact⟨rfl,rfl,rfl⟩
       refine jv B2.eb rfl ?_;refine⟨st.length,xb2,xu2,xc2,N,w,top,p,Mx.Ez N e0 (top+1),Mx.Vz N e0 top,A,_,_,_,rfl,B2,s1.tn,hN,hw,hp,ht,s1.tp,fun q hq=>s1.zs top q (Nat.le_refl _) ht hq,fun q=>⟨s1.lo.1 top q (Nat.le_refl _) ht,s1.lo.2.1 top q (Nat.le_refl _) ht,s1.lo.2.2 top q (Nat.le_refl _) ht⟩,fun i q hi=>?_,Nat.le_trans (hsz (top+1) ht).1 (by decide),Nat.le_trans (hsz top hle).2 (by decide),fun st3 B3 f3 I=>?_⟩
       . obtain⟨a1,a2,a3⟩:=hup i q hi;rw[a1,a2,a3];exact S.hi i q hi
       . have hS:=Mx.ja.next (e':=Mx.Ez N e0 (top+1)) (u':=Mx.Vz N e0 (top+1)) S s1 ht I hN (by show _<=Mx.Vz N e0 top+Mx.Vz N e0 top+Mx.Ez N e0 (top+1)+5;omega) (by show _<=Mx.Vz N e0 top+Mx.Vz N e0 top+Mx.Ez N e0 (top+1)+5;omega);exact next _ _ ⟨top+1,xb2,xu2,xc2,_,_,_,rfl,B3,O2'.low f3,.next hC (.one hR hL),hS⟩
 . rintro σ st2 ⟨top,xb,xu,xc,v3,c,ld,rfl,B,O,hC,S⟩;have T:=S.tn;have lN:=T.isA.len;refine cp B.eb rfl ?_;obtain⟨da2,hda2,hra2⟩:=(hdk O.fr).ex;refine dA hda2 ?_;rw[hra2.len,lA];refine⟨_,c.C,N,rfl,⟨_,aM B.e3,cu.lst⟩,T.fi.fO,by rw[T.fi.len];omega,by omega,?_⟩;refine cp B.eb rfl (Df B.e1 ?_);rw[uL,<-List.map_take];refine⟨_,c.A.take top,rfl,⟨_,rfl,cu.lst⟩,by rw[List.length_take];omega,?_⟩;refine cp B.eb rfl ?_;refine⟨_,c.U,rfl,⟨_,aM B.e2,cu.lst⟩,by rw[T.du.len];omega,?_⟩;refine⟨by show 3<=sizeLine;decide,?_⟩;refine kk st2 top c ld hC S ⟨?_,O.fr,O.tb⟩;have:=(List.getElem?_eq_some_iff.mp B.eb).1;omega
structure Wg(F:List (List Int))(m w f:Nat):Prop where
 is:Mx.cy m w F
 st:Mx.eO F m w (Mx.cJ F)
 m8:m<=8
 w8:w<=8
 sm:∀k c,k<m->c<w->(Mx.g F k c).natAbs<=2^f
abbrev Wf(F:List (List Int))(m w:Nat):Prop:=Wg F m w 887
theorem Wg.lead{F:List (List Int)}{m w f i:Nat}(h:Wg F m w f)(hi:i<m):Mx.cJ F i<w/\0<Mx.g F i (Mx.cJ F i)/\(F.getD i []).length=w/\fv (F.getD i [])= .int ((Mx.cJ F i:Nat):Int):=by
 obtain⟨l1,l2,l3⟩:=h.st.lead i hi;refine⟨l1,l2,h.is.row hi,?_⟩;unfold fv;rw[C6 l3 (Int.ne_of_gt l2)]
theorem Wg.row{F:List (List Int)}{m w f i:Nat}(h:Wg F m w f)(hi:i<m):∀x∈F.getD i [],x.natAbs<=2^f:=fun x hx=>by
 obtain⟨c,hc,rfl⟩:=List.mem_iff_getElem.mp hx;have hw:=h.is.row hi;have:=h.sm i c hi (by omega);unfold Mx.g at this;rwa [Mx.a7 hc]at this
theorem drop_cons{F:List (List Int)}{i:Nat}{d:D}{rest:List D}(hr:d::rest=(F.map bh).drop i):i<F.length/\d=bh (F.getD i [])/\rest=(F.map bh).drop (i+1):=by
 have hi:i<F.length:=by
  rcases Nat.lt_or_ge i F.length with h|h
  . exact h
  . rw[List.drop_eq_nil_of_le (by rw[List.length_map];exact h)]at hr;cases hr
 rw[List.drop_eq_getElem_cons (by rw[List.length_map];exact hi),List.getElem_map]at hr;obtain⟨h1,h2⟩:=List.cons.inj hr;exact⟨hi,by rw[Mx.a7 hi];exact h1,h2⟩
theorem drop_nil{F:List (List Int)}{i:Nat}(hr: []=(F.map bh).drop i):F.length<=i:=by
 have:=congrArg List.length hr;rw[List.length_drop,List.length_map,List.length_nil]at this;omega
theorem xy{i:Nat}{σ:bG}{st:ag}{K:DK}{d:D}(h:σ[i]?=some (some d))(k:K d st):ae i σ st K:=by
 unfold ae;simp only[h];exact k
def lb:b_:=fun ds st K=>∃(dr:D) (F:List (List Int)) (r:List Int) (m w e f:Nat),ds=[di F,dr]/\Wg F m w f/\items? st dr=some (aJ r)/\r.length=w/\(∀c,c<w->(r.getD c 0).natAbs<=2^e)/\e+m*(f+1)+f<=130000000/\∀st',Ext st st'->K (.tup [bh (Mx.gW F r m),bh (Mx.cw F r m)]) st'
def nA:List Str:=["form","row","weights","left","each","lead","weight"]
def Ct:DS:=(aL (bf 2 (yd ao))
 (aL (bf 3 (bZ nJ (af (ae 1) ao)))
 (aL (lP (fz (ae 0)) (cq 4) (aL (bf 5 (aB gf (af (ae 4) ao)))
 (aL (bf 6 (aw jH (aw aS (ae 3) (ae 5)) (aw aS (ae 4) (ae 5))))
 (aL (la (mM (ae 2) (ae 6)))
 (bf 3 (aB j9 (af (ae 3) (af (nC iN (ae 6)) (af (ae 4) ao)))))))))
 (bI (kb (af (bZ c5 (af (ae 2) ao)) (af (bZ c5 (af (ae 3) ao)) ao)))))))
theorem Ag:∀ds st K,lb ds st K->ds.length=2/\Ct {nx:=fun _ st'=>K .aE st',rt:=K} (aT nA ds) st:=by
 rintro ds st K ⟨dr,F,r,m,w,e,f,rfl,hW,hr,lr,br,he,k⟩;refine⟨rfl,?_⟩;have lF:=hW.is.len;have m8:=hW.m8;have w8:=hW.w8;refine⟨Nat.le_of_ble_eq_true rfl,?_⟩;have X0:Ext st (st++[.lst []]):=Ext.push;have e0:(st++[Cell.lst []])[st.length]?=some (.lst (aJ [])):=by simp
 refine rT (X0.items hr) (iE ?_);refine ju (fun rest σ st'=>∃(i:Nat) (v4 v5 v6:Option D),i<=m/\rest=(F.map bh).drop i/\σ=[some (di F),some dr,some (.ref st.length),some (bc (Mx.cw F r i)),v4,v5,v6]/\Ext st st'/\st'[st.length]?=some (.lst (aJ (Mx.gW F r i)))) ?_ ?_ _ _ _ ⟨0,none,none,none,Nat.zero_le _,rfl,rfl,X0,e0⟩
 . rintro σ st' ⟨i,v4,v5,v6,hi,hrest,rfl,X,ew⟩;have e1:i=m:=Nat.le_antisymm hi (by rw[<-lF];exact drop_nil hrest);subst e1;exact⟨trivial,cK (aM ew) (cK rfl ⟨Nat.le_of_ble_eq_true rfl,k st' X⟩)⟩
 . rintro x rest σ st' ⟨i,v4,v5,v6,hi,hrest,rfl,X,ew⟩ next
   obtain⟨hiF,rfl,rfl⟩:=drop_cons hrest;have him:i<m:=by rw[<-lF];exact hiF
   obtain⟨l1,l2,wF,eld⟩:=hW.lead him;have lL:=Mx.ko hW.is lr (i:=i) (Nat.le_of_lt him);refine⟨trivial,_,rfl,_,F.getD i [],rfl,rfl,?_⟩;rw[eld];have at1:dP (aJ (F.getD i [])) ((Mx.cJ F i:Nat):Int)=some (.int (Mx.g F i (Mx.cJ F i))):=iq (by omega);have at2:dP (aJ (Mx.cw F r i)) ((Mx.cJ F i:Nat):Int)=some (.int ((Mx.cw F r i).getD (Mx.cJ F i) 0)):=iq (by omega);refine ay rfl at2 (ay rfl at1 (jj (by omega) ?_));have bx:=Mx.mK hW.is lr hW.st hW.sm br (Nat.le_of_lt him) _ l1;have bq:(Mx.lY F (Mx.cw F r i) i).natAbs<=2^(e+i*(f+1)):=Nat.le_trans (Mx.jb _ l2) bx;show aL _ _ _ [_,_,_,_,_,_,some (.int (Mx.lY F (Mx.cw F r i) i))] _;have lW:(Mx.gW F r i).length=i:=by unfold Mx.gW;simp
   refine Dm (by rfl) ew (xy rfl (zm ew (by rw[sizeLine_eq,List.length_map,lW];omega) ?_));have hlt:=(List.getElem?_eq_some_iff.mp ew).1;refine il ?_;refine⟨_,_,_,Mx.cw F r i,F.getD i [],rfl,rfl,rfl,by omega,fun b hb=>dc (by rw[Int.natAbs_neg];exact bq) (hW.row him b hb) (by have:=Nat.mul_le_mul_right (f+1) (Nat.le_of_lt him);omega),?_⟩;refine next _ _ ⟨i+1,_,_,_,him,rfl,rfl,X.set (Nat.le_refl _),?_⟩
   rw[List.getElem?_set_self hlt,ints_app];congr 3;unfold Mx.gW;rw[List.range_succ,List.map_append];rfl
def rq:b_:=fun ds st K=>∃(dr:D) (F:List (List Int)) (r:List Int) (m w e f:Nat),ds=[di F,dr]/\Wg F m w f/\items? st dr=some (aJ r)/\r.length=w/\(∀c,c<w->(r.getD c 0).natAbs<=2^e)/\e+m*(f+1)+f<=130000000/\∀st',Ext st st'->K (bh (Mx.cw F r m)) st'
def rM:List Str:=["form","row"]
def Gq:DS:=(bI (aw aS (aB lb (af (ae 0) (af (ae 1) ao))) (dC (.int 1))))
theorem ES:∀ds st K,rq ds st K->ds.length=2/\Gq {nx:=fun _ st'=>K .aE st',rt:=K} (aT rM ds) st:=by
 rintro ds st K ⟨dr,F,r,m,w,e,f,rfl,hW,hr,lr,br,he,k⟩;exact⟨rfl,dr,F,r,m,w,e,f,rfl,hW,hr,lr,br,he,fun st' X=>ay rfl rfl (k st' X)⟩
def tR(st:ag):List D->List Rat->Prop
 | [],[]=>True
 |d::ds,q::qs=>items? st d=some [.int q.num,.int ((q.den:Nat):Int)]/\tR st ds qs
 |_,_=>False
theorem tR.of{st:ag}:∀ {ps:List Rat},tR st (ps.map e9) ps
 | []=>trivial
 |_::_=>⟨rfl,tR.of⟩
def iQ:b_:=fun ds st K=>∃(dp dr:D) (xs:List D) (ps:List Rat) (r:List Int) (t e:Nat),ds=[dp,dr]/\items? st dp=some xs/\tR st xs ps/\items? st dr=some (aJ r)/\Mx.Pb ps t/\(∀x∈r,x.natAbs<=2^e)/\t+ps.length*(e+1)<=60000000/\K (e9 (Mx.j5 0 ps r)) st
def k_:List Str:=["parts","row","total","one","number"]
def yU:DS:=(aL (bf 2 (aB kj (af (dC (.int 0)) ao)))
 (aL (lP (yq (af (ae 0) (af (ae 1) ao))) (mv 3 4) (bf 2 (aB yJ (af (ae 2) (af (aB vj (af (ae 3) (af (aB kj (af (ae 4) ao)) ao))) ao)))))
 (bI (ae 2))))
theorem yx:∀ds st K,iQ ds st K->ds.length=2/\yU {nx:=fun _ st'=>K .aE st',rt:=K} (aT k_ ds) st:=by
 rintro ds st K ⟨dp,dr,xs,ps,r,t,e,rfl,hp,hx,hr,hP,hsm,hB,k⟩;refine⟨rfl,?_⟩;refine⟨_,rfl,?_⟩;refine yK hp hr fun ok aK=>?_;refine ju (fun rest σ st'=>st'=st/\∃(xs':List D) (ps':List Rat) (r':List Int) (tot:Rat) (T C:Nat) (v3 v4:Option D),rest=h7 xs' (aJ r')/\tR st xs' ps'/\σ=[some dp,some dr,some (e9 tot),v3,v4]/\Mx.Sz tot T/\Mx.Pb ps' C/\(∀x∈r',x∈r)/\Mx.j5 tot ps' r'=Mx.j5 0 ps r/\T+C+ps'.length*(e+1)<=60000000) ?_ ?_ _ _ _ ⟨rfl,xs,ps,r,0,0,t,none,none,rfl,hx,rfl,⟨by decide,by decide⟩,hP,fun _ h=>h,rfl,by omega⟩
 . rintro σ st' ⟨rfl,xs',ps',r',tot,T,C,v3,v4,he,hx',rfl,hT,hC,_,hd,hle⟩;refine⟨aK _ hp hr,?_⟩
   have:Mx.j5 tot ps' r'=tot:=by
    match xs',ps',r',hx',he with
    | [],[],_,_,_=>unfold Mx.j5;rfl
    |_::_,_::_,[],_,_=>unfold Mx.j5;rfl
    |_::_,_::_,_::_,_,he=>cases he
   rw[<-hd,this]at k;exact k
 . rintro x rest σ st' ⟨rfl,xs',ps',r',tot,T,C,v3,v4,he,hx',rfl,hT,hC,hm,hd,hle⟩ next
   match xs',ps',r',he,hx',hC,hm,hd,hle with
   | [],[],_,he,_,_,_,_,_=>cases he
   |_::_,_::_,[],he,_,_,_,_,_=>cases he
   |d::xs',p::ps',n::r',he,hx',⟨a,C',ha,hC',hbC⟩,hm,hd,hle=>
    have hz:h7 (d::xs') (aJ (n::r'))= .tup [d,.int n]::h7 xs' (aJ r'):=rfl;rw[hz,List.cons.injEq]at he;obtain⟨rfl,rfl⟩:=he;have hn:=hsm n (hm n List.mem_cons_self);rw[List.length_cons,Nat.succ_mul]at hle;have s1:=Mx.Sz.int hn;refine⟨aK _ hp hr,_,rfl,?_⟩;refine⟨_,rfl,d,_,p,(n:Rat),a,e,rfl,⟨hx'.1,ha⟩,Fq.of s1,by omega,?_⟩;refine⟨_,_,tot,p*(n:Rat),T,a+e,rfl,Fq.of hT,Fq.of (ha.mul s1),by omega,?_⟩;exact next _ _ ⟨rfl,xs',ps',r',_,_,C',_,_,rfl,hx'.2,rfl,hT.add (ha.mul s1),hC',fun x hx=>hm x (List.mem_cons_of_mem _ hx),hd,by omega⟩
def n_:b_:=fun ds st K=>∃(F:List (List Int)) (R:List Int) (m w l:Nat),ds=[di F,bh R,.int l]/\Wf F m w/\R.length=w/\l<w/\∀b:Int,Mx.yC F m l (R.getD l 0) b->K (.int b) st
def kM:List Str:=["form","rest","place","row"]
def y8:DS:=(aL (lP (fz (ae 0)) (cq 3) (eA (cm (aw iK (aB gf (af (ae 3) ao)) (ae 2))) (bI (aw aS (ae 3) (ae 2))) dQ))
 (bI (aw dg (dC (.int 2)) (bZ pw (af (aw aS (ae 1) (ae 2)) ao)))))
theorem yN:∀ds st K,n_ ds st K->ds.length=3/\y8 {nx:=fun _ st'=>K .aE st',rt:=K} (aT kM ds) st:=by
 rintro ds st K ⟨F,R,m,w,l,rfl,hW,lR,hl,k⟩;refine⟨rfl,?_⟩;have lF:=hW.is.len;refine iE ?_;refine ju (fun rest σ st'=>st'=st/\∃(i:Nat) (v3:Option D),i<=m/\rest=(F.map bh).drop i/\σ=[some (di F),some (bh R),some (.int l),v3]/\∀k,k<i->Mx.cJ F k≠l) ?_ ?_ _ _ _ ⟨rfl,0,none,Nat.zero_le _,rfl,rfl,fun k h=>absurd h (Nat.not_lt_zero _)⟩
 . rintro σ st' ⟨rfl,i,v3,hi,hrest,rfl,hn⟩;have:=drop_nil hrest;exact⟨trivial,ay rfl (iq (by omega)) (qJ (dB (ka (by decide) (by decide)) (k _ (.inr ⟨fun k hk=>hn k (by omega),rfl⟩))))⟩
 . rintro x rest σ st' ⟨rfl,i,v3,hi,hrest,rfl,hn⟩ next
   obtain⟨hiF,rfl,rfl⟩:=drop_cons hrest;have him:i<m:=by rw[<-lF];exact hiF
   obtain⟨l1,l2,wF,eld⟩:=hW.lead him;refine⟨trivial,_,rfl,_,F.getD i [],rfl,rfl,?_⟩;rw[eld];refine eq2 (fun h=>fe ?_) fun h=>next _ _ ⟨rfl,i+1,_,him,rfl,rfl,fun k hk=>?_⟩
   . have hh:Mx.cJ F i=l:=by omega
     exact ay rfl (iq (by omega)) (k _ (.inl ⟨i,him,hh,rfl⟩))
   . by_cases q:k=i
     . subst q;omega
     . exact hn k (by omega)
theorem vN:∀(r:List Int) (i l:Nat),iF r i=some l->∃k,l=i+k/\k<r.length/\r.getD k 0≠0/\∀c,c<k->r.getD c 0=0
 | [],_,_,h=>by cases h
 |x::r,i,l,h=>by
  unfold iF at h;split at h
  . rename_i hx;obtain⟨k,e,hk,hr,hz⟩:=vN r (i+1) l h;refine⟨k+1,by omega,Nat.succ_lt_succ hk,hr,fun c hc=>?_⟩;cases c with
    |zero=>exact hx
    |succ c=>exact hz c (Nat.lt_of_succ_lt_succ hc)
  . cases h;exact⟨0,rfl,Nat.succ_pos _,by assumption,fun c hc=>absurd hc (Nat.not_lt_zero _)⟩
theorem nZ{r:List Int}{l:Nat}(h:ie r=some l):l<r.length/\r.getD l 0≠0/\∀c,c<l->r.getD c 0=0:=by
 obtain⟨k,e,h1,h2,h3⟩:=vN r 0 l h;rw[Nat.zero_add]at e;subst e;exact⟨h1,h2,h3⟩
def g0:b_:=fun ds st K=>∃(F:List (List Int)) (R:List Int) (m w e l:Nat),ds=[di F,bh R]/\Wf F m w/\R.length=w/\ie R=some l/\(∀c,c<w->(R.getD c 0).natAbs<=2^e)/\e<=10000/\∀st' b,Ext st st'->Mx.yC F m l (R.getD l 0) b->Mx.Pb (Mx.g5 F m w l (Mx.fC w l b) m) 10000000->K (.tup ((Mx.g5 F m w l (Mx.fC w l b) m).map e9)) st'
def g7:List Str:=["form","rest","place","parts","k","lead","owed"]
def uM:DS:=(aL (bf 2 (aB gf (af (ae 1) ao)))
 (aL (bf 3 (aw uD (uR (af (aB kj (af (dC (.int 0)) ao)) ao)) (bZ eP (af (ae 1) ao))))
 (aL (eG (ae 3) (ae 2) (aB m4 (af (dC (.int 1)) (af (aB n_ (af (ae 0) (af (ae 1) (af (ae 2) ao)))) ao))))
 (aL (lP (uX (af (aw qX (bZ eP (af (ae 0) ao)) (dC (.int 1))) (af (nC iN (dC (.int 1))) (af (nC iN (dC (.int 1))) ao)))) (cq 4) (aL (bf 5 (aB gf (af (aw aS (ae 0) (ae 4)) ao)))
 (eA (cm (aw qi (ae 5) (ae 2))) (aL (bf 6 (aB uO (af (aB kj (af (dC (.int 0)) ao)) (af (aB iQ (af (ae 3) (af (aw aS (ae 0) (ae 4)) ao))) ao))))
 (eG (ae 3) (ae 5) (aB x4 (af (ae 6) (af (aB kj (af (aw aS (aw aS (ae 0) (ae 4)) (ae 5)) ao)) ao))))) dQ)))
 (bI (bZ c5 (af (ae 3) ao)))))))
theorem lG(a:Int)(n:Nat):(gu a n).length=n:=by unfold gu;simp
theorem Bz{m i:Nat}{d:D}{rest:List D}(hr:d::rest=(gu ((m:Int)-1) m).drop i):i<m/\d= .int ((m-1-i:Nat):Int)/\rest=(gu ((m:Int)-1) m).drop (i+1):=by
 have hi:i<m:=by
  rcases Nat.lt_or_ge i m with h|h
  . exact h
  . rw[List.drop_eq_nil_of_le (by rw[lG];exact h)]at hr;cases hr
 have hl:i<(gu ((m:Int)-1) m).length:=by rw[lG];exact hi
 rw[List.drop_eq_getElem_cons hl]at hr;obtain⟨h1,h2⟩:=List.cons.inj hr;refine⟨hi,?_,h2⟩;have h3:(gu ((m:Int)-1) m)[i]=D.int ((m:Int)-1+(i:Nat)*(-1)):=by simp[gu]
 rw[h1,h3];congr 1;omega
theorem rG{A:List (List Int)}{k:Nat}(h:k<A.length):dP (A.map bh) (k:Int)=some (bh (A.getD k [])):=by
 refine mF ?_;rw[List.getElem?_map,List.getElem?_eq_getElem h,Mx.a7 h];rfl
theorem yL{α:Type}(d:α):∀n:Nat,(List.replicate n [d]).flatten=List.replicate n d
 |0=>rfl
 |n+1=>by rw[List.replicate_succ,List.flatten_cons,yL d n,List.replicate_succ];rfl
theorem EF{ps:List Rat}{r:List Int}{w:Nat}(h1:ps.length=w)(h2:r.length=w):Mx.j5 0 ps r=Mx.dq ps w fun c=>r.getD c 0:=by
 rw[Mx.Dt ps r 0 h1 h2];grind
theorem tD:∀ds st K,g0 ds st K->ds.length=2/\uM {nx:=fun _ st'=>K .aE st',rt:=K} (aT g7 ds) st:=by
 rintro ds st K ⟨F,R,m,w,e,l,rfl,hW,lR,el,bR,he,k⟩;refine⟨rfl,?_⟩;have lF:=hW.is.len;have m8:=hW.m8;have w8:=hW.w8;obtain⟨hl,hne,_⟩:=nZ el;rw[lR]at hl;have el':fv R= .int (l:Int):=by unfold fv;rw[el]
 refine⟨_,R,rfl,rfl,?_⟩;rw[el'];refine⟨_,rfl,Nat.le_of_ble_eq_true rfl,dA rfl (HR ⟨by omega,by rw[List.length_map];omega,cY (by simp;omega)⟩ ?_)⟩;rw[List.length_map,lR,Int.toNat_natCast,yL];have er:List.replicate w (e9 ((0:Int):Rat))=(List.replicate w (0:Rat)).map e9:=by rw[List.map_replicate];rfl
 rw[er];have X0:Ext st (st++[.lst ((List.replicate w (0:Rat)).map e9)]):=Ext.push;have e0:(st++[Cell.lst ((List.replicate w (0:Rat)).map e9)])[st.length]?=some (.lst ((List.replicate w (0:Rat)).map e9)):=by simp
 generalize st++[Cell.lst ((List.replicate w (0:Rat)).map e9)]=st1 at X0 e0⊢;refine⟨F,R,m,w,l,rfl,hW,lR,hl,fun b hb=>?_⟩;have b0:=hb.pos hW.st hne
 have bb:b.natAbs<=2^(e+888):=by
  rcases hb with⟨k,hk,_,rfl⟩|⟨_,rfl⟩
  . exact Nat.le_trans (hW.sm k l hk hl) (Nat.pow_le_pow_right (by decide) (by omega))
  . have:=bR l hl;rw[show e+888=e+887+1 by omega,Nat.pow_succ];have p:2^e<=2^(e+887):=Nat.pow_le_pow_right (by decide) (by omega);omega
 refine⟨_,_,rfl,by omega,?_⟩
 have hix:∀ {n i:Nat},i<n->iL n (i:Int)=some i:=fun{n i} h=>by
  unfold iL;simp only[Int.natCast_nonneg,Int.toNat_natCast];simp[h]
 refine gD e0 (hix (by simpa using hl)) ?_;have hlt:=(List.getElem?_eq_some_iff.mp e0).1;refine dA rfl (tX (il (il ?_)));rw[List.length_map,lF];refine F8 ⟨by omega,by omega,by decide,by decide⟩ ?_;rw[show((m:Int)-1- -1).toNat=m by omega]
 have p0:Mx.Pb (Mx.fC w l b) (e+888):=by
  have:=(Mx.Pb.rep w).set (k:=l) (Mx.Sz.of (t:=1) (by omega) (show(1:Int).natAbs<=2^(e+888)from Nat.pow_pos (by decide)) bb);rwa [Nat.zero_add]at this
 refine ju (fun rest σ st'=>∃(i t:Nat) (v4 v5 v6:Option D),i<=m/\rest=(gu ((m:Int)-1) m).drop i/\σ=[some (di F),some (bh R),some (.int l),some (.ref st.length),v4,v5,v6]/\Ext st st'/\st'[st.length]?=some (.lst ((Mx.g5 F m w l (Mx.fC w l b) i).map e9))/\Mx.Pb (Mx.g5 F m w l (Mx.fC w l b) i) t/\t+8000<=2^i*(e+8888)) ?_ ?_ _ _ _ ⟨0,e+888,none,none,none,Nat.zero_le _,rfl,rfl,X0.set (Nat.le_refl _),by rw[List.getElem?_set_self hlt,<-List.map_set];rfl,p0,by omega⟩
 . rintro σ st' ⟨i,t,v4,v5,v6,hi,hrest,rfl,X,ep,hP,ht⟩
   have e1:i=m:=by
    have:=congrArg List.length hrest;rw[List.length_drop,lG,List.length_nil]at this;omega
   subst e1;have h2i:2^i<=256:=Nat.le_trans (Nat.pow_le_pow_right (by decide) m8) (by decide);have:=Nat.mul_le_mul h2i (show e+8888<=18888 by omega);exact⟨trivial,cK (aM ep) (k st' b X hb (hP.mono (by omega)))⟩
 . rintro x rest σ st' ⟨i,t,v4,v5,v6,hi,hrest,rfl,X,ep,hP,ht⟩ next
   obtain⟨him,rfl,rfl⟩:=Bz hrest;have P:=Mx.lZ.all b hW.st hl (i:=i) hi;have hstep:Mx.g5 F m w l (Mx.fC w l b) (i+1)=Mx.BD F w l (Mx.g5 F m w l (Mx.fC w l b) i) (m-1-i):=rfl;generalize Mx.g5 F m w l (Mx.fC w l b) i=ps at P hP ep hstep;generalize hj:m-1-i=j at hstep;have hjm:j<m:=by omega
   obtain⟨l1,l2,wF,eld⟩:=hW.lead hjm;have lp:=P.len;have hat:dP (F.map bh) (j:Int)=some (bh (F.getD j [])):=rG (by omega);refine⟨trivial,_,rfl,ay rfl hat ⟨_,F.getD j [],rfl,rfl,?_⟩⟩;rw[eld];have h2i:2^i<=128:=Nat.le_trans (Nat.pow_le_pow_right (by decide) (show i<=7 by omega)) (by decide);have ht2:=Nat.mul_le_mul h2i (show e+8888<=18888 by omega);have e2:2^(i+1)*(e+8888)=2^i*(e+8888)+2^i*(e+8888):=by rw[Nat.pow_succ,Nat.mul_two,Nat.add_mul]
   unfold Mx.BD at hstep;refine FR (fun hlp=>fe ?_) fun hlp=>?_
   . rw[if_pos (by omega)]at hstep;have hpl:ps.length*(887+1)<=8*888:=Nat.mul_le_mul (by omega) (by decide);refine⟨_,rfl,ay rfl hat ⟨_,_,_,ps,F.getD j [],t,887,rfl,aM ep,tR.of,rfl,hP,hW.row hjm,by omega,?_⟩⟩;have sd:=Mx.Pb.j5 (r:=F.getD j []) (x:=0) (s:=0) ⟨by decide,by decide⟩ hP (hW.row hjm);rw[EF lp wF]at sd⊢;refine⟨_,_,0,_,0,_,rfl,Fq.of ⟨by decide,by decide⟩,Fq.of sd,by omega,?_⟩
     have hnum:(((Mx.g F j (Mx.cJ F j):Int)):Rat).num≠0:=by
      show Mx.g F j (Mx.cJ F j)≠0;omega
     have sg:=Mx.Sz.int (hW.sm j _ hjm l1);refine ay rfl hat (ay rfl (iq (by omega)) ⟨_,rfl,_,_,_,_,_,_,rfl,Fq.of sd.neg,Fq.of sg,by omega,hnum,?_⟩);refine gD ep (hix (by rw[List.length_map];omega)) ?_;have hlt2:=(List.getElem?_eq_some_iff.mp ep).1;refine next _ _ ⟨i+1,t+(0+t+ps.length*(887+1)+887),_,_,_,him,rfl,rfl,X.set (Nat.le_refl _),?_,?_,?_⟩
     . rw[List.getElem?_set_self hlt2,<-List.map_set,hstep];rfl
     . rw[hstep];exact hP.set (sd.neg.div sg hnum)
     . omega
   . rw[if_neg (by omega)]at hstep;refine next _ _ ⟨i+1,t,_,_,_,him,rfl,rfl,X,?_,?_,?_⟩
     . rw[hstep];exact ep
     . rw[hstep];exact hP
     . omega
structure Oc(F U:List (List Int))(m N w:Nat)(r:List Int)(x:D):Prop where
 st:Mx.eO F m w (Mx.cJ F)
 or:(ie (Mx.cw F r m)=none/\x= .tup [.str "told",bh (Mx.cM (Mx.gW F r m) (U.take m) (List.replicate N 0))])\/∃l b,ie (Mx.cw F r m)=some l/\Mx.yC F m l ((Mx.cw F r m).getD l 0) b/\x= .tup [.str "none",.tup ((Mx.g5 F m w l (Mx.fC w l b) m).map e9)]
structure Oa(A:List (List Int))(N w:Nat)(r:List Int)(x:D):Prop where
 ex:∃top c,Mx.jG A N w top c/\Oc (c.A.take top) c.U top N w r x
def NN(A:List (List Int))(N w:Nat)(r:List Int)(x:D):Prop:=
 (∃W:List Int,x= .tup [.str "told",bh W]/\W.length=N/\∀c,c<w->(Mx.S N fun n=>W.getD n 0*Mx.g A n c)=r.getD c 0)\/
 (∃ps:List Rat,x= .tup [.str "none",.tup (ps.map e9)]/\ps.length=w/\Mx.Pb ps 10000000/\(∀n,n<N->Mx.Wh (Mx.dq ps w (Mx.g A n)))/\¬Mx.Wh (Mx.dq ps w fun c=>r.getD c 0))
structure zV(A:List (List Int))(N w:Nat)(r:List Int):Prop where
 is:Mx.cy N w A
 n1:1<=N
 n8:N<=8
 w8:w<=8
 bA:∀r∈A,∀x∈r,x.natAbs<=2^48
 lr:r.length=w
 br:∀x∈r,x.natAbs<=2^64
def sX:b_:=fun ds st K=>∃(d dr:D) (A:List (List Int)) (r:List Int) (N w:Nat) (f:Bool),ds=[d,dr]/\iZ st d A/\items? st dr=some (aJ r)/\zV A N w r/\st[0]?=some (fk f)/\∀st' x,Bk st st'->Oa A N w r x->NN A N w r x->K x st'
def o3:List Str:=["rows","row","told","form","fallen"]
def EL:DS:=(aL (bf 2 (aB jB (af (ae 0) ao)))
 (aL (bf 3 (aw aS (ae 2) (dC (.int 0))))
 (aL (bf 4 (aB lb (af (ae 3) (af (ae 1) ao))))
 (aL (eA (cm (aw rR (aB gf (af (aw aS (ae 4) (dC (.int 1))) ao)) (dC .aE))) (bI (kb (af (dC (.str "none")) (af (aB g0 (af (ae 3) (af (aw aS (ae 4) (dC (.int 1))) ao))) ao)))) dQ)
 (bI (kb (af (dC (.str "told")) (af (aB i9 (af (aw aS (ae 4) (dC (.int 0))) (af (nt (aw aS (ae 2) (dC (.int 1))) kL (pU (bZ eP (af (ae 3) ao)))) (af (bZ eP (af (ae 0) ao)) ao)))) ao))))))))
theorem Bk.ext{st st1 st2:ag}(B:Bk st st1)(X:Ext st1 st2):Bk st st2:=by
 have l1:=B.le;obtain⟨f,e⟩:=B.tb;have l0:=(List.getElem?_eq_some_iff.mp e).1;exact⟨by have:=X.len;omega,fun m hm h0=>by rw[X.same m (by omega),B.fr m hm h0],f,by rw[X.same 0 l0];exact e⟩
theorem JJ:8*((9*2^48)^9*(9*2^48)^8)<=2^887:=by decide+kernel
theorem fW{A:List (List Int)}{t i c:Nat}(h:i<t):Mx.g (A.take t) i c=Mx.g A i c:=by
 have e:(A.take t).getD i []=A.getD i []:=by rw[List.getD_eq_getElem?_getD,List.getD_eq_getElem?_getD,List.getElem?_take,if_pos h]
 unfold Mx.g;rw[e]
theorem Co{A:List (List Int)}{N w top e u:Nat}{c:Mx.B3}{ld:Nat->Nat}(H:Mx.g6 A N w c top w ld e u)(hA:Mx.cy N w A)(n8:N<=8)(w8:w<=8)(bA:∀r∈A,∀x∈r,x.natAbs<=2^48):Wf (c.A.take top) top w:=by
 have le:=H.le;have lA:=H.tn.isA.len
 have s:Mx.eO (c.A.take top) top w ld:=⟨fun i hi=>by
  obtain⟨h1,h2,h3⟩:=H.lead i hi;exact⟨h1,by rw[fW hi];exact h2,fun c hc=>by rw[fW hi];exact h3 c hc⟩,H.mono⟩
 have sm:=(H.small n8 (b:=2^48) (Nat.pow_pos (by decide)) fun i c hi hc=>by
  have lN:=hA.len;have hr:=hA.row hi;unfold Mx.g;refine bA _ (by rw[Mx.a7 (by omega)];exact List.getElem_mem _) _ (getD_mem (by omega))).2
 exact⟨⟨by rw[List.length_take];omega,fun r hr=>H.tn.isA.fO r (List.mem_of_mem_take hr)⟩,s.MC,by omega,w8,fun k q hk hq=>by rw[fW hk];exact Nat.le_trans (sm k q hk hq) JJ⟩
theorem Kg{A:List (List Int)}{N w:Nat}(hA:Mx.cy N w A)(bA:∀r∈A,∀x∈r,x.natAbs<=2^48):Mx.fM A N 0 (2^48):=fun i c _ hi=>by
 have lA:=hA.len;unfold Mx.g;by_cases hc:c<(A.getD i []).length
 . exact bA _ (by rw[Mx.a7 (by omega)];exact List.getElem_mem _) _ (getD_mem hc)
 . rw[Mx.j8 (by omega)];exact Nat.zero_le _
theorem De:∀ds st K,sX ds st K->ds.length=2/\EL {nx:=fun _ st'=>K .aE st',rt:=K} (aT o3 ds) st:=by
 rintro ds st K ⟨d,dr,A,r,N,w,f,rfl,hd,hr,⟨hA,n1,n8,w8,bA,lr,br⟩,h0,k⟩;refine⟨rfl,d,N,w,48,A,f,rfl,hd,hA,n1,n8,by omega,Kg hA bA,fun t ht=>Mx.Ik N (by omega) t (by omega),h0,fun st1 top c ld hC H B=>?_⟩;have hW:=Co H hA n8 w8 bA;have lF:=hW.is.len;have hgF:∀i q,i<top->Mx.g (c.A.take top) i q=Mx.g c.A i q:=fun i q hi=>fW hi;generalize hF:c.A.take top=F at hW lF hgF;have br':∀c,c<w->(r.getD c 0).natAbs<=2^64:=fun c hc=>br _ (getD_mem (by omega));refine ay rfl rfl ?_;have t8:=hW.m8;refine⟨dr,F,r,top,w,64,887,rfl,hW,lg h0 B.fr hr,lr,br',by omega,fun st2 X=>?_⟩;have B2:=B.ext X;have lR:=Mx.ko hW.is lr (Nat.le_refl top);have fal:=Mx.vg hW.is lr hW.st (Nat.le_refl top);have sm:=Mx.rP hW.is lr (Nat.le_refl top);have ab:=Mx.mK hW.is lr hW.st hW.sm br' (Nat.le_refl top);have t8:=hW.m8;refine ay rfl rfl ⟨_,Mx.cw F r top,rfl,rfl,?_⟩;cases el:ie (Mx.cw F r top)with
 |some l=>
  have eD:fv (Mx.cw F r top)= .int (l:Int):=by unfold fv;rw[el]
  rw[eD];obtain⟨hl,hne,hz⟩:=nZ el;rw[lR]at hl;refine ux rfl (fe (ay rfl rfl ⟨F,Mx.cw F r top,top,w,64+top*(887+1),l,rfl,hW,lR,el,ab,by omega,fun st3 b X3 hb hP=>⟨Nat.le_of_ble_eq_true rfl,?_⟩⟩));have P:=Mx.lZ.all b hW.st hl (Nat.le_refl top);have wF:∀i,i<top->Mx.Wh (Mx.dq (Mx.g5 F top w l (Mx.fC w l b) top) w (Mx.g F i)):=fun i hi=>P.whole hW.st hl hb hne hi;refine k st3 _ (B2.ext X3) ⟨top,c,hC,by rw[hF];exact⟨hW.st,.inr ⟨l,b,el,hb,rfl⟩⟩⟩ (.inr ⟨_,rfl,P.len,hP,fun n hn=>?_,fun z=>?_⟩)
  . have e1:Mx.dq (Mx.g5 F top w l (Mx.fC w l b) top) w (Mx.g A n)=Mx.dq (Mx.g5 F top w l (Mx.fC w l b) top) w fun q=>Mx.S top fun k=>Mx.g c.C k n*Mx.g F k q:=Mx.mY fun q hq=>by
     rw[H.back hn hq];exact Mx.aH fun k hk=>by rw[hgF k q hk]
    rw[e1,Mx.qR];exact Mx.tK fun i hi=>(wF i hi).mul _
  . have e1:Mx.dq (Mx.g5 F top w l (Mx.fC w l b) top) w (fun q=>r.getD q 0)=Mx.dq (Mx.g5 F top w l (Mx.fC w l b) top) w (fun q=>(Mx.cw F r top).getD q 0)+Mx.dq (Mx.g5 F top w l (Mx.fC w l b) top) w (fun q=>Mx.S top fun j=>Mx.lY F (Mx.cw F r j) j*Mx.g F j q):=by
     rw[<-Mx.C9];exact Mx.mY fun q _=>sm q
    have w2:Mx.Wh (Mx.dq (Mx.g5 F top w l (Mx.fC w l b) top) w (fun q=>Mx.S top fun j=>Mx.lY F (Mx.cw F r j) j*Mx.g F j q)):=by
     rw[Mx.qR];exact Mx.tK fun i hi=>(wF i hi).mul _
    refine P.not hW.st hl hb hne hz (fun i hi=>fal.red i hi) ?_;have:=z.add w2.neg;rw[e1]at this;have e2:∀a b:Rat,a+b+ -b=a:=by grind
    rwa [e2]at this
 |none=>
  have eD:fv (Mx.cw F r top)= .aE:=by unfold fv;rw[el]
  rw[eD];refine ux rfl ?_;have lU:=H.tn.du.len;have le:=H.le;refine ay rfl rfl (ay rfl rfl (dA rfl (qk ?_)));rw[List.length_map,lF,uL,<-List.map_take];obtain⟨da,hda,ra⟩:=hd;refine dA (X.items (lg h0 B.fr hda)) ?_;have lda:da.length=N:=by rw[ra.len];exact hA.len
  rw[lda];have lw:(Mx.gW F r top).length=top:=by unfold Mx.gW;simp
  have wat:∀j,j<top->(Mx.gW F r top).getD j 0=Mx.lY F (Mx.cw F r j) j:=fun j hj=>by
   unfold Mx.gW;rw[Mx.a7 (by simpa using hj),List.getElem_map,List.getElem_range]
  refine⟨_,_,N,Mx.gW F r top,c.U.take top,rfl,rfl,f7,fun q hq=>H.tn.du.fO q (List.mem_of_mem_take hq),by omega,fun x hx q hq y hy=>?_,⟨Nat.le_of_ble_eq_true rfl,k st2 _ B2 ⟨top,c,hC,by rw[hF];exact⟨hW.st,.inl ⟨el,rfl⟩⟩⟩ (.inl ⟨_,rfl,Mx.jt (by simp) fun q hq=>H.tn.du.fO q (List.mem_of_mem_take hq),fun q hq=>?_⟩)⟩⟩
  . obtain⟨j,hj,rfl⟩:=List.mem_iff_getElem.mp hx;rw[lw]at hj
    have bj:(Mx.gW F r top)[j].natAbs<=2^(64+j*(887+1)):=by
     have e1:=wat j hj;rw[Mx.a7 (by omega)]at e1;rw[e1];obtain⟨l1,l2,_⟩:=hW.lead hj;exact Nat.le_trans (Mx.jb _ l2) (Mx.mK hW.is lr hW.st hW.sm br' (Nat.le_of_lt hj) _ l1)
    obtain⟨i,hi,rfl⟩:=List.mem_iff_getElem.mp hq;have hiU:i<c.U.length:=by rw[List.length_take]at hi;omega
    have him:i<top:=by rw[List.length_take]at hi;omega
    rw[List.getElem_take]at hy;obtain⟨p,hp,rfl⟩:=List.mem_iff_getElem.mp hy;have hU:=(H.hi i p him).2.1
    have eU:Mx.g c.U i p=c.U[i][p]:=by
     unfold Mx.g;rw[Mx.a7 hiU,Mx.a7 hp]
    rw[eU]at hU;have sz:=Mx.Ik N (by omega) top (by omega);exact dc bj hU (by omega)
  . refine Mx.xV H lw (fun q hq=>?_) hq;rw[sm q,pN _ 0 el q,Int.zero_add];exact Mx.aH fun j hj=>by rw[wat j hj,hgF j q hj]
def oa:b_:=fun ds st K=>∃(ps:List Rat) (w:Nat),ds=[.tup (ps.map e9),.int w]/\ps.length=w/\w<=1000/\K (.bl true) st
def kX:List Str:=["thing","many"]
def zh:DS:=(bI (jV (aB eV (af (ae 0) (af (ae 1) ao))) (bZ q_ (af (eK (fz (ae 0)) [none] (cq 0) cN (aB qt (af (ae 0) ao))) ao))))
theorem rW:∀l:List D,iW (l.map fun _=>D.bl true)=some (l.map fun _=>true)
 | []=>rfl
 |_::l=>by simp[iW,rW l]
theorem A9(l:List D):(l.map fun _=>true).all id=true:=by simp
theorem ym:∀ds st K,oa ds st K->ds.length=2/\zh {nx:=fun _ st'=>K .aE st',rt:=K} (aT kX ds) st:=by
 rintro ds st K ⟨ps,w,rfl,lp,hw,k⟩;refine⟨rfl,?_⟩;refine⟨_,_,rfl,⟨_,rfl⟩,?_⟩;show if decide ((((ps.map e9).length:Nat):Int)=(w:Int))=true then _ else _
 rw[decide_eq_true (by rw[List.length_map,lp]),if_pos rfl];refine iE ⟨cY (by rw[List.length_map];omega),?_⟩;refine comp_map (g:=fun _=> .bl true) trivial _ (fun d hd K' q=>?_) ?_
 . obtain⟨p,_,rfl⟩:=List.mem_map.mp hd;exact⟨_,rfl,p,rfl,q⟩
 refine tT (rW (ps.map e9)) ?_;rw[A9];exact k
def mn:b_:=fun ds st K=>∃q:Rat,ds=[e9 q]/\K (.bl (decide (q.den=1))) st
def l9:List Str:=["one"]
def As:DS:=(bI (aw iK (aw aS (ae 0) (dC (.int 1))) (dC (.int 1))))
theorem zl:∀ds st K,mn ds st K->ds.length=1/\As {nx:=fun _ st'=>K .aE st',rt:=K} (aT l9 ds) st:=by
 rintro ds st K ⟨q,rfl,k⟩;refine⟨rfl,ay rfl rfl (eq2 (fun h=>?_) fun h=>?_)⟩
 . rw[decide_eq_true (by omega)]at k;exact k
 . rw[decide_eq_false (by omega)]at k;exact k
def jJ:b_:=fun ds st K=>∃(A:List (List Int)) (r:List Int) (N w:Nat) (ps:List Rat),ds=[di A,bh r,.tup (ps.map e9)]/\zV A N w r/\ps.length=w/\Mx.Pb ps 10000000/\(∀n,n<N->Mx.Wh (Mx.dq ps w (Mx.g A n)))/\(¬Mx.Wh (Mx.dq ps w fun c=>r.getD c 0))/\K (.bl true) st
def jS:List Str:=["rows","row","parts"]
def xC:DS:=(aL (eA (yA (wY (cm (aB oa (af (ae 2) (af (bZ eP (af (ae 1) ao)) ao))))) (cm (aB mn (af (aB iQ (af (ae 2) (af (ae 1) ao))) ao)))) (bI (dC (.bl false))) dQ)
 (bI (bZ q_ (af (eK (fz (ae 0)) [none,some 2] (cq 0) cN (aB mn (af (aB iQ (af (ae 1) (af (ae 0) ao))) ao))) ao))))
theorem wo:∀ds st K,jJ ds st K->ds.length=3/\xC {nx:=fun _ st'=>K .aE st',rt:=K} (aT jS ds) st:=by
 rintro ds st K ⟨A,r,N,w,ps,rfl,⟨hA,n1,n8,w8,bA,lr,br⟩,lp,hP,hw,hn,k⟩;refine⟨rfl,?_⟩;have lA:=hA.len;refine dA rfl ⟨ps,w,by rw[List.length_map,lr],lp,by omega,?_⟩;have pl8:ps.length*(64+1)<=8*65:=Nat.mul_le_mul (by omega) (by decide);refine⟨_,_,_,ps,r,_,64,rfl,rfl,tR.of,rfl,hP,br,by omega,?_⟩;rw[EF lp lr];refine⟨_,rfl,?_⟩;rw[decide_eq_false fun z=>hn (Mx.Wh.den.mpr z)];refine iE ⟨cY (by rw[List.length_map];omega),?_⟩;refine comp_map (g:=fun _=> .bl true) trivial _ (fun d hd K' q=>?_) ?_
 . obtain⟨s,hs,rfl⟩:=List.mem_map.mp hd;obtain⟨i,hi,rfl⟩:=List.mem_iff_getElem.mp hs;have ls:=hA.fO _ hs;refine⟨_,rfl,_,_,_,ps,A[i],_,64,rfl,rfl,tR.of,rfl,hP,fun x hx=>Nat.le_trans (bA _ hs x hx) (by decide),by omega,?_⟩;rw[EF lp ls];refine⟨_,rfl,?_⟩
   have e:(fun c=>(A[i]).getD c 0)=Mx.g A i:=by
    funext c;unfold Mx.g;rw[Mx.a7 hi]
   rw[e,decide_eq_true (Mx.Wh.den.mp (hw i (by omega)))];exact q
 refine tT (rW (A.map bh)) ?_;rw[A9];exact k
def j7:b_:=fun ds st K=>∃(A:List (List Int)) (r:List Int) (N w:Nat) (ps:List Rat),ds=[di A,bh r,.tup [.str "none",.tup (ps.map e9)]]/\zV A N w r/\ps.length=w/\Mx.Pb ps 10000000/\(∀n,n<N->Mx.Wh (Mx.dq ps w (Mx.g A n)))/\(¬Mx.Wh (Mx.dq ps w fun c=>r.getD c 0))/\K (.bl true) st
def iH:List Str:=["rows","row","told"]
def vb:DS:=(aL (eA (wY (cm (aB eV (af (ae 2) (af (dC (.int 2)) ao))))) (bI (dC (.bl false))) dQ)
 (aL (eA (cm (aw iK (aw aS (ae 2) (dC (.int 0))) (dC (.str "told")))) ql dQ)
 (bI (jV (aw iK (aw aS (ae 2) (dC (.int 0))) (dC (.str "none"))) (aB jJ (af (ae 0) (af (ae 1) (af (aw aS (ae 2) (dC (.int 1))) ao))))))))
theorem uh:∀ds st K,j7 ds st K->ds.length=3/\vb {nx:=fun _ st'=>K .aE st',rt:=K} (aT iH ds) st:=by
 rintro ds st K ⟨A,r,N,w,ps,rfl,P,lp,hP,hw,hn,k⟩;refine⟨rfl,?_⟩;refine⟨_,2,rfl,⟨_,rfl⟩,?_⟩;refine ay rfl rfl (pe rfl rfl ?_);refine ay rfl rfl (pe rfl rfl ?_);exact ay rfl rfl ⟨A,r,N,w,ps,rfl,P,lp,hP,hw,hn,k⟩
def kH:b_:=fun ds st K=>∃(U:List (List Int)) (N m e1:Nat) (f:Bool),ds=[di U,.int m]/\Mx.cy N N U/\m<=N/\N<=8/\Mx.fM (U.drop m) (N-m) 0 (2^e1)/\(∀t,t<=N-m->Mx.Ez (N-m) e1 t<=50000000/\Mx.Vz (N-m) e1 t<=60000000)/\st[0]?=some (fk f)/\∀st' F m',Bk st st'->m'<=N-m->Wg F m' N (Mx.Uz (N-m) e1 m')->(∀k,k<m'->Mx.jZ (U.drop m) (N-m) N (Mx.g F k))->K (di F) st'
def iw:List Str:=["turn","many"]
def vw:DS:=(bI (Fs (cm (aw qi (ae 1) (bZ eP (af (ae 0) ao)))) (aw aS (aB jB (af (nt (ae 0) (pU (ae 1)) kL) ao)) (dC (.int 0))) (kb ao)))
theorem Ef{xs:List D}{j:Nat}:L3.cutD xs (some (j:Int)) none=xs.drop j:=by
 unfold L3.cutD;rw[HT.zA,HT.yo];by_cases h:j<=xs.length
 . rw[Nat.min_eq_left h,List.take_of_length_le (by rw[List.length_drop];omega)]
 . rw[Nat.min_eq_right (by omega),List.drop_of_length_le (Nat.le_refl _),List.drop_of_length_le (by omega)];simp
theorem uC:∀ds st K,kH ds st K->ds.length=2/\vw {nx:=fun _ st'=>K .aE st',rt:=K} (aT iw ds) st:=by
 rintro ds st K ⟨U,N,m,e1,f,rfl,iU,hm,n8,lo,sz,t0,k⟩;refine⟨rfl,?_⟩;refine dA rfl ?_;rw[List.length_map,iU.len];refine FR (fun h=>fe ?_) fun h=>?_
 . refine qk ?_;rw[Ef,<-List.map_drop];have iT:Mx.cy (N-m) N (U.drop m):=⟨by rw[List.length_drop,iU.len],fun r hr=>iU.fO r (List.mem_of_mem_drop hr)⟩
   refine⟨_,N-m,N,e1,U.drop m,f,rfl,f7,iT,by omega,by omega,by omega,lo,sz,t0,fun st1 top c ld hC H B=>ay rfl rfl ?_⟩;obtain⟨ld2,S2⟩:=hC.NC iT lo (by omega) (Nat.le_refl _);have le:=H.le;have lA:=H.tn.isA.len
   have s:Mx.eO (c.A.take top) top N ld:=⟨fun i hi=>by
    obtain⟨h1,h2,h3⟩:=H.lead i hi;exact⟨h1,by rw[fW hi];exact h2,fun c hc=>by rw[fW hi];exact h3 c hc⟩,H.mono⟩
   exact k st1 _ top B le ⟨⟨by rw[List.length_take];omega,fun r hr=>H.tn.isA.fO r (List.mem_of_mem_take hr)⟩,s.MC,by omega,n8,fun k q hk _=>by rw[fW hk];exact(S2.hi k q hk).1⟩ fun k hk=>(H.in k hk).eq fun q _=>fW hk
 . exact⟨Nat.zero_le _,k st [] 0 ⟨Nat.le_refl _,fun _ _ _=>rfl,f,t0⟩ (Nat.zero_le _) ⟨⟨rfl,fun r hr=>by cases hr⟩,⟨fun i h=>absurd h (Nat.not_lt_zero _),fun i j _ h=>absurd h (Nat.not_lt_zero _)⟩,Nat.zero_le _,n8,fun k c h=>absurd h (Nat.not_lt_zero _)⟩ fun k h=>absurd h (Nat.not_lt_zero _)⟩
structure N6(A:List (List Int))(N w:Nat)(r:List Int):Prop where
 p:zV A N w r
 w1:1<=w
 zt:∀r∈A,∀x∈r,x.natAbs<=2^14
structure FP(A:List (List Int))(N w:Nat)(r:List Int)(top:Nat)(c:Mx.B3)(W:List Int)(F:List (List Int))(m e f:Nat):Prop where
 cols:Mx.jG A N w top c
 none:ie (Mx.cw (c.A.take top) r top)=none
 eW:W=Mx.cM (Mx.gW (c.A.take top) r top) (c.U.take top) (List.replicate N 0)
 wg:Wg F m N f
 lW:W.length=N
 bW:∀n,n<N->(W.getD n 0).natAbs<=2^e
 sz:e+m*(f+1)+f<=130000000
 Mw:∀k,k<m->∀q,q<w->(Mx.S N fun n=>Mx.g F k n*Mx.g A n q)=0
 sum:∀q,q<w->(Mx.S N fun n=>W.getD n 0*Mx.g A n q)=r.getD q 0
def NW(A:List (List Int))(N w:Nat)(r:List Int)(y:D):Prop:=
 (∃top c W F m e f,FP A N w r top c W F m e f/\y= .tup [.str "told",bh (Mx.cw F W m),di F,di c.U,di (Mx.iX c.C N)])\/
 (∃ps:List Rat,y= .tup [.str "none",.tup (ps.map e9)]/\ps.length=w/\Mx.Pb ps 10000000/\(∀n,n<N->Mx.Wh (Mx.dq ps w (Mx.g A n)))/\¬Mx.Wh (Mx.dq ps w fun c=>r.getD c 0))
def qc:b_:=fun ds st K=>∃(dr:D) (A:List (List Int)) (r:List Int) (N w:Nat) (f:Bool),ds=[di (Mx.iX A w),dr]/\items? st dr=some (aJ r)/\N6 A N w r/\st[0]?=some (fk f)/\∀st' y,Bk st st'->NW A N w r y->K y st'
def nu:List Str:=["rows","due","wide","told","form","turn","fallen","steps","answer"]
def BM:DS:=(aL (bf 2 (bZ eP (af (aw aS (ae 0) (dC (.int 0))) ao)))
 (aL (bf 3 (aB jB (af (aB ft (af (ae 0) (af (ae 2) ao))) ao)))
 (aL (bf 4 (aw aS (ae 3) (dC (.int 0))))
 (aL (bf 5 (aw aS (ae 3) (dC (.int 1))))
 (aL (bf 6 (aB lb (af (ae 4) (af (ae 1) ao))))
 (aL (eA (cm (aw rR (aB gf (af (aw aS (ae 6) (dC (.int 1))) ao)) (dC .aE))) (bI (kb (af (dC (.str "none")) (af (aB g0 (af (ae 4) (af (aw aS (ae 6) (dC (.int 1))) ao))) ao)))) dQ)
 (aL (bf 7 (aB kH (af (ae 5) (af (bZ eP (af (ae 4) ao)) ao))))
 (aL (bf 8 (aB rq (af (ae 7) (af (aB i9 (af (aw aS (ae 6) (dC (.int 0))) (af (nt (ae 5) kL (pU (bZ eP (af (ae 4) ao)))) (af (ae 2) ao)))) ao))))
 (bI (kb (af (dC (.str "told")) (af (ae 8) (af (ae 7) (af (ae 5) (af (aw aS (ae 3) (dC (.int 2))) ao)))))))))))))))
theorem zz{A:List (List Int)}{N w:Nat}(hA:Mx.cy N w A):Mx.iX (Mx.iX A w) N=A:=
 (Mx.qE (Mx.qE hA)).ext hA fun i j hi hj=>by rw[Mx.Dq (Mx.qE hA) hj hi,Mx.Dq hA hi hj]
theorem Dw{X:List (List Int)}{m i q:Nat}:Mx.g (X.drop m) i q=Mx.g X (m+i) q:=by
 have e:(X.drop m).getD i []=X.getD (m+i) []:=by rw[List.getD_eq_getElem?_getD,List.getElem?_drop,List.getD_eq_getElem?_getD]
 unfold Mx.g;rw[e]
theorem Jt{A:List (List Int)}{N w top e u:Nat}{c:Mx.B3}{ld:Nat->Nat}(H:Mx.g6 A N w c top w ld e u){v:Nat->Int}(h:Mx.jZ (c.U.drop top) (N-top) N v){q:Nat}(hq:q<w):(Mx.S N fun n=>v n*Mx.g A n q)=0:=by
 obtain⟨z,hz⟩:=h
 have e1:(Mx.S N fun n=>v n*Mx.g A n q)=Mx.S N fun n=>Mx.S (N-top) fun i=>z i*(Mx.g c.U (top+i) n*Mx.g A n q):=Mx.aH fun n hn=>by
  rw[hz n hn,<-Mx.uN];exact Mx.aH fun i _=>by rw[Dw,Int.mul_assoc]
 rw[e1,Mx.qU];refine Mx.lO fun i hi=>?_;have hi2:top+i<N:=by omega
 rw[Mx.eN,<-H.tn.ua (top+i) q hi2 hq,H.zs (top+i) q (by omega) hi2 hq,Int.mul_zero]
theorem Ah:∀ds st K,qc ds st K->ds.length=2/\BM {nx:=fun _ st'=>K .aE st',rt:=K} (aT nu ds) st:=by
 rintro ds st K ⟨dr,A,r,N,w,f,rfl,hr,⟨⟨hA,n1,n8,w8,bA,lr,br⟩,w1,zt⟩,h0,k⟩;refine⟨rfl,?_⟩;have iT:=Mx.qE hA;have lT:=iT.len;refine ay rfl (show dP ((Mx.iX A w).map bh) 0=some (bh ((Mx.iX A w).getD 0 []))from rG (k:=0) (by omega)) (dA rfl ?_);rw[List.length_map,iT.row (i:=0) w1];refine⟨_,Mx.iX A w,N,rfl,f7,iT.fO,by omega,by omega,?_⟩;rw[zz hA]
 have lo14:Mx.fM A N 0 (2^14):=fun i c _ hi=>by
  have lA:=hA.len;unfold Mx.g;by_cases hc:c<(A.getD i []).length
  . exact zt _ (by rw[Mx.a7 (by omega)];exact List.getElem_mem _) _ (getD_mem hc)
  . rw[Mx.j8 (by omega)];exact Nat.zero_le _
 refine⟨_,N,w,14,A,f,rfl,f7,hA,n1,n8,by omega,lo14,fun t ht=>Mx.Jf N (by omega) t (by omega),h0,fun st1 top c ld hC H B=>?_⟩;have hW:=Co H hA n8 w8 bA;have lF:=hW.is.len;have hgF:∀i q,i<top->Mx.g (c.A.take top) i q=Mx.g c.A i q:=fun i q hi=>fW hi;have t8:=hW.m8;have le:=H.le;generalize hF:c.A.take top=F at hW lF hgF;have br':∀c,c<w->(r.getD c 0).natAbs<=2^64:=fun c hc=>br _ (getD_mem (by omega));refine ay rfl rfl (ay rfl rfl ?_);refine⟨dr,F,r,top,w,64,887,rfl,hW,lg h0 B.fr hr,lr,br',by omega,fun st2 X=>?_⟩;have B2:=B.ext X;have lR:=Mx.ko hW.is lr (Nat.le_refl top);have fal:=Mx.vg hW.is lr hW.st (Nat.le_refl top);have sm:=Mx.rP hW.is lr (Nat.le_refl top);have ab:=Mx.mK hW.is lr hW.st hW.sm br' (Nat.le_refl top);refine ay rfl rfl ⟨_,Mx.cw F r top,rfl,rfl,?_⟩;cases el:ie (Mx.cw F r top)with
 |some l=>
  have eD:fv (Mx.cw F r top)= .int (l:Int):=by unfold fv;rw[el]
  rw[eD];obtain⟨hl,hne,hz⟩:=nZ el;rw[lR]at hl;refine ux rfl (fe (ay rfl rfl ⟨F,Mx.cw F r top,top,w,64+top*(887+1),l,rfl,hW,lR,el,ab,by omega,fun st3 b X3 hb hP=>⟨Nat.le_of_ble_eq_true rfl,?_⟩⟩));have P:=Mx.lZ.all b hW.st hl (Nat.le_refl top);have wF:∀i,i<top->Mx.Wh (Mx.dq (Mx.g5 F top w l (Mx.fC w l b) top) w (Mx.g F i)):=fun i hi=>P.whole hW.st hl hb hne hi;refine k st3 _ (B2.ext X3) (.inr ⟨_,rfl,P.len,hP,fun n hn=>?_,fun z=>?_⟩)
  . have e1:Mx.dq (Mx.g5 F top w l (Mx.fC w l b) top) w (Mx.g A n)=Mx.dq (Mx.g5 F top w l (Mx.fC w l b) top) w fun q=>Mx.S top fun k=>Mx.g c.C k n*Mx.g F k q:=Mx.mY fun q hq=>by
     rw[H.back hn hq];exact Mx.aH fun k hk=>by rw[hgF k q hk]
    rw[e1,Mx.qR];exact Mx.tK fun i hi=>(wF i hi).mul _
  . have e1:Mx.dq (Mx.g5 F top w l (Mx.fC w l b) top) w (fun q=>r.getD q 0)=Mx.dq (Mx.g5 F top w l (Mx.fC w l b) top) w (fun q=>(Mx.cw F r top).getD q 0)+Mx.dq (Mx.g5 F top w l (Mx.fC w l b) top) w (fun q=>Mx.S top fun j=>Mx.lY F (Mx.cw F r j) j*Mx.g F j q):=by
     rw[<-Mx.C9];exact Mx.mY fun q _=>sm q
    have w2:Mx.Wh (Mx.dq (Mx.g5 F top w l (Mx.fC w l b) top) w (fun q=>Mx.S top fun j=>Mx.lY F (Mx.cw F r j) j*Mx.g F j q)):=by
     rw[Mx.qR];exact Mx.tK fun i hi=>(wF i hi).mul _
    refine P.not hW.st hl hb hne hz (fun i hi=>fal.red i hi) ?_;have:=z.add w2.neg;rw[e1]at this;have e2:∀a b:Rat,a+b+ -b=a:=by grind
    rwa [e2]at this
 |none=>
  have eD:fv (Mx.cw F r top)= .aE:=by unfold fv;rw[el]
  rw[eD];refine ux rfl ?_;obtain⟨f2,t2⟩:=B2.tb;have lU:=H.tn.du.len;refine dA rfl ?_;rw[List.length_map,lF];refine⟨c.U,N,top,Mx.Ez N 14 top,f2,rfl,H.tn.du,le,n8,fun i q _ hi=>by rw[Dw];exact H.lo.2.1 (top+i) q (by omega) (by omega),fun t ht=>(Mx.FH N (by omega) top (by omega) t (by omega)).1,t2,fun st3 G m B3 hm hG hLat=>?_⟩;have B3':Bk st st3:=⟨Nat.le_trans B2.le B3.le,fun m hm h0=>(B3.fr m (Nat.lt_of_lt_of_le hm B2.le) h0).trans (B2.fr m hm h0),B3.tb⟩
  refine ay rfl rfl (dA rfl (qk ?_));rw[List.length_map,lF,uL,<-List.map_take];have lw:(Mx.gW F r top).length=top:=by unfold Mx.gW;simp
  have wat:∀j,j<top->(Mx.gW F r top).getD j 0=Mx.lY F (Mx.cw F r j) j:=fun j hj=>by
   unfold Mx.gW;rw[Mx.a7 (by simpa using hj),List.getElem_map,List.getElem_range]
  have sz:=(Mx.Jf N (by omega) top (by omega)).2
  have bw:∀j,j<top->((Mx.gW F r top).getD j 0).natAbs<=2^(64+j*(887+1)):=fun j hj=>by
   rw[wat j hj];obtain⟨l1,l2,_⟩:=hW.lead hj;exact Nat.le_trans (Mx.jb _ l2) (Mx.mK hW.is lr hW.st hW.sm br' (Nat.le_of_lt hj) _ l1)
  have bu:∀i p,i<top->(Mx.g (c.U.take top) i p).natAbs<=2^Mx.Vz N 14 top:=fun i p hi=>by
   rw[fW hi];exact(H.hi i p hi).2.1
  have wU:∀q∈c.U.take top,q.length=N:=fun q hq=>H.tn.du.fO q (List.mem_of_mem_take hq);have lUt:(c.U.take top).length=top:=by rw[List.length_take];omega
  refine⟨_,_,N,Mx.gW F r top,c.U.take top,rfl,rfl,f7,wU,by omega,fun x hx q hq y hy=>?_,?_⟩
  . obtain⟨j,hj,rfl⟩:=List.mem_iff_getElem.mp hx;have bj:=bw j (by omega);rw[Mx.a7 hj]at bj;obtain⟨i,hi,rfl⟩:=List.mem_iff_getElem.mp hq;obtain⟨p,hp,rfl⟩:=List.mem_iff_getElem.mp hy;have hU:=bu i p (by omega);unfold Mx.g at hU;rw[Mx.a7 hi,Mx.a7 hp]at hU;exact dc bj hU (by omega)
  have lW:(Mx.cM (Mx.gW F r top) (c.U.take top) (List.replicate N 0)).length=N:=Mx.jt (by simp) wU
  have bW:∀n,n<N->((Mx.cM (Mx.gW F r top) (c.U.take top) (List.replicate N 0)).getD n 0).natAbs<=2^(Mx.Vz N 14 top+8000):=fun n hn=>by
   rw[Mx.ki (n:=N) n (by simp) wU (by omega),Mx.dD,Int.zero_add,lUt]
   have e3:top*2^(7168+Mx.Vz N 14 top)<=2^(Mx.Vz N 14 top+8000):=by
    refine Nat.le_trans (Nat.mul_le_mul_right _ (show top<=2^3 by omega)) ?_;rw[<-Nat.pow_add];exact Nat.pow_le_pow_right (by decide) (by omega)
   refine Nat.le_trans (Mx.wz fun j hj=>?_) e3;rw[Int.natAbs_mul,Nat.pow_add];exact Nat.mul_le_mul (Nat.le_trans (bw j hj) (Nat.pow_le_pow_right (by decide) (by omega))) (bu j n hj)
  have sz2:=(Mx.FH N (by omega) top (by omega) m (by omega)).2
  have sum:∀q,q<w->(Mx.S N fun n=>(Mx.cM (Mx.gW F r top) (c.U.take top) (List.replicate N 0)).getD n 0*Mx.g A n q)=r.getD q 0:=fun q hq=>by
   refine Mx.xV H lw (fun q hq=>?_) hq;rw[sm q,pN _ 0 el q,Int.zero_add];exact Mx.aH fun j hj=>by rw[wat j hj,hgF j q hj]
  have T:FP A N w r top c (Mx.cM (Mx.gW F r top) (c.U.take top) (List.replicate N 0)) G m (Mx.Vz N 14 top+8000) (Mx.Uz (N-top) (Mx.Ez N 14 top) m):=
   ⟨hC,by rw[hF];exact el,by rw[hF],hG,lW,bW,sz2,fun k hk q hq=>Jt H (hLat k hk) hq,sum⟩
  generalize Mx.cM (Mx.gW F r top) (c.U.take top) (List.replicate N 0)=W at T;refine⟨_,G,W,m,N,_,_,rfl,hG,rfl,T.lW,T.bW,sz2,fun st4 X4=>ay rfl rfl ⟨Nat.le_of_ble_eq_true rfl,?_⟩⟩;exact k st4 _ (B3'.ext X4) (.inl ⟨top,c,W,G,m,_,_,T,rfl⟩)
def jP:b_:=fun ds st K=>∃(A:List (List Int)) (r:List Int) (N w:Nat) (ps:List Rat),ds=[di (Mx.iX A w),bh r,.tup [.str "none",.tup (ps.map e9)]]/\zV A N w r/\1<=w/\ps.length=w/\Mx.Pb ps 10000000/\(∀n,n<N->Mx.Wh (Mx.dq ps w (Mx.g A n)))/\(¬Mx.Wh (Mx.dq ps w fun c=>r.getD c 0))/\K (.bl true) st
def gZ:List Str:=["rows","due","told"]
def ud:DS:=(aL (eA (cm (aB eV (af (ae 2) (af (dC (.int 2)) ao)))) (bI (jV (aw iK (aw aS (ae 2) (dC (.int 0))) (dC (.str "none"))) (aB jJ (af (aB ft (af (ae 0) (af (bZ eP (af (aw aS (ae 0) (dC (.int 0))) ao)) ao))) (af (ae 1) (af (aw aS (ae 2) (dC (.int 1))) ao)))))) dQ)
 (aL ql
 (aL ql
 ql)))
theorem tf:∀ds st K,jP ds st K->ds.length=3/\ud {nx:=fun _ st'=>K .aE st',rt:=K} (aT gZ ds) st:=by
 rintro ds st K ⟨A,r,N,w,ps,rfl,P,w1,lp,hP,hw,hn,k⟩;refine⟨rfl,?_⟩;have iT:=Mx.qE P.is;have lT:=iT.len;have n8:=P.n8;have w8:=P.w8;refine⟨_,2,rfl,⟨_,rfl⟩,?_⟩;refine ay rfl rfl (pe rfl rfl ?_);refine ay rfl (show dP ((Mx.iX A w).map bh) 0=some (bh ((Mx.iX A w).getD 0 []))from rG (k:=0) (by omega)) (dA rfl ?_);rw[List.length_map,iT.row (i:=0) w1];refine⟨_,Mx.iX A w,N,rfl,f7,iT.fO,by omega,by omega,?_⟩;rw[zz P.is];exact ay rfl rfl ⟨A,r,N,w,ps,rfl,P,lp,hP,hw,hn,k⟩
structure Hk(st:ag)(n:Nat)(b:Int):Prop where
 ex:∃(cs:List Int) (p q:Int),st[n]?=some (.lst [.lst (aJ cs),.int p,.int q])/\1<=cs.length/\0<=p/\p<=b/\0<=q
structure Upd(st:ag)(n:Nat)(st':ag):Prop where
 len:st'.length=st.length
 same:∀m,m≠n->st'[m]?=st[m]?
theorem Upd.refl{st:ag}{n:Nat}:Upd st n st:=⟨rfl,fun _ _=>rfl⟩
theorem Upd.trans{st st1 st2:ag}{n:Nat}(a:Upd st n st1)(b:Upd st1 n st2):Upd st n st2:=⟨b.len.trans a.len,fun m h=>(b.same m h).trans (a.same m h)⟩
theorem Upd.set{st:ag}{n:Nat}{c:Cell}:Upd st n (st.set n c):=⟨List.length_set,fun m h=>List.getElem?_set_ne (Ne.symm h)⟩
theorem Hk.mono{st:ag}{n:Nat}{b b':Int}(h:Hk st n b)(l:b<=b'):Hk st n b':=let⟨cs,p,q,e,h1,h2,h3,h4⟩:=h.ex;⟨cs,p,q,e,h1,h2,by omega,h4⟩
theorem Hk.lt{st:ag}{n:Nat}{b:Int}(B:Hk st n b):n<st.length:=by
 obtain⟨_,_,_,e,_⟩:=B.ex;exact(List.getElem?_eq_some_iff.mp e).1
theorem Hk.cell{st st':ag}{n:Nat}{b:Int}(B:Hk st n b)(e:st'[n]?=st[n]?):Hk st' n b:=by
 obtain⟨cs,p,q,e1,r⟩:=B.ex;exact⟨cs,p,q,e.trans e1,r⟩
theorem Aa{st:ag}{n:Nat}{xs ys:List D}{i:Int}{j:Nat}{d:D}{K:ag->Prop}(h:st[n]?=some (.lst xs))(e:iL xs.length i=some j)(ey:xs.set j d=ys)(k:∀st',st'[n]?=some (.lst ys)->Upd st n st'->K st'):xG (.ref n) (.int i) d st K:=gD h e (by
 rw[ey];exact k _ (List.getElem?_set_self (List.getElem?_eq_some_iff.mp h).1) Upd.set)
def oZ:b_:=fun ds st K=>∃ns:List Int,ds=[.lst (ns.map .int)]/\ns.length<=63/\∀st',Hk st' st.length 0->Ext st st'->K (.ref st.length) st'
def md:List Str:=["_law_script","_law_cells","_law_rest"]
def AW:DS:=(aL (bf 1 (aw fL (nt (ae 0) kL (pU (dC (.int 63)))) (uR (af (dC (.int 7)) ao))))
 (aL (bf 2 (bZ pw (af (aw aS (ae 1) (dC (.int 0))) ao)))
 (bI (yd (af (ae 1) (af (dC (.int 0)) (af (aw dg (ae 2) (bZ w9 (af (aw yb (ae 2) (aw x8 (dC (.int 10)) (dC (.int 18)))) ao))) ao)))))))
theorem y_:∀ds st K,oZ ds st K->ds.length=1/\AW {nx:=fun _ st'=>K .aE st',rt:=K} (aT md ds) st:=by
 rintro ds st K ⟨ns,rfl,hl,k⟩;refine⟨rfl,?_⟩;refine C8 ⟨Nat.le_of_ble_eq_true rfl,?_⟩;rw[show(63:Int)=((63:Nat):Int)from rfl,uL,<-List.map_take];refine GF (cY (by rw[List.length_map,List.length_take];simp;omega)) ?_;rw[ints_app];have l1:1<=(ns.take 63++[7]).length:=by simp
 generalize ns.take 63++[7]=cs at l1;refine ay rfl (iq (k:=0) (by omega)) (qJ ?_);generalize hx:(((cs.getD 0 0).natAbs:Nat):Int)=x;have x0:0<=x:=by omega
 refine Im ⟨by decide,by decide,by decide⟩ ?_;have fin:∀q:Int,0<=q->(K (.ref st.length) (st++[.lst [.lst (aJ cs),.int 0,.int q]])):=fun q hq=>k _ ⟨cs,0,q,by simp,l1,Int.le_refl _,Int.le_refl _,hq⟩ Ext.push;by_cases h:(10:Int)^(18:Int).toNat<=x
 . refine NO h (zp (dB (rh (by decide) (by decide)) ⟨Nat.le_of_ble_eq_true rfl,?_⟩));exact fin (x*1) (by omega)
 . refine NM (by omega) (zp (dB (rh (by decide) (by decide)) ⟨Nat.le_of_ble_eq_true rfl,?_⟩));exact fin (x*0) (by omega)
def cO:b_:=fun ds st K=>∃(n:Nat) (m b:Int),ds=[.ref n,.int m]/\Hk st n b/\b<=1000000000/\0<m/\m<2^62/\∀r st',0<=r->r<m->Hk st' n (b+1)->Upd st n st'->K (.int r) st'
def mq:List Str:=["_law_hand_here","_law_many","_law_digit","_law_cell","_law_once"]
def AI:DS:=(aL (eA (cm (aw qH (aw aS (ae 0) (dC (.int 2))) (dC (.int 0)))) (aL (bf 2 (aw jh (aw aS (ae 0) (dC (.int 2))) (ae 1)))
 (aL (eG (ae 0) (dC (.int 2)) (aw rL (aw aS (ae 0) (dC (.int 2))) (ae 1)))
 (bI (ae 2)))) dQ)
 (aL (eG (ae 0) (dC (.int 1)) (aw fL (aw aS (ae 0) (dC (.int 1))) (dC (.int 1))))
 (aL (bf 3 (aw aS (aw aS (ae 0) (dC (.int 0))) (aw jh (aw aS (ae 0) (dC (.int 1))) (bZ eP (af (aw aS (ae 0) (dC (.int 0))) ao)))))
 (aL (bf 4 (aw jh (aw dg (aw fL (aw fL (aw jh (ae 3) (dC (.int 2147483647))) (aw dg (dC (.int 7919)) (aw aS (ae 0) (dC (.int 1))))) (dC (.int 1))) (dC (.int 48271))) (dC (.int 2147483647))))
 (bI (aw jh (aw rL (aw jh (aw dg (ae 4) (aw fL (aw jh (ae 4) (dC (.int 1009))) (dC (.int 1)))) (dC (.int 2147483629))) (dC (.int 3))) (ae 1)))))))
theorem BP{m:Int}(h0:0<m)(h:m<2^62):m.natAbs.log2<9000:=by
 have:m.natAbs.log2<62:=(Nat.log2_lt (by omega)).mpr (by omega);omega
def Ev(A:DE)(σ:bG)(st:ag)(d:D):Prop:=∀K:DK,K d st->A σ st K
theorem pH{x:D->D->ag->DK->Prop}{A B:DE}{σ:bG}{st:ag}{a b d:D}(hA:Ev A σ st a)(hB:Ev B σ st b)(hx:∀K:DK,K d st->x a b st K):Ev (aw x A B) σ st d:=fun K k=>hA _ (hB _ (hx K k))
theorem u5{σ:bG}{st:ag}{d:D}:Ev (dC d) σ st d:=fun K k=>k
theorem Dk{i:Nat}{σ:bG}{st:ag}{d:D}(h:σ[i]?=some (some d)):Ev (ae i) σ st d:=fun K k=>xy h k
theorem Ko{i:Nat}{A:DE}{B:DS}{E:mx}{σ:bG}{st:ag}{d:D}(h:Ev A σ st d)(k:B E (σ.set i (some d)) st):aL (bf i A) B E σ st:=h _ k
theorem CN{σ:bG}{st:ag}{n:Nat}{cs:List Int}{x p q:Int}(h3:σ[3]?=some (some (.int x)))(h0:σ[0]?=some (some (.ref n)))(e:st[n]?=some (.lst [.lst (aJ cs),.int p,.int q])):Ev (aw jh (aw dg (aw fL (aw fL (aw jh (ae 3) (dC (.int 2147483647))) (aw dg (dC (.int 7919)) (aw aS (ae 0) (dC (.int 1))))) (dC (.int 1))) (dC (.int 48271))) (dC (.int 2147483647))) σ st (.int (((x.fmod 2147483647+7919*p+1)*48271).fmod 2147483647)):=by
 have a1:Ev (aw jh (ae 3) (dC (.int 2147483647))) σ st (.int (x.fmod 2147483647)):=pH (Dk h3) u5 fun K k=>lE (by decide) k;have a0:Ev (aw aS (ae 0) (dC (.int 1))) σ st (.int p):=pH (Dk h0) u5 fun K k=>ay (aM e) (by rfl) k;have a2:Ev (aw dg (dC (.int 7919)) (aw aS (ae 0) (dC (.int 1)))) σ st (.int (7919*p)):=pH u5 a0 fun K k=>dB (ka (by decide) (by decide)) k;have a3:=pH (d:= .int (x.fmod 2147483647+7919*p)) a1 a2 fun K k=>gE k;have a4:=pH (d:= .int (x.fmod 2147483647+7919*p+1)) a3 (u5 (d:= .int 1)) fun K k=>gE k;have a5:=pH (d:= .int ((x.fmod 2147483647+7919*p+1)*48271)) a4 (u5 (d:= .int 48271)) fun K k=>dB (rh (by decide) (by decide)) k;exact pH a5 (u5 (d:= .int 2147483647)) fun K k=>lE (by decide) k
theorem zi:∀ds st K,cO ds st K->ds.length=2/\AI {nx:=fun _ st'=>K .aE st',rt:=K} (aT mq ds) st:=by
 rintro ds st K ⟨n,m,b,rfl,⟨cs,p,q,e,hl,hp,hb,hq⟩,hb2,hm0,hm1,k⟩;refine⟨rfl,?_⟩;refine ay (aM e) (by rfl) (JP (fun h=>fe ?_) fun h=>?_)
 . refine ay (aM e) (by rfl) (lE (by omega) (ay (aM e) (by rfl) (zF (by omega) (BP hm0 hm1) ?_)));refine Aa (ys:=[.lst (aJ cs),.int p,.int (q.fdiv m)]) e (by rfl) (by rfl) fun st1 e1 U1=>?_;exact k _ _ (Int.fmod_nonneg_of_pos _ hm0) (Int.fmod_lt_of_pos _ hm0) ⟨cs,p,_,e1,hl,hp,by omega,by rw[Int.fdiv_eq_ediv_of_nonneg _ (by omega)];exact Int.ediv_nonneg hq (by omega)⟩ U1
 . refine ay (aM e) (by rfl) (gE (Aa (ys:=[.lst (aJ cs),.int (p+1),.int q]) e (by rfl) (by rfl) fun st1 e1 U1=>?_));have hcl:(0:Int)<((cs.length:Nat):Int):=by omega
   refine ay (aM e1) (by rfl) (ay (aM e1) (by rfl) (ay (aM e1) (by rfl) (dA rfl ?_)));rw[List.length_map];refine lE (by omega) ?_;obtain⟨j,hj⟩:=Int.eq_ofNat_of_zero_le (Int.fmod_nonneg_of_pos (p+1) hcl);have hj2:=Int.fmod_lt_of_pos (p+1) hcl;rw[hj]at hj2⊢;refine ay rfl (iq (by omega)) ?_;generalize cs.getD j 0=x;refine Ko (σ:=[some (.ref n),some (.int m),none,some (.int x),none]) (CN (x:=x) (p:=p+1) rfl rfl e1) ?_;have y0:=Int.fmod_nonneg_of_pos ((x.fmod 2147483647+7919*(p+1)+1)*48271) (show(0:Int)<2147483647 by decide);have y1:=Int.fmod_lt_of_pos ((x.fmod 2147483647+7919*(p+1)+1)*48271) (show(0:Int)<2147483647 by decide);generalize((x.fmod 2147483647+7919*(p+1)+1)*48271).fmod 2147483647=u at y0 y1⊢;refine lE (by decide) (gE (dB (ka (by omega) (by omega)) (lE (by decide) (zF (by decide) (by decide+kernel) (lE (by omega) ?_)))));exact k _ _ (Int.fmod_nonneg_of_pos _ hm0) (Int.fmod_lt_of_pos _ hm0) ⟨cs,p+1,q,e1,hl,by omega,by omega,hq⟩ U1
structure XU(st:ag)(n:Nat)(st':ag):Prop where
 len:st.length<=st'.length
 same:∀m,m<st.length->m≠n->st'[m]?=st[m]?
theorem XU.trans{st st1 st2:ag}{n:Nat}(a:XU st n st1)(b:XU st1 n st2):XU st n st2:=⟨Nat.le_trans a.len b.len,fun m h g=>(b.same m (Nat.lt_of_lt_of_le h a.len) g).trans (a.same m h g)⟩
theorem XU.upd{st st1:ag}{n:Nat}(a:Upd st n st1):XU st n st1:=⟨by rw[a.len];exact Nat.le_refl _,fun m _ g=>a.same m g⟩
theorem XU.ext{st st1:ag}{n:Nat}(a:Ext st st1):XU st n st1:=⟨a.len,fun m h _=>a.same m h⟩
theorem XU.set{st st1:ag}{n k:Nat}{c:Cell}(a:XU st n st1)(h:st.length<=k):XU st n (st1.set k c):=⟨by rw[List.length_set];exact a.len,fun m hm g=>by rw[List.getElem?_set_ne (by omega)];exact a.same m hm g⟩
def pG:b_:=fun ds st K=>∃(n:Nat) (b:Int),ds=[.ref n]/\Hk st n b/\b<=500000000/\∀A N w st',Mx.cy N w A->1<=N->N<=8->1<=w->w<=8->(∀r∈A,∀x∈r,x.natAbs<=5*3^7)->Hk st' n (b+200)->XU st n st'->K (di A) st'
def l8:List Str:=["_law_hand_here","_law_many","_law_wide","_law_rows_here","_law_k","_law_row"]
def Au:DS:=(aL (Ak 1 2 (af (aw fL (dC (.int 1)) (aB cO (af (ae 0) (af (dC (.int 4)) ao)))) (af (aw fL (dC (.int 1)) (aB cO (af (ae 0) (af (dC (.int 4)) ao)))) ao)))
 (aL (eA (cm (aw iK (aB cO (af (ae 0) (af (dC (.int 8)) ao))) (dC (.int 0)))) (Ak 1 2 (af (aw fL (dC (.int 6)) (aB cO (af (ae 0) (af (dC (.int 3)) ao)))) (af (aw fL (dC (.int 6)) (aB cO (af (ae 0) (af (dC (.int 3)) ao)))) ao))) dQ)
 (aL (bf 3 (yd ao))
 (aL (lP (gJ (af (ae 1) ao)) (cq 4) (aL (bf 5 (bZ c5 (af (eK (gJ (af (ae 2) ao)) [none,some 0] (cq 0) cN (aw qX (aB cO (af (ae 1) (af (dC (.int 11)) ao))) (dC (.int 5)))) ao)))
 (aL (eA (wD (cm (aw qH (ae 4) (dC (.int 0)))) (cm (aw iK (aB cO (af (ae 0) (af (dC (.int 4)) ao))) (dC (.int 0))))) (bf 5 (bZ c5 (af (eK (fz (aw aS (ae 3) (nC iN (dC (.int 1))))) [none] (cq 0) cN (aw dg (dC (.int 3)) (ae 0))) ao))) dQ)
 (la (mM (ae 3) (ae 5))))))
 (bI (bZ c5 (af (ae 3) ao)))))))
theorem D5{A:List (List Int)}{n:Nat}(h:A.length=n+1):dP (A.map bh) (-1)=some (bh (A.getD n [])):=by
 have e:iL (n+1) (-1)=some n:=by unfold iL;simp;omega
 unfold dP;rw[List.length_map,h,e];show(A.map bh)[n]?=_;rw[List.getElem?_map,List.getElem?_eq_getElem (by omega),Mx.a7 (by omega)];rfl
theorem v_{n:Nat}{b m o:Int}{xs:List D}{σc:bG}{st:ag}{te:DE}{K:List D->ag->Prop}(te_:∀(x:D) (st':ag) (K':DK),cO [.ref n,.int m] st' (fun d s=>∃i,d= .int i/\K' (.int (i-o)) s)->te (σc.set 0 (some x)) st' K')(B:Hk st n b)(hb:b<=900000000)(m0:0<m)(m1:m<2^62)(hx:xs.length<=8)(hs:(fun(x:D)=>cq 0 x σc)=fun x=>some (σc.set 0 (some x)))
 (k:∀r st',r.length=xs.length->(∀x∈r,-o<=x/\x<m-o)->Hk st' n (b+8)->Upd st n st'->K (aJ r) st'):cR (cq 0) cN te (fun _=>True) σc xs [] st K:=by
 refine kG (fun rest acc st'=>∃l:List Int,acc=aJ l/\l.length+rest.length=xs.length/\(∀x∈l,-o<=x/\x<m-o)/\Hk st' n (b+l.length)/\Upd st n st') ?_ ?_ _ _ _ ⟨[],rfl,by simp,by simp,B.mono (by simp),Upd.refl⟩
 . rintro acc st' ⟨l,rfl,hl,h2,B',U'⟩;have hl:l.length=xs.length:=by simpa using hl
   exact⟨trivial,k l st' hl h2 (B'.mono (by omega)) U'⟩
 . rintro d rest acc st' ⟨l,rfl,hl,h2,B',U'⟩ next
   have hl2:l.length<8:=by simp at hl;omega
   refine⟨trivial,σc.set 0 (some d),congrFun hs d,te_ d st' _ ⟨n,m,_,rfl,B',by omega,m0,m1,fun i st2 i0 i1 B2 U2=>⟨i,rfl,?_⟩⟩⟩;show cR _ _ _ _ _ _ _ _ _;rw[ints_app];refine next _ _ ⟨l++[i-o],rfl,by simp at hl⊢;omega,fun z hz=>?_,B2.mono (by simp;omega),U'.trans U2⟩
   rcases List.mem_append.mp hz with hz|hz
   . exact h2 z hz
   . rw[List.mem_singleton.mp hz];omega
theorem yV:∀ds st K,pG ds st K->ds.length=1/\Au {nx:=fun _ st'=>K .aE st',rt:=K} (aT l8 ds) st:=by
 rintro ds st K ⟨n,b,rfl,B,hb,k⟩;refine⟨rfl,?_⟩;have hn:=B.lt;refine⟨n,4,b,rfl,B,by omega,by decide,by decide,fun r1 st1 a0 a1 B1 U1=>gE ⟨n,4,_,rfl,B1,by omega,by decide,by decide,fun r2 st2 b0 b1 B2 U2=>gE ?_⟩⟩;dsimp only;refine mP (A:=eA _ _ _) (fun σ st'=>∃N w:Nat,σ=[some (.ref n),some (.int N),some (.int w),none,none,none]/\1<=N/\N<=8/\1<=w/\w<=8/\Hk st' n (b+5)/\Upd st n st') (fun nx hnx=>?_) ?_
 . refine⟨n,8,_,rfl,B2,by omega,by decide,by decide,fun r3 st3 c0 c1 B3 U3=>?_⟩;refine eq2 (fun h=>fe ?_) fun h=>?_
   . refine⟨n,3,_,rfl,B3,by omega,by decide,by decide,fun r4 st4 d0 d1 B4 U4=>gE ⟨n,3,_,rfl,B4,by omega,by decide,by decide,fun r5 st5 e0 e1 B5 U5=>gE ?_⟩⟩;obtain⟨x,rfl⟩:=Int.eq_ofNat_of_zero_le d0;obtain⟨y,rfl⟩:=Int.eq_ofNat_of_zero_le e0;exact hnx _ _ ⟨6+x,6+y,rfl,by omega,by omega,by omega,by omega,B5.mono (by omega),(U1.trans U2).trans (U3.trans (U4.trans U5))⟩
   . obtain⟨x,rfl⟩:=Int.eq_ofNat_of_zero_le a0;obtain⟨y,rfl⟩:=Int.eq_ofNat_of_zero_le b0;exact hnx _ _ ⟨1+x,1+y,rfl,by omega,by omega,by omega,by omega,B3.mono (by omega),(U1.trans U2).trans U3⟩
 clear a0 a1 b0 b1 B1 B2 U1 U2;rintro _ st3 ⟨N,w,rfl,N1,N8,w1,w8,B3,U3⟩;have l3:=U3.len;refine⟨Nat.le_of_ble_eq_true rfl,?_⟩;refine kv ⟨by omega,by omega⟩ ?_;rw[Int.toNat_natCast];have X3:XU st n (st3++[.lst []]):=(XU.upd U3).trans (XU.ext Ext.push);refine nR N (fun j σ st'=>∃(A:List (List Int)) (v4 v5:Option D),σ=[some (.ref n),some (.int N),some (.int w),some (.ref st3.length),v4,v5]/\st'[st3.length]?=some (.lst (A.map bh))/\A.length=j/\(∀r∈A,r.length=w)/\(∀r∈A,∀x∈r,x.natAbs<=5*3^(j-1))/\Hk st' n (b+5+9*j)/\XU st n st') ?_ ?_ ⟨[],none,none,rfl,by simp,rfl,by simp,by simp,(B3.cell (List.getElem?_append_left (by omega))).mono (by simp),X3⟩
 . rintro σ st' ⟨A,v4,v5,rfl,e,hl,hA,hbd,B',X⟩;refine cK (aM e) (k A N w st' ⟨hl,hA⟩ N1 N8 w1 w8 (fun r hr x hx=>Nat.le_trans (hbd r hr x hx) (Nat.mul_le_mul_left _ (Nat.pow_le_pow_right (by decide) (by omega)))) (B'.mono (by omega)) X)
 rintro j σ st' rest hj ⟨A,v4,v5,rfl,e,hl,hA,hbd,B',X⟩ next
 have hlen:=(List.getElem?_eq_some_iff.mp e).1;refine⟨_,rfl,?_⟩;refine kv ⟨by omega,by omega⟩ ⟨cY (by rw[gm];omega),?_⟩;rw[Int.toNat_natCast];refine v_ (n:=n) (m:=11) (o:=5) (fun x st' K' h=>?_) B' (by omega) (by decide) (by decide) (by rw[gm];omega) rfl fun r0 st4 hr0 hr1 B4 U4=>?_
 . obtain⟨n',m',b',e1,h1,h2,h3,h4,h5⟩:=h;cases e1
   exact⟨_,11,b',rfl,h1,h2,h3,h4,fun r s r0 r1 H U=>by
    obtain⟨i,ei,hi⟩:=h5 r s r0 r1 H U;cases ei;exact tX hi⟩
 rw[gm]at hr0;refine cK rfl ?_;have e4:st4[st3.length]?=some (.lst (A.map bh)):=(U4.same _ (by omega)).trans e;have p3:∀x,x<=5*3^(j-1)->x<=5*3^j:=fun x h=>Nat.le_trans h (Nat.mul_le_mul_left _ (Nat.pow_le_pow_right (by decide) (by omega)));dsimp only;refine mP (A:=eA _ _ _) (fun σ s=>∃r:List Int,σ=[some (.ref n),some (.int N),some (.int w),some (.ref st3.length),some (.int (j:Int)),some (bh r)]/\r.length=w/\(∀x∈r,x.natAbs<=5*3^j)/\s[st3.length]?=some (.lst (A.map bh))/\Hk s n (b+5+9*j+9)/\XU st n s) (fun nx hnx=>?_) ?_
 . have kC:∀s,s[st3.length]?=some (.lst (A.map bh))->Hk s n (b+5+9*j+9)->XU st n s->nx [some (.ref n),some (.int N),some (.int w),some (.ref st3.length),some (.int (j:Int)),some (bh r0)] s:=fun s h1 h2 h3=>hnx _ _ ⟨r0,rfl,hr0,fun x hx=>by
    have:=hr1 x hx;have:1<=3^j:=Nat.pow_pos (by decide);omega,h1,h2,h3⟩
   have X4:=X.trans (XU.upd U4);refine JP (fun h=>fe ?_) fun h=>kC _ e4 (B4.mono (by omega)) X4;refine⟨n,4,_,rfl,B4,by omega,by decide,by decide,fun r5 st5 d0 d1 B5 U5=>?_⟩;have e5:st5[st3.length]?=some (.lst (A.map bh)):=(U5.same _ (by omega)).trans e4;have X5:=X4.trans (XU.upd U5);refine eq2 (fun h2=>fe ?_) fun h2=>kC _ e5 (B5.mono (by omega)) X5;obtain⟨i,rfl⟩:∃i,j=i+1:=⟨j-1,by omega⟩
   have hm:A.getD i []∈A:=by rw[Mx.a7 (by omega)];exact List.getElem_mem _
   have lr:=hA _ hm;refine il (ay (aM e5) (D5 hl) (iE ⟨cY (by rw[List.length_map];omega),?_⟩));refine comp_map (g:=fun d=>match d with| .int x=> .int (3*x)|_=> .aE) trivial _ (fun d hd K' q=>?_) ?_
   . obtain⟨x,_,rfl⟩:=List.mem_map.mp hd;exact⟨_,rfl,dB (ka (by decide) (by decide)) q⟩
   have ea:(aJ (A.getD i [])).map (fun d=>match d with| .int x=> .int (3*x)|_=> .aE)=aJ ((A.getD i []).map fun x=>3*x):=by unfold aJ;rw[List.map_map,List.map_map];rfl
   rw[ea];refine cK rfl (hnx _ _ ⟨_,rfl,by rw[List.length_map];exact lr,fun y hy=>?_,e5,B5.mono (by omega),X5⟩);obtain⟨x,hx,rfl⟩:=List.mem_map.mp hy;have:=hbd _ hm x hx;rw[Nat.add_sub_cancel]at this;rw[Int.natAbs_mul,Nat.pow_succ];show 3*x.natAbs<=_;omega
 rintro _ st6 ⟨r,rfl,lr,br,e6,B6,X6⟩;refine Dm (by rfl) e6 (xy rfl (zm e6 (by rw[sizeLine_eq,List.length_map];omega) ?_));have hl6:=(List.getElem?_eq_some_iff.mp e6).1;refine next _ _ ⟨A++[r],_,_,rfl,by rw[List.getElem?_set_self hl6,DU],by simp[hl],fun q hq=>?_,fun q hq x hx=>?_,(B6.cell (List.getElem?_set_ne (by omega))).mono (by omega),X6.set (by omega)⟩
 . rcases List.mem_append.mp hq with h|h
   . exact hA q h
   . rw[List.mem_singleton.mp h];exact lr
 . rw[Nat.add_sub_cancel];rcases List.mem_append.mp hq with h|h
   . exact p3 _ (hbd q h x hx)
   . rw[List.mem_singleton.mp h]at hx;exact br x hx
abbrev Fh:b_:=CB KN
def wG:List Str:=["_law_script","_law_hand_here","_law_rows_here","_law_wide","_law_row","_law_place","_law_columns","_law_weights","_law_told"]
def K0:DS:=(aL (bf 1 (aB oZ (af (ae 0) ao)))
 (aL (bf 2 (aB pG (af (ae 1) ao)))
 (aL (bf 3 (bZ eP (af (aw aS (ae 2) (dC (.int 0))) ao)))
 (aL (bf 4 (bZ oM (af (aB i9 (af (eK (fz (ae 2)) [none,some 1] (cq 0) cN (aw qX (aB cO (af (ae 1) (af (dC (.int 7)) ao))) (dC (.int 3)))) (af (ae 2) (af (ae 3) ao)))) ao)))
 (aL (eA (cm (aw iK (aB cO (af (ae 1) (af (dC (.int 2)) ao))) (dC (.int 0)))) (aL (bf 5 (aB cO (af (ae 1) (af (ae 3) ao))))
 (eG (ae 4) (ae 5) (aw fL (aw aS (ae 4) (ae 5)) (aw aS (uR (af (nC iN (dC (.int 1))) (af (dC (.int 1)) (af (dC (.int 2)) (af (dC (.int 60)) ao))))) (aB cO (af (ae 1) (af (dC (.int 4)) ao))))))) dQ)
 (aL (bf 6 (aB ft (af (ae 2) (af (ae 3) ao))))
 (aL (bf 7 (aB sX (af (ae 2) (af (bZ c5 (af (ae 4) ao)) ao))))
 (aL (bf 8 (aB qc (af (ae 6) (af (bZ c5 (af (ae 4) ao)) ao))))
 (aL (eA (cm (aw qI (aw aS (ae 7) (dC (.int 0))) (aw aS (ae 8) (dC (.int 0))))) (bI (dC (.bl false))) dQ)
 (aL (eA (cm (aw iK (aw aS (ae 8) (dC (.int 0))) (dC (.str "none")))) (bI (jV (aB jP (af (ae 6) (af (bZ c5 (af (ae 4) ao)) (af (ae 7) ao)))) (aB j7 (af (ae 2) (af (bZ c5 (af (ae 4) ao)) (af (ae 8) ao)))))) dQ)
 (aL (eA (yA (cm (aw qI (aB rq (af (aw aS (ae 8) (dC (.int 2))) (af (aw aS (ae 7) (dC (.int 1))) ao))) (aw aS (ae 8) (dC (.int 1))))) (cm (aw qI (aB i9 (af (aw aS (ae 8) (dC (.int 1))) (af (ae 2) (af (ae 3) ao)))) (bZ c5 (af (ae 4) ao))))) (bI (dC (.bl false))) dQ)
 (bI (bZ q_ (af (eK (fz (aw aS (ae 8) (dC (.int 2)))) [none,some 2,some 3] (cq 0) cN (aw iK (aB i9 (af (ae 0) (af (ae 1) (af (ae 2) ao)))) (aw dg (kb (af (dC (.int 0)) ao)) (ae 2)))) ao))))))))))))))
theorem mixed{A:List (List Int)}{N w:Nat}{r:List Int}{ps:List Rat}(hw:∀n,n<N->Mx.Wh (Mx.dq ps w (Mx.g A n)))(hn:¬Mx.Wh (Mx.dq ps w fun c=>r.getD c 0)){W:List Int}(h:∀q,q<w->(Mx.S N fun n=>W.getD n 0*Mx.g A n q)=r.getD q 0):False:=hn (by
 have e:Mx.dq ps w (fun c=>r.getD c 0)=Mx.dq ps w fun c=>Mx.S N fun k=>W.getD k 0*Mx.g A k c:=Mx.mY fun c hc=>(h c hc).symm;rw[e,Mx.qR];exact Mx.tK fun i hi=>(hw i hi).mul _)
theorem oG{n:Nat}{r:List Int}:pl (n+1) (bh r)=true:=by
 unfold pl;exact G9
theorem FP.N7{A:List (List Int)}{N w top m e f:Nat}{r W:List Int}{c:Mx.B3}{F:List (List Int)}(T:FP A N w r top c W F m e f)(hA:Mx.cy N w A)(lr:r.length=w):Mx.cM (Mx.cw F W m) A (List.replicate w 0)=r:=by
 have lL:=Mx.ko T.wg.is T.lW (Nat.le_refl m);have sm:=Mx.rP T.wg.is T.lW (Nat.le_refl m);have lA:=hA.len;refine Mx.u0 (Mx.jt (by simp) hA.fO) lr fun q hq=>?_;rw[Mx.ki (n:=w) q (by simp) hA.fO (by omega),Mx.dD,Int.zero_add,lA,<-T.sum q hq]
 have e1:(Mx.S N fun n=>W.getD n 0*Mx.g A n q)=Mx.S N fun n=>(Mx.cw F W m).getD n 0*Mx.g A n q+Mx.S m fun j=>Mx.lY F (Mx.cw F W j) j*(Mx.g F j n*Mx.g A n q):=Mx.aH fun n _=>by
  rw[sm n,Int.add_mul,<-Mx.uN];congr 1;exact Mx.aH fun j _=>Int.mul_assoc _ _ _
 have e2:(Mx.S N fun n=>Mx.S m fun j=>Mx.lY F (Mx.cw F W j) j*(Mx.g F j n*Mx.g A n q))=0:=by
  rw[Mx.qU];exact Mx.lO fun j hj=>by rw[Mx.eN,T.Mw j hj q hq,Int.mul_zero]
 rw[e1,Mx.iD,e2,Int.add_zero]
theorem Kz:∀ds st K,Fh ds st K->ds.length=1/\K0 {nx:=fun _ st'=>K .aE st',rt:=K} (aT wG ds) st:=by
 rintro ds st K ⟨ns,rfl,hl,hst,k⟩;refine⟨rfl,?_⟩;have l0:st.length=1:=by rw[hst];rfl
 have t0:st[0]?=some (fk false):=by rw[hst];rfl
 clear hst;refine⟨ns,rfl,hl,fun st1 B1 X1=>?_⟩;refine⟨_,_,rfl,B1,by decide,fun A N w st2 hA n1 n8 w1 w8 bd B2 X2=>?_⟩;have l1:=X1.len;have l2:=X2.len;have t1:st1[0]?=some (fk false):=by rw[X1.same 0 (by omega)];exact t0
 have t2:=(X2.same 0 (by omega) (by omega)).trans t1;have lA:=hA.len;refine ay rfl (show dP (A.map bh) 0=some (bh (A.getD 0 []))from rG (k:=0) (by omega)) (dA rfl ?_);rw[List.length_map,hA.row (i:=0) n1];refine iE ⟨cY (by rw[List.length_map];omega),?_⟩;refine v_ (n:=st.length) (m:=7) (o:=3) (fun x st' K' h=>?_) B2 (by decide) (by decide) (by decide) (by rw[List.length_map];omega) rfl fun ws st3 lw hw B3 U3=>?_
 . obtain⟨n',m',b',e1,h1,h2,h3,h4,h5⟩:=h;cases e1
   exact⟨_,7,b',rfl,h1,h2,h3,h4,fun r s r0 r1 H U=>by
    obtain⟨i,ei,hi⟩:=h5 r s r0 r1 H U;cases ei;exact tX hi⟩
 rw[List.length_map]at lw;have t3:=(U3.same 0 (by omega)).trans t2;have l3:=U3.len;refine⟨_,_,w,ws,A,rfl,rfl,f7,hA.fO,by omega,fun x hx q hq y hy=>ka (by have:=hw x hx;omega) (by have:=hw x hx;omega),?_⟩;have lM:(Mx.cM ws A (List.replicate w 0)).length=w:=Mx.jt (by simp) hA.fO
 have bM:∀x∈Mx.cM ws A (List.replicate w 0),x.natAbs<=8*(3*(5*3^7)):=fun x hx=>by
  obtain⟨c,hc,rfl⟩:=List.mem_iff_getElem.mp hx;rw[<-Mx.a7 hc,Mx.ki (n:=w) c (by simp) hA.fO (by omega),Mx.dD,Int.zero_add,lA];refine Nat.le_trans (Mx.wz (m:=3*(5*3^7)) fun i hi=>?_) (Nat.mul_le_mul_right _ n8);have hm:A.getD i []∈A:=by rw[Mx.a7 (by omega)];exact List.getElem_mem _
  rw[Int.natAbs_mul];have h1:=hw _ (getD_mem (r:=ws) (k:=i) (by omega));exact Nat.mul_le_mul (by omega) (bd _ hm _ (getD_mem (by rw[hA.fO _ hm];omega)))
 generalize Mx.cM ws A (List.replicate w 0)=M at lM bM;refine xp rfl ?_;have B3':Hk (st3++[.lst (aJ M)]) st.length (0+200+8):=B3.cell (List.getElem?_append_left B3.lt);have e3:(st3++[Cell.lst (aJ M)])[st3.length]?=some (.lst (aJ M)):=by simp
 have t3':(st3++[Cell.lst (aJ M)])[0]?=some (fk false):=by rw[List.getElem?_append_left (by omega)];exact t3
 generalize st3++[Cell.lst (aJ M)]=st4 at B3' e3 t3';have n3:st3.length≠st.length:=by have:=B3.lt;omega
 have z3:st3.length≠0:=by omega
 dsimp only;refine mP (A:=eA _ _ _) (fun σ s=>∃(R:List Int) (v5:Option D),σ=[some (.lst (ns.map .int)),some (.ref st.length),some (di A),some (.int w),some (.ref st3.length),v5,none,none,none]/\R.length=w/\(∀x∈R,x.natAbs<=2^64)/\s[st3.length]?=some (.lst (aJ R))/\s[0]?=some (fk false)) (fun nx hnx=>?_) ?_
 . refine⟨_,2,_,rfl,B3',by decide,by decide,by decide,fun r5 st5 a0 a1 B5 U5=>?_⟩;have e5:st5[st3.length]?=some (.lst (aJ M)):=(U5.same _ n3).trans e3;have t5:=(U5.same 0 (by omega)).trans t3';refine eq2 (fun h=>fe ?_) fun h=>hnx _ _ ⟨M,_,rfl,lM,fun x hx=>Nat.le_trans (bM x hx) (by decide),e5,t5⟩;refine⟨_,w,_,rfl,B5,by decide,by omega,by omega,fun r6 st6 b0 b1 B6 U6=>?_⟩;obtain⟨j,rfl⟩:=Int.eq_ofNat_of_zero_le b0;have e6:st6[st3.length]?=some (.lst (aJ M)):=(U6.same _ n3).trans e5;have t6:=(U6.same 0 (by omega)).trans t5;refine ay (aM e6) (iq (by omega)) ?_;refine il ⟨Nat.le_of_ble_eq_true rfl,_,4,_,rfl,B6,by decide,by decide,by decide,fun r7 st7 c0 c1 B7 U7=>?_⟩;have e7:st7[st3.length]?=some (.lst (aJ M)):=(U7.same _ n3).trans e6;have t7:=(U7.same 0 (by omega)).trans t6
   obtain⟨x,ex,hx⟩:∃x:Int,dP [D.int (-1),.int 1,.int 2,.int 60] r7=some (.int x)/\x.natAbs<=60:=by
    have:r7=0\/r7=1\/r7=2\/r7=3:=by omega
    rcases this with rfl|rfl|rfl|rfl
    . exact⟨-1,rfl,by decide⟩
    . exact⟨1,rfl,by decide⟩
    . exact⟨2,rfl,by decide⟩
    . exact⟨60,rfl,by decide⟩
   refine ay rfl ex (gE ?_);have hM:=bM _ (getD_mem (r:=M) (k:=j) (by omega))
   refine gD e7 (show iL (aJ M).length (j:Int)=some j by
    unfold iL;simp only[Int.natCast_nonneg,Int.toNat_natCast];simp;omega) ?_
   have es:(aJ M).set j (.int (M.getD j 0+x))=aJ (M.set j (M.getD j 0+x)):=by unfold aJ;rw[List.map_set]
   rw[es];refine hnx _ _ ⟨_,_,rfl,by rw[List.length_set];exact lM,fun y hy=>?_,List.getElem?_set_self (List.getElem?_eq_some_iff.mp e7).1,(List.getElem?_set_ne z3).trans t7⟩;rcases List.mem_or_eq_of_mem_set hy with h|h
   . exact Nat.le_trans (bM y h) (by decide)
   . rw[h];have:=Int.natAbs_add_le (M.getD j 0) x;omega
 clear e3 t3' bM lM M B3';rintro _ st5 ⟨R,v5,rfl,lR,bR,e5,t5⟩;refine⟨_,A,w,rfl,f7,hA.fO,by omega,by omega,?_⟩;have zt:∀r∈A,∀x∈r,x.natAbs<=2^14:=fun r hr x hx=>Nat.le_trans (bd r hr x hx) (by decide);have P:zV A N w R:=⟨hA,n1,n8,w8,fun r hr x hx=>Nat.le_trans (bd r hr x hx) (by decide),lR,bR⟩
 refine cK (aM e5) ⟨_,_,A,R,N,w,_,rfl,f7,rfl,P,t5,fun st6 x K6 hR hS=>?_⟩;obtain⟨f6,t6⟩:=K6.tb;have q5:=(List.getElem?_eq_some_iff.mp e5).1;have e6:st6[st3.length]?=some (.lst (aJ R)):=(K6.fr _ q5 z3).trans e5;refine cK (aM e6) ⟨_,A,R,N,w,_,rfl,rfl,⟨P,w1,zt⟩,t6,fun st7 y K7 hY=>?_⟩;have e7:st7[st3.length]?=some (.lst (aJ R)):=(K7.fr _ (List.getElem?_eq_some_iff.mp e6).1 z3).trans e6;rcases hY with⟨top,c,W,F,m,e,f,T,rfl⟩|⟨ps',rfl,lp',hP',hw',hn'⟩
 . obtain⟨t2',c2,hC2,hV⟩:=hR.ex;obtain⟨rfl,rfl⟩:=hC2.unique T.cols
   have ex:x= .tup [.str "told",bh W]:=by
    rcases hV.or with⟨_,h⟩|⟨l,b,h,_⟩
    . rw[h,T.eW]
    . rw[T.none]at h;cases h
   subst ex;refine ay rfl rfl (ay rfl rfl (o_ rfl ?_));refine ay rfl rfl (pe rfl rfl ?_);refine ay rfl rfl (ay rfl rfl ⟨_,F,W,m,N,e,f,rfl,T.wg,rfl,T.lW,T.bW,T.sz,fun st8 X8=>ay rfl rfl (o_ oG ?_)⟩);have e8:st8[st3.length]?=some (.lst (aJ R)):=(X8.same _ (List.getElem?_eq_some_iff.mp e7).1).trans e7;have am:∀q∈A,∀y∈q,∀x:Int,IntMulOk x y:=fun q hq y hy x=>rh (by have:=zt q hq y hy;omega) (by have:=zt q hq y hy;omega);refine ay rfl rfl ⟨_,_,w,Mx.cw F W m,A,rfl,rfl,f7,hA.fO,by omega,fun x _ q hq y hy=>am q hq y hy x,?_⟩;rw[T.N7 hA lR];refine cK (aM e8) (o_ oG ?_);have lF:=T.wg.is.len;have m8:=T.wg.m8;refine ay rfl rfl (iE ⟨cY (by rw[List.length_map];omega),?_⟩);refine comp_map (g:=fun _=> .bl true) trivial _ (fun d hd K' q=>?_) ?_
   . obtain⟨s,hs,rfl⟩:=List.mem_map.mp hd;obtain⟨i,hi,rfl⟩:=List.mem_iff_getElem.mp hs;refine⟨_,rfl,_,_,w,F[i],A,rfl,rfl,f7,hA.fO,by omega,fun x _ q hq y hy=>am q hq y hy x,?_⟩;refine Mq (Nat.le_of_ble_eq_true rfl) (F6 ⟨by omega,by omega,cY (by simp;omega)⟩ ?_);rw[Int.toNat_natCast,xQ]
     have ez:Mx.cM F[i] A (List.replicate w 0)=List.replicate w 0:=by
      refine Mx.u0 (Mx.jt (by simp) hA.fO) (by simp) fun j hj=>?_;rw[Mx.ki (n:=w) j (by simp) hA.fO (by rw[T.wg.is.fO _ hs];omega),Mx.dD,Int.zero_add,lA];refine(Mx.aH fun n _=>?_).trans (T.Mw i (by omega) j hj);unfold Mx.g;rw[Mx.a7 hi]
     rw[ez];refine pe oG oG ?_;rw[o8 40 _ oG];exact q
   refine tT (rW (F.map bh)) ?_;rw[A9];exact k _
 . rcases hS with⟨W,rfl,lW,hs⟩|⟨ps,rfl,lp,hP,hw2,hn⟩
   . exact(mixed hw' hn' hs).elim
   . refine ay rfl rfl (ay rfl rfl (o_ rfl ?_));refine ay rfl rfl (pe rfl rfl ?_);refine cK (aM e7) ⟨A,R,N,w,ps,rfl,P,w1,lp,hP,hw2,hn,?_⟩;exact cK (aM e7) ⟨A,R,N,w,ps',rfl,P,lp',hP',hw',hn',k _⟩
end Prog
namespace Row
open PySem L2 L3 Prog
open PySem.Spec hiding items?
open PyProof.Rows hiding St
theorem B_:(("int":Str))≠"__name__":=by decide+kernel
theorem lQ:(("isinstance":Str))≠"__name__":=by decide+kernel
theorem G7:(("bool":Str))≠"__name__":=by decide+kernel
theorem cD:(("tuple":Str))≠"__name__":=by decide+kernel
theorem kD:(("list":Str))≠"__name__":=by decide+kernel
theorem dF:(("len":Str))≠"__name__":=by decide+kernel
theorem uz:(("all":Str))≠"__name__":=by decide+kernel
theorem qD:(("abs":Str))≠"__name__":=by decide+kernel
structure Bl(mg:Str->Option Value):Prop where
 F5:mg "int"=none
 nc:mg "isinstance"=none
 H_:mg "bool"=none
 cX:mg "tuple"=none
 nj:mg "list"=none
 d8:mg "len"=none
 wI:mg "all"=none
 uf:mg "abs"=none
 A8:mg "zip"=none
 iB:mg "range"=none
 y6:mg "enumerate"=none
 DR:mg "sorted"=none
structure Kl(K:PySem.W.Frag)(mg:Str->Option Value):Prop where
 aX:ClsAt K mg "Bench" aA
 bO:fB K aA "body"
 dM:fB K aA "turn"
 bX:fB K aA "back_columns"
theorem dH:VS (ai gM) kP ["int","isinstance","bool"]:=⟨by decide+kernel⟩
theorem xM:aN kP ["thing"] (ai gM):=⟨rfl,rfl,rfl,by decide+kernel,rfl,by decide+kernel,by decide+kernel⟩
theorem fH:VS (ai gI) kR ["tuple","list","isinstance"]:=⟨by decide+kernel⟩
theorem yi:aN kR ["thing"] (ai gI):=⟨rfl,rfl,rfl,by decide+kernel,rfl,by decide+kernel,by decide+kernel⟩
theorem dU:VS (ai eS) iI ["is_listed","len"]:=⟨by decide+kernel⟩
theorem um:aN iI ["thing","many"] (ai eS):=⟨rfl,rfl,rfl,by decide+kernel,rfl,by decide+kernel,by decide+kernel⟩
theorem eB:VS (ai eF) i8 ["is_listed_of","all"]:=⟨by decide+kernel⟩
theorem vd:aN i8 ["thing","many"] (ai eF):=⟨rfl,rfl,rfl,by decide+kernel,rfl,by decide+kernel,by decide+kernel⟩
theorem cS:VS (ai ke) oY ["abs"]:=⟨by decide+kernel⟩
theorem jw:aN oY ["one","other"] (ai ke):=⟨rfl,rfl,rfl,by decide+kernel,rfl,by decide+kernel,by decide+kernel⟩
theorem gy:VS (ai oK) ug ["common"]:=⟨by decide+kernel⟩
theorem j_:aN ug ["top","bottom"] (ai oK):=⟨rfl,rfl,rfl,by decide+kernel,rfl,by decide+kernel,by decide+kernel⟩
theorem lD:VS (ai oH) tP ["part"]:=⟨by decide+kernel⟩
theorem GJ:aN tP ["one","other"] (ai oH):=⟨rfl,rfl,rfl,by decide+kernel,rfl,by decide+kernel,by decide+kernel⟩
theorem jx:VS (ai mJ) rE ["part"]:=⟨by decide+kernel⟩
theorem Eu:aN rE ["one","other"] (ai mJ):=⟨rfl,rfl,rfl,by decide+kernel,rfl,by decide+kernel,by decide+kernel⟩
theorem mO:VS (ai mN) rS ["part"]:=⟨by decide+kernel⟩
theorem DW:aN rS ["one","other"] (ai mN):=⟨rfl,rfl,rfl,by decide+kernel,rfl,by decide+kernel,by decide+kernel⟩
theorem oy:VS (ai oz) tI ["part"]:=⟨by decide+kernel⟩
theorem Ho:aN tI ["one","other"] (ai oz):=⟨rfl,rfl,rfl,by decide+kernel,rfl,by decide+kernel,by decide+kernel⟩
theorem Gd:VS (ai mB) rl []:=⟨by decide+kernel⟩
theorem EA:aN rl ["n"] (ai mB):=⟨rfl,rfl,rfl,by decide+kernel,rfl,by decide+kernel,by decide+kernel⟩
theorem gg:VS (ai jo) nz ["are_numbers","common"]:=⟨by decide+kernel⟩
theorem Bd:aN nz ["thing"] (ai jo):=⟨rfl,rfl,rfl,by decide+kernel,rfl,by decide+kernel,by decide+kernel⟩
theorem qK:VS (ai ib) nB ["tuple"]:=⟨by decide+kernel⟩
theorem Aq:aN nB ["rows"] (ai ib):=⟨rfl,rfl,rfl,by decide+kernel,rfl,by decide+kernel,by decide+kernel⟩
theorem vi:VS (ai ky) rK ["zip"]:=⟨by decide+kernel⟩
theorem E6:aN rK ["row","times","other"] (ai ky):=⟨rfl,rfl,rfl,by decide+kernel,rfl,by decide+kernel,by decide+kernel⟩
theorem dO:VS (ai kK) pD ["zip","added","tuple"]:=⟨by decide+kernel⟩
theorem nL:aN pD ["weights","rows","wide"] (ai kK):=⟨rfl,rfl,rfl,by decide+kernel,rfl,by decide+kernel,by decide+kernel⟩
theorem sO:VS (ai i_) o4 ["tuple"]:=⟨by decide+kernel⟩
theorem Dj:aN o4 ["rows","place"] (ai i_):=⟨rfl,rfl,rfl,by decide+kernel,rfl,by decide+kernel,by decide+kernel⟩
theorem i6:VS (ai eC) iY ["range","tuple"]:=⟨by decide+kernel⟩
theorem uT:aN iY ["rows","wide"] (ai eC):=⟨rfl,rfl,rfl,by decide+kernel,rfl,by decide+kernel,by decide+kernel⟩
theorem mw:VS (ai gp) mj ["range","tuple"]:=⟨by decide+kernel⟩
theorem y9:aN mj ["n","place"] (ai gp):=⟨rfl,rfl,rfl,by decide+kernel,rfl,by decide+kernel,by decide+kernel⟩
theorem kQ:VS (ai fI) k6 ["range","tuple"]:=⟨by decide+kernel⟩
theorem xn:aN k6 ["n"] (ai fI):=⟨rfl,rfl,rfl,by decide+kernel,rfl,by decide+kernel,by decide+kernel⟩
theorem nU:VS (ai jm) nE ["enumerate"]:=⟨by decide+kernel⟩
theorem ur:aN nE ["row"] (ai jm):=⟨rfl,rfl,rfl,by decide+kernel,rfl,by decide+kernel,by decide+kernel⟩
theorem g_:VS (ai dz) fD []:=⟨by decide+kernel⟩
theorem gS:aN fD ["top","bottom"] (ai dz):=⟨rfl,rfl,rfl,by decide+kernel,rfl,by decide+kernel,by decide+kernel⟩
theorem cF:VS (ai gH) kW ["list"]:=⟨by decide+kernel⟩
theorem qm:aN kW ["rows","k","other"] (ai gH):=⟨rfl,rfl,rfl,by decide+kernel,rfl,by decide+kernel,by decide+kernel⟩
theorem CG:VS (ai ig) nO []:=⟨by decide+kernel⟩
theorem Bu:aN nO ["row"] (ai ig):=⟨rfl,rfl,rfl,by decide+kernel,rfl,by decide+kernel,by decide+kernel⟩
theorem bC:VS (ai cB) gq ["len","unit_rows"]:=⟨by decide+kernel⟩
theorem r_:aN gq ["self","rows"] (ai cB):=⟨rfl,rfl,rfl,by decide+kernel,rfl,by decide+kernel,by decide+kernel⟩
theorem aU:VS (ai fU) jY ["added"]:=⟨by decide+kernel⟩
theorem wm:aN jY ["self","k","times","other"] (ai fU):=⟨rfl,rfl,rfl,by decide+kernel,rfl,by decide+kernel,by decide+kernel⟩
theorem a6:VS (ai dS) gj ["exchanged"]:=⟨by decide+kernel⟩
theorem rX:aN gj ["self","k","other"] (ai dS):=⟨rfl,rfl,rfl,by decide+kernel,rfl,by decide+kernel,by decide+kernel⟩
theorem aQ:VS (ai c_) fg ["negated"]:=⟨by decide+kernel⟩
theorem pv:aN fg ["self","k"] (ai c_):=⟨rfl,rfl,rfl,by decide+kernel,rfl,by decide+kernel,by decide+kernel⟩
theorem cH:VS (ai cG) fQ ["len","range","sorted"]:=⟨by decide+kernel⟩
theorem lh:aN fQ ["self","top","place"] (ai cG):=⟨rfl,rfl,rfl,by decide+kernel,rfl,by decide+kernel,by decide+kernel⟩
theorem az:VS (ai eZ) iG ["len","nearest_quotient"]:=⟨by decide+kernel⟩
theorem fw:aN iG ["self","top","place"] (ai eZ):=⟨rfl,rfl,rfl,by decide+kernel,rfl,by decide+kernel,by decide+kernel⟩
theorem bH:VS (ai de) fh ["range"]:=⟨by decide+kernel⟩
theorem eJ:aN fh ["self","top","place"] (ai de):=⟨rfl,rfl,rfl,by decide+kernel,rfl,by decide+kernel,by decide+kernel⟩
theorem aZ:VS (ai iy) l_ ["Bench","len","range","turned_over","as_rows"]:=⟨by decide+kernel⟩
theorem gG:aN l_ ["rows"] (ai iy):=⟨rfl,rfl,rfl,by decide+kernel,rfl,by decide+kernel,by decide+kernel⟩
theorem ba:VS (ai jl) nA ["list","lead_of","added","tuple"]:=⟨by decide+kernel⟩
theorem eQ:aN nA ["form","row"] (ai jl):=⟨rfl,rfl,rfl,by decide+kernel,rfl,by decide+kernel,by decide+kernel⟩
theorem rp:VS (ai mL) rM ["weighed"]:=⟨by decide+kernel⟩
theorem EC:aN rM ["form","row"] (ai mL):=⟨rfl,rfl,rfl,by decide+kernel,rfl,by decide+kernel,by decide+kernel⟩
theorem bY:VS (ai gK) k_ ["whole","zip","times","plus"]:=⟨by decide+kernel⟩
theorem jK:aN k_ ["parts","row"] (ai gK):=⟨rfl,rfl,rfl,by decide+kernel,rfl,by decide+kernel,by decide+kernel⟩
theorem dh:VS (ai gL) kM ["lead_of","abs"]:=⟨by decide+kernel⟩
theorem qO:aN kM ["form","rest","place"] (ai gL):=⟨rfl,rfl,rfl,by decide+kernel,rfl,by decide+kernel,by decide+kernel⟩
theorem ak:VS (ai ef) g7 ["lead_of","whole","len","bottom_at","part","range","parts_dot","minus","over","tuple"]:=⟨by decide+kernel⟩
theorem dX:aN g7 ["form","rest"] (ai ef):=⟨rfl,rfl,rfl,by decide+kernel,rfl,by decide+kernel,by decide+kernel⟩
theorem bD:VS (ai j6) o3 ["standing","weighed","lead_of","parts_against","len","sum_by"]:=⟨by decide+kernel⟩
theorem nv:aN o3 ["rows","row"] (ai j6):=⟨rfl,rfl,rfl,by decide+kernel,rfl,by decide+kernel,by decide+kernel⟩
theorem fJ:VS (ai fK) kX ["is_listed_of","all"]:=⟨by decide+kernel⟩
theorem xv:aN kX ["thing","many"] (ai fK):=⟨rfl,rfl,rfl,by decide+kernel,rfl,by decide+kernel,by decide+kernel⟩
theorem Ai:VS (ai ir) l9 []:=⟨by decide+kernel⟩
theorem ze:aN l9 ["one"] (ai ir):=⟨rfl,rfl,rfl,by decide+kernel,rfl,by decide+kernel,by decide+kernel⟩
theorem cj:VS (ai fb) jS ["len","are_parts","parts_dot","is_whole","all"]:=⟨by decide+kernel⟩
theorem wc:aN jS ["rows","row","parts"] (ai fb):=⟨rfl,rfl,rfl,by decide+kernel,rfl,by decide+kernel,by decide+kernel⟩
theorem cE:VS (ai eR) iH ["is_listed_of","parts_show"]:=⟨by decide+kernel⟩
theorem tL:aN iH ["rows","row","told"] (ai eR):=⟨rfl,rfl,rfl,by decide+kernel,rfl,by decide+kernel,by decide+kernel⟩
theorem dw:VS (ai eY) iw ["len","standing"]:=⟨by decide+kernel⟩
theorem tG:aN iw ["turn","many"] (ai eY):=⟨rfl,rfl,rfl,by decide+kernel,rfl,by decide+kernel,by decide+kernel⟩
theorem aD:VS (ai jq) nu ["len","turned_over","standing","weighed","lead_of","parts_against","steps_behind","sum_by","falls"]:=⟨by decide+kernel⟩
theorem fu:aN nu ["rows","due"] (ai jq):=⟨rfl,rfl,rfl,by decide+kernel,rfl,by decide+kernel,by decide+kernel⟩
theorem bJ:VS (ai d7) gZ ["is_listed_of","len","turned_over","parts_show"]:=⟨by decide+kernel⟩
theorem tu:aN gZ ["rows","due","told"] (ai d7):=⟨rfl,rfl,rfl,by decide+kernel,rfl,by decide+kernel,by decide+kernel⟩
theorem dJ:VS (ai iA) md ["abs","int"]:=⟨by decide+kernel⟩
theorem nX:aN md ["_law_script"] (ai iA):=⟨rfl,rfl,rfl,by decide+kernel,rfl,by decide+kernel,by decide+kernel⟩
theorem bE:VS (ai iC) mq ["len"]:=⟨by decide+kernel⟩
theorem kT:aN mq ["_law_hand_here","_law_many"] (ai iC):=⟨rfl,rfl,rfl,by decide+kernel,rfl,by decide+kernel,by decide+kernel⟩
theorem aP:VS (ai dj) l8 ["_law_take","range","tuple"]:=⟨by decide+kernel⟩
theorem fG:aN l8 ["_law_hand_here"] (ai dj):=⟨rfl,rfl,rfl,by decide+kernel,rfl,by decide+kernel,by decide+kernel⟩
theorem aF:VS (ai kY) wG ["_law_hand","_law_rows","len","sum_by","list","_law_take","turned_over","tuple","inside","answers","shows_answers","shows_inside","falls","all"]:=⟨by decide+kernel⟩
theorem jM:aN wG ["_law_script"] (ai kY):=⟨rfl,rfl,rfl,by decide+kernel,rfl,by decide+kernel,by decide+kernel⟩
structure Ev(w:World)(mg:Str->Option Value)(h:Heap):Prop where
 X:(KX w.params).In h
 G:h.Ns mainGlobals mg
section
variable {w:World}{mg:Str->Option Value}{h base:Heap}(e:Ev w mg h)
include e
theorem Bt:Bl mg:=⟨PySem.W.mg_none_of e.X e.G (by kernel_rfl),PySem.W.mg_none_of e.X e.G (by kernel_rfl),PySem.W.mg_none_of e.X e.G (by kernel_rfl),PySem.W.mg_none_of e.X e.G (by kernel_rfl),PySem.W.mg_none_of e.X e.G (by kernel_rfl),PySem.W.mg_none_of e.X e.G (by kernel_rfl),PySem.W.mg_none_of e.X e.G (by kernel_rfl),PySem.W.mg_none_of e.X e.G (by kernel_rfl),PySem.W.mg_none_of e.X e.G (by kernel_rfl),PySem.W.mg_none_of e.X e.G (by kernel_rfl),PySem.W.mg_none_of e.X e.G (by kernel_rfl),PySem.W.mg_none_of e.X e.G (by kernel_rfl)⟩
theorem Qt:Kl (KX w.params) mg:=⟨⟨⟨by kernel_rfl,by kernel_rfl,by kernel_rfl,by kernel_rfl⟩,PySem.W.mg_of e.X e.G (by kernel_rfl),by kernel_rfl,by kernel_rfl⟩,Hd.na (by kernel_rfl),Hd.na (by kernel_rfl),Hd.na (by kernel_rfl)⟩
theorem sv:bo (KX w.params) mg "is_number" "is_number" gM ["thing"] 21 (Hd.fd gM "is_number" "is_number" pV 20):=Hd.ox e.X e.G (by kernel_rfl) fun _ _ _ _ _ _ _=>rfl
theorem zg:a9 PW w (KX w.params) mg base ck 1 21 (Hd.fd gM "is_number" "is_number" pV 20) ["thing"] (cn oh):=by
 have B:=Bt e;have Q:=Qt e;exact bz (N:=kP) (sv e).fn xM (fun cdv A outer s H E hr=>(aC (aV (mf (df AQ (aa (dH.nm 0) (aa (Ay B.F5 rfl B_ (dH.d 0) (dH.g 0)) aj)) B.nc rfl lQ (dH.d 1) (dH.g 1)) (nF (LU (df AQ (aa (dH.nm 0) (aa (Ay B.H_ rfl G7 (dH.d 2) (dH.g 2)) aj)) B.nc rfl lQ (dH.d 1) (dH.g 1)))))))) yH
theorem sG:bo (KX w.params) mg "is_listed" "is_listed" gI ["thing"] 28 (Hd.fd gI "is_listed" "is_listed" pV 27):=Hd.ox e.X e.G (by kernel_rfl) fun _ _ _ _ _ _ _=>rfl
theorem za:a9 PW w (KX w.params) mg base ck 1 28 (Hd.fd gI "is_listed" "is_listed" pV 27) ["thing"] (cn nW):=by
 have B:=Bt e;have Q:=Qt e;exact bz (N:=kR) (sG e).fn yi (fun cdv A outer s H E hr=>(aC (aV (df AQ (aa (fH.nm 0) (aa (jL (aa (Ay B.nj rfl kD (fH.d 1) (fH.g 1)) (aa (Ay B.cX rfl cD (fH.d 0) (fH.g 0)) aj))) aj)) B.nc rfl lQ (fH.d 2) (fH.g 2))))) yS
theorem f_:bo (KX w.params) mg "is_listed_of" "is_listed_of" eS ["thing","many"] 35 (Hd.fd eS "is_listed_of" "is_listed_of" pV 34):=Hd.iV e.X e.G (by kernel_rfl) fun _ _ _ _ _ _ _ _=>rfl
theorem iz:a9 PW w (KX w.params) mg base ck 2 35 (Hd.fd eS "is_listed_of" "is_listed_of" pV 34) ["thing","many"] (cn eV):=by
 have B:=Bt e;have Q:=Qt e;exact bz (N:=iI) (f_ e).fn um (fun cdv A outer s H E hr=>(aC (aV (mf (aO (sG e) (za e) (hr.mono (by decide)) (aa (dU.nm 0) aj) (dU.d 0) (dU.g 0)) (nF (nV (jO hr) (bT _) (df d9 (aa (dU.nm 0) aj) B.d8 rfl dF (dU.d 1) (dU.g 1)) (dU.nm 1))))))) uo
theorem pW:bo (KX w.params) mg "are_numbers" "are_numbers" eF ["thing","many"] 40 (Hd.fd eF "are_numbers" "are_numbers" pV 39):=Hd.iV e.X e.G (by kernel_rfl) fun _ _ _ _ _ _ _ _=>rfl
theorem wq:a9 PW w (KX w.params) mg base ck 3 40 (Hd.fd eF "are_numbers" "are_numbers" pV 39) ["thing","many"] (cn lV):=by
 have B:=Bt e;have Q:=Qt e;exact bz (N:=i8) (pW e).fn vd (fun cdv A outer s H E hr=>(aC (aV (mf (aO (f_ e) (iz e) (hr.mono (by decide)) (aa (eB.nm 0) (aa (eB.nm 1) aj)) (eB.d 0) (eB.g 0)) (nF (df (wN rfl) (aa (fx (Nc:=["each"]) (bU.look (ai eF) ["thing","many"] (by decide+kernel)) (g4 (eB.nm 0)) (fun _ _ _ _=>(e_ (show(["each"]:List Str).Nodup by decide+kernel) (by first|exact Or.inl rfl|exact Or.inr rfl) (by first|exact .inl rfl|exact .inr rfl))) (fun _ _ _ _=>dy) (fun _ _ _ _=>(aO (sv e) (zg e) (hr.mono (by decide)) (aa eh aj) (by decide+kernel) rfl)) cU) aj) B.wI rfl uz (eB.d 1) (eB.g 1))))))) vm
theorem sY:bo (KX w.params) mg "common" "common" ke ["one","other"] 47 (Hd.fd ke "common" "common" gX 46):=Hd.iV e.X e.G (by kernel_rfl) fun _ _ _ _ _ _ _ _=>rfl
theorem yh:a9 PW w (KX w.params) mg base ck 1 47 (Hd.fd ke "common" "common" gX 46) ["one","other"] (cn o9):=by
 have B:=Bt e;have Q:=Qt e
 exact bz (N:=oY) (sY e).fn jw (fun cdv A outer s H E hr=>(av (aW jw.nd (cS.l 2) (df uq (aa (cS.nm 0) aj) B.uf rfl qD (cS.d 0) (cS.g 0)))
  (av (aW jw.nd (cS.l 3) (df uq (aa (cS.nm 1) aj) B.uf rfl qD (cS.d 0) (cS.g 0)))
  (av (xT (cT Ep (bT _) (cS.nm 3) au) (av (aW jw.nd (cS.l 4) (bK nD (cS.nm 2) (cS.nm 3)))
  (av (aW jw.nd (cS.l 2) (cS.nm 3))
  (aC (aW jw.nd (cS.l 3) (cS.nm 4))))))
  (aC (aV (cS.nm 2))))))) BG
theorem oB:bo (KX w.params) mg "part" "part" oK ["top","bottom"] 54 (Hd.fd oK "part" "part" gX 53):=Hd.iV e.X e.G (by kernel_rfl) fun _ _ _ _ _ _ _ _=>rfl
theorem qf:a9 PW w (KX w.params) mg base ck 2 54 (Hd.fd oK "part" "part" gX 53) ["top","bottom"] (cn m4):=by
 have B:=Bt e;have Q:=Qt e
 exact bz (N:=ug) (oB e).fn j_ (fun cdv A outer s H E hr=>(av (aW j_.nd (gy.l 2) (aO (sY e) (yh e) (hr.mono (by decide)) (aa (gy.nm 0) (aa (gy.nm 1) aj)) (gy.d 0) (gy.g 0)))
  (av (d_ (cT Ba (bT _) (gy.nm 1) au) (aC (aW j_.nd (gy.l 2) (jW (gy.nm 2)))) dE)
  (aC (aV (jL (aa (bK (oN hr rfl j_.gen j_.co) (gy.nm 0) (gy.nm 2)) (aa (bK (oN hr rfl j_.gen j_.co) (gy.nm 1) (gy.nm 2)) aj)))))))) Gg
theorem CC:bo (KX w.params) mg "plus" "plus" oH ["one","other"] 61 (Hd.fd oH "plus" "plus" gX 60):=Hd.iV e.X e.G (by kernel_rfl) fun _ _ _ _ _ _ _ _=>rfl
theorem JM:a9 PW w (KX w.params) mg base ck 3 61 (Hd.fd oH "plus" "plus" gX 60) ["one","other"] (cn yJ):=by
 have B:=Bt e;have Q:=Qt e;exact bz (N:=tP) (CC e).fn GJ (fun cdv A outer s H E hr=>(aC (aV (aO (oB e) (qf e) (hr.mono (by decide)) (aa (bK iu (bK d5 (aI (lD.nm 0) au) (aI (lD.nm 1) au)) (bK d5 (aI (lD.nm 1) au) (aI (lD.nm 0) au))) (aa (bK d5 (aI (lD.nm 0) au) (aI (lD.nm 1) au)) aj)) (lD.d 0) (lD.g 0))))) G8
theorem z_:bo (KX w.params) mg "minus" "minus" mJ ["one","other"] 68 (Hd.fd mJ "minus" "minus" gX 67):=Hd.iV e.X e.G (by kernel_rfl) fun _ _ _ _ _ _ _ _=>rfl
theorem GR:a9 PW w (KX w.params) mg base ck 3 68 (Hd.fd mJ "minus" "minus" gX 67) ["one","other"] (cn uO):=by
 have B:=Bt e;have Q:=Qt e;exact bz (N:=rE) (z_ e).fn Eu (fun cdv A outer s H E hr=>(aC (aV (aO (oB e) (qf e) (hr.mono (by decide)) (aa (bK wA (bK d5 (aI (jx.nm 0) au) (aI (jx.nm 1) au)) (bK d5 (aI (jx.nm 1) au) (aI (jx.nm 0) au))) (aa (bK d5 (aI (jx.nm 0) au) (aI (jx.nm 1) au)) aj)) (jx.d 0) (jx.g 0))))) Ey
theorem zX:bo (KX w.params) mg "times" "times" mN ["one","other"] 75 (Hd.fd mN "times" "times" gX 74):=Hd.iV e.X e.G (by kernel_rfl) fun _ _ _ _ _ _ _ _=>rfl
theorem Gy:a9 PW w (KX w.params) mg base ck 3 75 (Hd.fd mN "times" "times" gX 74) ["one","other"] (cn vj):=by
 have B:=Bt e;have Q:=Qt e;exact bz (N:=rS) (zX e).fn DW (fun cdv A outer s H E hr=>(aC (aV (aO (oB e) (qf e) (hr.mono (by decide)) (aa (bK d5 (aI (mO.nm 0) au) (aI (mO.nm 1) au)) (aa (bK d5 (aI (mO.nm 0) au) (aI (mO.nm 1) au)) aj)) (mO.d 0) (mO.g 0))))) EV
theorem Dx:bo (KX w.params) mg "over" "over" oz ["one","other"] 82 (Hd.fd oz "over" "over" gX 81):=Hd.iV e.X e.G (by kernel_rfl) fun _ _ _ _ _ _ _ _=>rfl
theorem I_:a9 PW w (KX w.params) mg base ck 3 82 (Hd.fd oz "over" "over" gX 81) ["one","other"] (cn x4):=by
 have B:=Bt e;have Q:=Qt e;exact bz (N:=tI) (Dx e).fn Ho (fun cdv A outer s H E hr=>(aC (aV (aO (oB e) (qf e) (hr.mono (by decide)) (aa (bK d5 (aI (oy.nm 0) au) (aI (oy.nm 1) au)) (aa (bK d5 (aI (oy.nm 0) au) (aI (oy.nm 1) au)) aj)) (oy.d 0) (oy.g 0))))) GV
theorem mQ:bo (KX w.params) mg "whole" "whole" mB ["n"] 89 (Hd.fd mB "whole" "whole" gX 88):=Hd.ox e.X e.G (by kernel_rfl) fun _ _ _ _ _ _ _=>rfl
theorem oO:a9 PW w (KX w.params) mg base ck 1 89 (Hd.fd mB "whole" "whole" gX 88) ["n"] (cn kj):=by
 have B:=Bt e;have Q:=Qt e;exact bz (N:=rl) (mQ e).fn EA (fun cdv A outer s H E hr=>(aC (aV (jL (aa (Gd.nm 0) (aa au aj)))))) ED
theorem vR:bo (KX w.params) mg "is_part" "is_part" jo ["thing"] 96 (Hd.fd jo "is_part" "is_part" gX 95):=Hd.ox e.X e.G (by kernel_rfl) fun _ _ _ _ _ _ _=>rfl
theorem Cd:a9 PW w (KX w.params) mg base ck 4 96 (Hd.fd jo "is_part" "is_part" gX 95) ["thing"] (cn qt):=by
 have B:=Bt e;have Q:=Qt e;exact bz (N:=nz) (vR e).fn Bd (fun cdv A outer s H E hr=>(aC (aV (mf (aO (pW e) (wq e) (hr.mono (by decide)) (aa (gg.nm 0) (aa au aj)) (gg.d 0) (gg.g 0)) (mf (nV Bb (bT _) (aI (gg.nm 0) au) au) (nF (nV (jO hr) (bT _) (aO (sY e) (yh e) (hr.mono (by decide)) (aa (aI (gg.nm 0) au) (aa (aI (gg.nm 0) au) aj)) (gg.d 1) (gg.g 1)) au))))))) Bp
theorem qp:bo (KX w.params) mg "as_rows" "as_rows" ib ["rows"] 101 (Hd.fd ib "as_rows" "as_rows" iO 100):=Hd.ox e.X e.G (by kernel_rfl) fun _ _ _ _ _ _ _=>rfl
theorem vT:a9 PW w (KX w.params) mg base ck 1 101 (Hd.fd ib "as_rows" "as_rows" iO 100) ["rows"] (cn nQ):=by
 have B:=Bt e;have Q:=Qt e;exact bz (N:=nB) (qp e).fn Aq (fun cdv A outer s H E hr=>(aC (aV (et c8 (aa (fx (Nc:=["row"]) (bU.look (ai ib) ["rows"] (by decide+kernel)) (g4 (qK.nm 0)) (fun _ _ _ _=>(e_ (show(["row"]:List Str).Nodup by decide+kernel) (by first|exact Or.inl rfl|exact Or.inr rfl) (by first|exact .inl rfl|exact .inr rfl))) (fun _ _ _ _=>dy) (fun _ _ _ _=>(et c8 (aa eh aj) B.cX rfl cD (by decide+kernel) rfl)) cU) aj) B.cX rfl cD (qK.d 0) (qK.g 0))))) Ad
theorem mI:bo (KX w.params) mg "added" "added" ky ["row","times","other"] 106 (Hd.fd ky "added" "added" iO 105):=Hd.w6 e.X e.G (by kernel_rfl) fun _ _ _ _ _ _ _ _ _=>rfl
theorem oR:a9 PW w (KX w.params) mg base ck 1 106 (Hd.fd ky "added" "added" iO 105) ["row","times","other"] (cn j9):=by
 have B:=Bt e;have Q:=Qt e;exact bz (N:=rK) (mI e).fn E6 (fun cdv A outer s H E hr=>(aC (aV (fx (Nc:=["one","two","times"]) (bU.look (ai ky) ["row","times","other"] (by decide+kernel)) (AR (vi.g 0) B.A8 (aa (vi.nm 0) (aa (vi.nm 2) aj))) (fun _ _ _ _=>(wM rfl (show(["one","two","times"]:List Str).Nodup by decide+kernel) (by first|exact Or.inl rfl|exact Or.inr rfl) (by first|exact .inl rfl|exact .inr rfl) (by first|exact Or.inl rfl|exact Or.inr rfl) (by first|exact .inl rfl|exact .inr rfl))) (fun _ _ _ _=>dy) (fun _ _ _ _=>(bK iu eh (bK d5 eh eh))) GN)))) En
theorem kn:bo (KX w.params) mg "sum_by" "sum_by" kK ["weights","rows","wide"] 113 (Hd.fd kK "sum_by" "sum_by" iO 112):=Hd.w6 e.X e.G (by kernel_rfl) fun _ _ _ _ _ _ _ _ _=>rfl
theorem m6:a9 PW w (KX w.params) mg base ck 2 113 (Hd.fd kK "sum_by" "sum_by" iO 112) ["weights","rows","wide"] (cn i9):=by
 have B:=Bt e;have Q:=Qt e
 exact bz (N:=pD) (kn e).fn nL (fun cdv A outer s H E hr=>(av (aW nL.nd (dO.l 3) (bK d5 (wy (aa au aj)) (dO.nm 2)))
  (av (jX (AR (dO.g 0) B.A8 (aa (dO.nm 0) (aa (dO.nm 1) aj))) (wM rfl nL.nd (by first|exact Or.inl rfl|exact Or.inr rfl) (by first|exact .inl rfl|exact .inr rfl) (by first|exact Or.inl rfl|exact Or.inr rfl) (by first|exact .inl rfl|exact .inr rfl)) (aC (aW nL.nd (dO.l 3) (aO (mI e) (oR e) (hr.mono (by decide)) (aa (dO.nm 3) (aa (dO.nm 4) (aa (dO.nm 5) aj))) (dO.d 1) (dO.g 1)))))
  (aC (aV (et c8 (aa (dO.nm 3) aj) B.cX rfl cD (dO.d 2) (dO.g 2))))))) BE
theorem xq:bo (KX w.params) mg "column" "column" i_ ["rows","place"] 123 (Hd.fd i_ "column" "column" iO 122):=Hd.iV e.X e.G (by kernel_rfl) fun _ _ _ _ _ _ _ _=>rfl
theorem D9:a9 PW w (KX w.params) mg base ck 1 123 (Hd.fd i_ "column" "column" iO 122) ["rows","place"] (cn tF):=by
 have B:=Bt e;have Q:=Qt e;exact bz (N:=o4) (xq e).fn Dj (fun cdv A outer s H E hr=>(aC (aV (et c8 (aa (fx (Nc:=["row","place"]) (bU.look (ai i_) ["rows","place"] (by decide+kernel)) (g4 (sO.nm 0)) (fun _ _ _ _=>(e_ (show(["row","place"]:List Str).Nodup by decide+kernel) (by first|exact Or.inl rfl|exact Or.inr rfl) (by first|exact .inl rfl|exact .inr rfl))) (fun _ _ _ _=>dy) (fun _ _ _ _=>(aI eh eh)) cU) aj) B.cX rfl cD (sO.d 0) (sO.g 0))))) BO
theorem gz:bo (KX w.params) mg "turned_over" "turned_over" eC ["rows","wide"] 128 (Hd.fd eC "turned_over" "turned_over" iO 127):=Hd.iV e.X e.G (by kernel_rfl) fun _ _ _ _ _ _ _ _=>rfl
theorem i5:a9 PW w (KX w.params) mg base ck 2 128 (Hd.fd eC "turned_over" "turned_over" iO 127) ["rows","wide"] (cn ft):=by
 have B:=Bt e;have Q:=Qt e;exact bz (N:=iY) (gz e).fn uT (fun cdv A outer s H E hr=>(aC (aV (et c8 (aa (fx (Nc:=["place","rows"]) (bU.look (ai eC) ["rows","wide"] (by decide+kernel)) (je (i6.g 0) B.iB (aa (i6.nm 1) aj)) (fun _ _ _ _=>(e_ (show(["place","rows"]:List Str).Nodup by decide+kernel) (by first|exact Or.inl rfl|exact Or.inr rfl) (by first|exact .inl rfl|exact .inr rfl))) (fun _ _ _ _=>dy) (fun _ _ _ _=>(aO (xq e) (D9 e) (hr.mono (by decide)) (aa eh (aa eh aj)) (by decide+kernel) rfl)) cU) aj) B.cX rfl cD (i6.d 1) (i6.g 1))))) vq
theorem tS:bo (KX w.params) mg "unit_row" "unit_row" gp ["n","place"] 133 (Hd.fd gp "unit_row" "unit_row" iO 132):=Hd.iV e.X e.G (by kernel_rfl) fun _ _ _ _ _ _ _ _=>rfl
theorem Bv:a9 PW w (KX w.params) mg base ck 1 133 (Hd.fd gp "unit_row" "unit_row" iO 132) ["n","place"] (cn pQ):=by
 have B:=Bt e;have Q:=Qt e;exact bz (N:=mj) (tS e).fn y9 (fun cdv A outer s H E hr=>(aC (aV (et c8 (aa (fx (Nc:=["k","place"]) (bU.look (ai gp) ["n","place"] (by decide+kernel)) (je (mw.g 0) B.iB (aa (mw.nm 0) aj)) (fun _ _ _ _=>(e_ (show(["k","place"]:List Str).Nodup by decide+kernel) (by first|exact Or.inl rfl|exact Or.inr rfl) (by first|exact .inl rfl|exact .inr rfl))) (fun _ _ _ _=>dy) (fun _ _ _ _=>(Fe (cT (jO hr) (bT _) eh eh) au au)) cU) aj) B.cX rfl cD (mw.d 1) (mw.g 1))))) yW
theorem oj:bo (KX w.params) mg "unit_rows" "unit_rows" fI ["n"] 138 (Hd.fd fI "unit_rows" "unit_rows" iO 137):=Hd.ox e.X e.G (by kernel_rfl) fun _ _ _ _ _ _ _=>rfl
theorem sr:a9 PW w (KX w.params) mg base ck 2 138 (Hd.fd fI "unit_rows" "unit_rows" iO 137) ["n"] (cn k9):=by
 have B:=Bt e;have Q:=Qt e;exact bz (N:=k6) (oj e).fn xn (fun cdv A outer s H E hr=>(aC (aV (et c8 (aa (fx (Nc:=["place","n"]) (bU.look (ai fI) ["n"] (by decide+kernel)) (je (kQ.g 0) B.iB (aa (kQ.nm 0) aj)) (fun _ _ _ _=>(e_ (show(["place","n"]:List Str).Nodup by decide+kernel) (by first|exact Or.inl rfl|exact Or.inr rfl) (by first|exact .inl rfl|exact .inr rfl))) (fun _ _ _ _=>dy) (fun _ _ _ _=>(aO (tS e) (Bv e) (hr.mono (by decide)) (aa eh (aa eh aj)) (by decide+kernel) rfl)) cU) aj) B.cX rfl cD (kQ.d 1) (kQ.g 1))))) xj
theorem h_:bo (KX w.params) mg "lead_of" "lead_of" jm ["row"] 169 (Hd.fd jm "lead_of" "lead_of" dm 168):=Hd.ox e.X e.G (by kernel_rfl) fun _ _ _ _ _ _ _=>rfl
theorem jr:a9 PW w (KX w.params) mg base ck 1 169 (Hd.fd jm "lead_of" "lead_of" dm 168) ["row"] (cn gf):=by
 have B:=Bt e;have Q:=Qt e
 exact bz (N:=nE) (h_ e).fn ur (fun cdv A outer s H E hr=>(av (jX (J9 (nU.g 0) B.y6 (aa (nU.nm 0) aj)) (wM rfl ur.nd (by first|exact Or.inl rfl|exact Or.inr rfl) (by first|exact .inl rfl|exact .inr rfl) (by first|exact Or.inl rfl|exact Or.inr rfl) (by first|exact .inl rfl|exact .inr rfl)) (aC (d_ (cT Ep (bT _) (nU.nm 2) au) (aC (aV (nU.nm 1))) dE)))
  (aC (aV AM)))) Ao
theorem lK:bo (KX w.params) mg "nearest_quotient" "nearest_quotient" dz ["top","bottom"] 186 (Hd.fd dz "nearest_quotient" "nearest_quotient" dm 185):=Hd.iV e.X e.G (by kernel_rfl) fun _ _ _ _ _ _ _ _=>rfl
theorem qG:a9 PW w (KX w.params) mg base ck 1 186 (Hd.fd dz "nearest_quotient" "nearest_quotient" dm 185) ["top","bottom"] (cn h8):=by
 have B:=Bt e;have Q:=Qt e;exact bz (N:=fD) (lK e).fn gS (fun cdv A outer s H E hr=>(aC (aV (bK (oN hr rfl gS.gen gS.co) (bK iu (bK d5 au (g_.nm 0)) (g_.nm 1)) (bK d5 au (g_.nm 1)))))) p7
theorem kU:bo (KX w.params) mg "exchanged" "exchanged" gH ["rows","k","other"] 193 (Hd.fd gH "exchanged" "exchanged" dm 192):=Hd.w6 e.X e.G (by kernel_rfl) fun _ _ _ _ _ _ _ _ _=>rfl
theorem om:a9 PW w (KX w.params) mg base ck 1 193 (Hd.fd gH "exchanged" "exchanged" dm 192) ["rows","k","other"] (cn iP):=by
 have B:=Bt e;have Q:=Qt e
 exact bz (N:=kW) (kU e).fn qm (fun cdv A outer s H E hr=>(av (aW qm.nd (cF.l 3) (et zM (aa (cF.nm 0) aj) B.nj rfl kD (cF.d 0) (cF.g 0)))
  (av (dY (aI (cF.nm 0) (cF.nm 2)) (cF.nm 3) (cF.nm 1))
  (av (dY (aI (cF.nm 0) (cF.nm 1)) (cF.nm 3) (cF.nm 2))
  (aC (aV (cF.nm 3))))))) yE
theorem nH:bo (KX w.params) mg "negated" "negated" ig ["row"] 198 (Hd.fd ig "negated" "negated" dm 197):=Hd.ox e.X e.G (by kernel_rfl) fun _ _ _ _ _ _ _=>rfl
theorem qb:a9 PW w (KX w.params) mg base ck 1 198 (Hd.fd ig "negated" "negated" dm 197) ["row"] (cn lz):=by
 have B:=Bt e;have Q:=Qt e;exact bz (N:=nO) (nH e).fn Bu (fun cdv A outer s H E hr=>(aC (aV (fx (Nc:=["number"]) (bU.look (ai ig) ["row"] (by decide+kernel)) (g4 (CG.nm 0)) (fun _ _ _ _=>(e_ (show(["number"]:List Str).Nodup by decide+kernel) (by first|exact Or.inl rfl|exact Or.inr rfl) (by first|exact .inl rfl|exact .inr rfl))) (fun _ _ _ _=>dy) (fun _ _ _ _=>(jW eh)) cU)))) Bg
theorem gw:MethAt (KX w.params) aA "__init__" "Bench.__init__" cB ["self","rows"] 210 (Hd.fd cB "__init__" "Bench.__init__" dm 209):=Hd.Mu (by kernel_rfl) fun _ _ _ _ _ _ _ _=>rfl
theorem tx:a9 PW w (KX w.params) mg base ck 3 210 (Hd.fd cB "__init__" "Bench.__init__" dm 209) ["self","rows"] (cn jg):=by
 have B:=Bt e;have Q:=Qt e
 exact bz (N:=gq) (gw e).fn r_ (fun cdv A outer s H E hr=>(av (mH Q.aX.cl Q.bO (bC.nm 0) (uY (Nc:=["row"]) (bU.look (ai cB) ["self","rows"] (by decide+kernel)) (g4 (bC.nm 1)) (fun _ _ _ _=>(e_ (show(["row"]:List Str).Nodup by decide+kernel) (by first|exact Or.inl rfl|exact Or.inr rfl) (by first|exact .inl rfl|exact .inr rfl))) (fun _ _ _ _=>dy) (fun _ _ _ _=>(et uy (aa eh aj) B.nj rfl kD (by decide+kernel) rfl)) cU))
  (av (mH Q.aX.cl Q.dM (bC.nm 0) (uY (Nc:=["row"]) (bU.look (ai cB) ["self","rows"] (by decide+kernel)) (g4 (aO (oj e) (sr e) (hr.mono (by decide)) (aa (df d9 (aa (bC.nm 1) aj) B.d8 rfl dF (bC.d 0) (bC.g 0)) aj) (bC.d 1) (bC.g 1))) (fun _ _ _ _=>(e_ (show(["row"]:List Str).Nodup by decide+kernel) (by first|exact Or.inl rfl|exact Or.inr rfl) (by first|exact .inl rfl|exact .inr rfl))) (fun _ _ _ _=>dy) (fun _ _ _ _=>(et uy (aa eh aj) B.nj rfl kD (by decide+kernel) rfl)) cU))
  (aC (mH Q.aX.cl Q.bX (bC.nm 0) (uY (Nc:=["row"]) (bU.look (ai cB) ["self","rows"] (by decide+kernel)) (g4 (aO (oj e) (sr e) (hr.mono (by decide)) (aa (df d9 (aa (bC.nm 1) aj) B.d8 rfl dF (bC.d 0) (bC.g 0)) aj) (bC.d 1) (bC.g 1))) (fun _ _ _ _=>(e_ (show(["row"]:List Str).Nodup by decide+kernel) (by first|exact Or.inl rfl|exact Or.inr rfl) (by first|exact .inl rfl|exact .inr rfl))) (fun _ _ _ _=>dy) (fun _ _ _ _=>(et uy (aa eh aj) B.nj rfl kD (by decide+kernel) rfl)) cU)))))) rY
theorem ik:MethAt (KX w.params) aA "take" "Bench.take" fU ["self","k","times","other"] 217 (Hd.fd fU "take" "Bench.take" dm 216):=Hd.N3 (by kernel_rfl) fun _ _ _ _ _ _ _ _ _ _=>rfl
theorem qM:a9 PW w (KX w.params) mg base ck 2 217 (Hd.fd fU "take" "Bench.take" dm 216) ["self","k","times","other"] (cn j0):=by
 have B:=Bt e;have Q:=Qt e
 exact bz (N:=jY) (ik e).fn wm (fun cdv A outer s H E hr=>(av (dY (aO (mI e) (oR e) (hr.mono (by decide)) (aa (aI (cL Q.aX.cl Q.bO (aU.nm 0)) (aU.nm 1)) (aa (jW (aU.nm 2)) (aa (aI (cL Q.aX.cl Q.bO (aU.nm 0)) (aU.nm 3)) aj))) (aU.d 0) (aU.g 0)) (cL Q.aX.cl Q.bO (aU.nm 0)) (aU.nm 1))
  (av (dY (aO (mI e) (oR e) (hr.mono (by decide)) (aa (aI (cL Q.aX.cl Q.dM (aU.nm 0)) (aU.nm 1)) (aa (jW (aU.nm 2)) (aa (aI (cL Q.aX.cl Q.dM (aU.nm 0)) (aU.nm 3)) aj))) (aU.d 0) (aU.g 0)) (cL Q.aX.cl Q.dM (aU.nm 0)) (aU.nm 1))
  (aC (dY (aO (mI e) (oR e) (hr.mono (by decide)) (aa (aI (cL Q.aX.cl Q.bX (aU.nm 0)) (aU.nm 3)) (aa (aU.nm 2) (aa (aI (cL Q.aX.cl Q.bX (aU.nm 0)) (aU.nm 1)) aj))) (aU.d 0) (aU.g 0)) (cL Q.aX.cl Q.bX (aU.nm 0)) (aU.nm 3)))))) wx
theorem jd:MethAt (KX w.params) aA "exchange" "Bench.exchange" dS ["self","k","other"] 224 (Hd.fd dS "exchange" "Bench.exchange" dm 223):=Hd.F4 (by kernel_rfl) fun _ _ _ _ _ _ _ _ _=>rfl
theorem sU:a9 PW w (KX w.params) mg base ck 2 224 (Hd.fd dS "exchange" "Bench.exchange" dm 223) ["self","k","other"] (cn ji):=by
 have B:=Bt e;have Q:=Qt e
 exact bz (N:=gj) (jd e).fn rX (fun cdv A outer s H E hr=>(av (mH Q.aX.cl Q.bO (a6.nm 0) (aO (kU e) (om e) (hr.mono (by decide)) (aa (cL Q.aX.cl Q.bO (a6.nm 0)) (aa (a6.nm 1) (aa (a6.nm 2) aj))) (a6.d 0) (a6.g 0)))
  (av (mH Q.aX.cl Q.dM (a6.nm 0) (aO (kU e) (om e) (hr.mono (by decide)) (aa (cL Q.aX.cl Q.dM (a6.nm 0)) (aa (a6.nm 1) (aa (a6.nm 2) aj))) (a6.d 0) (a6.g 0)))
  (aC (mH Q.aX.cl Q.bX (a6.nm 0) (aO (kU e) (om e) (hr.mono (by decide)) (aa (cL Q.aX.cl Q.bX (a6.nm 0)) (aa (a6.nm 1) (aa (a6.nm 2) aj))) (a6.d 0) (a6.g 0))))))) r8
theorem gO:MethAt (KX w.params) aA "change_sign" "Bench.change_sign" c_ ["self","k"] 231 (Hd.fd c_ "change_sign" "Bench.change_sign" dm 230):=Hd.Mu (by kernel_rfl) fun _ _ _ _ _ _ _ _=>rfl
theorem p8:a9 PW w (KX w.params) mg base ck 2 231 (Hd.fd c_ "change_sign" "Bench.change_sign" dm 230) ["self","k"] (cn gQ):=by
 have B:=Bt e;have Q:=Qt e
 exact bz (N:=fg) (gO e).fn pv (fun cdv A outer s H E hr=>(av (dY (aO (nH e) (qb e) (hr.mono (by decide)) (aa (aI (cL Q.aX.cl Q.bO (aQ.nm 0)) (aQ.nm 1)) aj) (aQ.d 0) (aQ.g 0)) (cL Q.aX.cl Q.bO (aQ.nm 0)) (aQ.nm 1))
  (av (dY (aO (nH e) (qb e) (hr.mono (by decide)) (aa (aI (cL Q.aX.cl Q.dM (aQ.nm 0)) (aQ.nm 1)) aj) (aQ.d 0) (aQ.g 0)) (cL Q.aX.cl Q.dM (aQ.nm 0)) (aQ.nm 1))
  (aC (dY (aO (nH e) (qb e) (hr.mono (by decide)) (aa (aI (cL Q.aX.cl Q.bX (aQ.nm 0)) (aQ.nm 1)) aj) (aQ.d 0) (aQ.g 0)) (cL Q.aX.cl Q.bX (aQ.nm 0)) (aQ.nm 1)))))) pk
theorem fR:MethAt (KX w.params) aA "live_rows" "Bench.live_rows" cG ["self","top","place"] 236 (Hd.fd cG "live_rows" "Bench.live_rows" dm 235):=Hd.F4 (by kernel_rfl) fun _ _ _ _ _ _ _ _ _=>rfl
theorem lX:a9 PW w (KX w.params) mg base ck 3 236 (Hd.fd cG "live_rows" "Bench.live_rows" dm 235) ["self","top","place"] (cn fS):=by
 have B:=Bt e;have Q:=Qt e;have hC:PySem.W.codeHdIn (KX w.params) 235 233=true:=by kernel_rfl
 exact JN (N:=fQ) (Hd.fc (by kernel_rfl)) lh (fun A outer s H E hr=>(av (Gx lh.nd (cH.l 3) (Nc:=["k","self","place"]) (bU.look (ai cG) ["self","top","place","live"] (by decide+kernel)) (El (cH.g 1) B.iB (aa (cH.nm 1) (aa (df d9 (aa (cL Q.aX.cl Q.bO (cH.nm 0)) aj) B.d8 rfl dF (cH.d 0) (cH.g 0)) aj))) (fun _ _ _ _=>(e_ (show(["k","self","place"]:List Str).Nodup by decide+kernel) (by first|exact Or.inl rfl|exact Or.inr rfl) (by first|exact .inl rfl|exact .inr rfl))) (fun _ _ _ _=>(Kc (cT Ep (bT _) (aI (aI (cL Q.aX.cl Q.bO eh) eh) eh) au))) (fun _ _ _ _=>eh) cU)
  (aC (aV (GU (c0:=235) (my.look (Nc:=["k","self","place"]) (fr:=[none,some 0,some 2]) (p:="k") (bU.look (ai cG) ["self","top","place","live"] (by decide+kernel))) rfl hr rfl hC (fun _ _ _ _=>(df uq (aa (aI (aI (cL Q.aX.cl Q.bO eh) eh) eh) aj) B.uf rfl qD (by decide+kernel) rfl)) (cH.nm 3) (cH.g 2) B.DR))))) qC
theorem kF:MethAt (KX w.params) aA "gather" "Bench.gather" eZ ["self","top","place"] 243 (Hd.fd eZ "gather" "Bench.gather" dm 242):=Hd.F4 (by kernel_rfl) fun _ _ _ _ _ _ _ _ _=>rfl
theorem uP:a9 PW w (KX w.params) mg base ck 4 243 (Hd.fd eZ "gather" "Bench.gather" dm 242) ["self","top","place"] (cn kc):=by
 have B:=Bt e;have Q:=Qt e
 exact bz (N:=iG) (kF e).fn fw (fun cdv A outer s H E hr=>(av (aW fw.nd (az.l 3) (lH (az.nm 0) Q.aX.cl (fR e).me (lX e) (hr.mono (by decide)) (fR e).bd (aa (az.nm 1) (aa (az.nm 2) aj))))
  (av (xT (cT Bb (bT _) (df d9 (aa (az.nm 3) aj) B.d8 rfl dF (az.d 0) (az.g 0)) au) (av (aW fw.nd (az.l 4) (aI (az.nm 3) (jW au)))
  (av (aW fw.nd (az.l 5) (aI (az.nm 3) (jW au)))
  (av (kE (lH (az.nm 0) Q.aX.cl (ik e).me (qM e) (hr.mono (by decide)) (ik e).bd (aa (az.nm 4) (aa (aO (lK e) (qG e) (hr.mono (by decide)) (aa (aI (aI (cL Q.aX.cl Q.bO (az.nm 0)) (az.nm 4)) (az.nm 2)) (aa (aI (aI (cL Q.aX.cl Q.bO (az.nm 0)) (az.nm 5)) (az.nm 2)) aj)) (az.d 1) (az.g 1)) (aa (az.nm 5) aj)))))
  (aC (aW fw.nd (az.l 3) (lH (az.nm 0) Q.aX.cl (fR e).me (lX e) (hr.mono (by decide)) (fR e).bd (aa (az.nm 1) (aa (az.nm 2) aj)))))))))
  (av (d_ (cT (jO hr) (bT _) (df d9 (aa (az.nm 3) aj) B.d8 rfl dF (az.d 0) (az.g 0)) au) (aC (aV vo)) dE)
  (av (kE (lH (az.nm 0) Q.aX.cl (jd e).me (sU e) (hr.mono (by decide)) (jd e).bd (aa (az.nm 1) (aa (aI (az.nm 3) au) aj))))
  (av (d_ (cT Ba (bT _) (aI (aI (cL Q.aX.cl Q.bO (az.nm 0)) (az.nm 1)) (az.nm 2)) au) (aC (kE (lH (az.nm 0) Q.aX.cl (gO e).me (p8 e) (hr.mono (by decide)) (gO e).bd (aa (az.nm 1) aj)))) dE)
  (aC (aV vo)))))))) uH
theorem gR:MethAt (KX w.params) aA "lower_above" "Bench.lower_above" de ["self","top","place"] 250 (Hd.fd de "lower_above" "Bench.lower_above" dm 249):=Hd.F4 (by kernel_rfl) fun _ _ _ _ _ _ _ _ _=>rfl
theorem p_:a9 PW w (KX w.params) mg base ck 3 250 (Hd.fd de "lower_above" "Bench.lower_above" dm 249) ["self","top","place"] (cn gN):=by
 have B:=Bt e;have Q:=Qt e;exact bz (N:=fh) (gR e).fn eJ (fun cdv A outer s H E hr=>(aC (jX (je (bH.g 0) B.iB (aa (bH.nm 1) aj)) (e_ eJ.nd (by first|exact Or.inl rfl|exact Or.inr rfl) (by first|exact .inl rfl|exact .inr rfl)) (aC (kE (lH (bH.nm 0) Q.aX.cl (ik e).me (qM e) (hr.mono (by decide)) (ik e).bd (aa (bH.nm 3) (aa (bK (oN hr rfl eJ.gen eJ.co) (aI (aI (cL Q.aX.cl Q.bO (bH.nm 0)) (bH.nm 3)) (bH.nm 2)) (aI (aI (cL Q.aX.cl Q.bO (bH.nm 0)) (bH.nm 1)) (bH.nm 2))) (aa (bH.nm 1) aj))))))))) pR
theorem mr:bo (KX w.params) mg "standing" "standing" iy ["rows"] 264 (Hd.fd iy "standing" "standing" dm 263):=Hd.ox e.X e.G (by kernel_rfl) fun _ _ _ _ _ _ _=>rfl
theorem pf:a9 PW w (KX w.params) mg base ck 5 264 (Hd.fd iy "standing" "standing" dm 263) ["rows"] (cn jB):=by
 have B:=Bt e;have Q:=Qt e
 exact bz (N:=l_) (mr e).fn gG (fun cdv A outer s H E hr=>(av (aW gG.nd (aZ.l 1) (JL ⟨Q.aX.N5,(gw e).me.at_,(gw e).me.fn,Q.aX.kp⟩ (tx e) (hr.mono (by decide)) (aZ.g 0) Q.aX.mg (gw e).bd (aa (aZ.nm 0) aj) (aZ.d 0)))
  (av (aW gG.nd (aZ.l 2) au)
  (av (jX (je (aZ.g 2) B.iB (aa (df d9 (aa (aI (aZ.nm 0) au) aj) B.d8 rfl dF (aZ.d 1) (aZ.g 1)) aj)) (e_ gG.nd (by first|exact Or.inl rfl|exact Or.inr rfl) (by first|exact .inl rfl|exact .inr rfl)) (aC (d_ (qh (lH (aZ.nm 1) Q.aX.cl (kF e).me (uP e) (hr.mono (by decide)) (kF e).bd (aa (aZ.nm 2) (aa (aZ.nm 3) aj)))) (av (kE (lH (aZ.nm 1) Q.aX.cl (gR e).me (p_ e) (hr.mono (by decide)) (gR e).bd (aa (aZ.nm 2) (aa (aZ.nm 3) aj))))
  (aC (Km gG.nd (aZ.l 2) au H0))) dE)))
  (av (aW gG.nd (aZ.l 4) (aO (gz e) (i5 e) (hr.mono (by decide)) (aa (cL Q.aX.cl Q.bX (aZ.nm 1)) (aa (df d9 (aa (aZ.nm 0) aj) B.d8 rfl dF (aZ.d 1) (aZ.g 1)) aj)) (aZ.d 3) (aZ.g 3)))
  (aC (aV (jL (aa (aO (qp e) (vT e) (hr.mono (by decide)) (aa (oA (cL Q.aX.cl Q.bO (aZ.nm 1)) oU (oF (aZ.nm 2))) aj) (aZ.d 4) (aZ.g 4)) (aa (aO (qp e) (vT e) (hr.mono (by decide)) (aa (cL Q.aX.cl Q.dM (aZ.nm 1)) aj) (aZ.d 4) (aZ.g 4)) (aa (aZ.nm 4) aj))))))))))) zf
theorem nI:bo (KX w.params) mg "weighed" "weighed" jl ["form","row"] 271 (Hd.fd jl "weighed" "weighed" dm 270):=Hd.iV e.X e.G (by kernel_rfl) fun _ _ _ _ _ _ _ _=>rfl
theorem qW:a9 PW w (KX w.params) mg base ck 2 271 (Hd.fd jl "weighed" "weighed" dm 270) ["form","row"] (cn lb):=by
 have B:=Bt e;have Q:=Qt e
 exact bz (N:=nA) (nI e).fn eQ (fun cdv A outer s H E hr=>(av (aW eQ.nd (ba.l 2) (Ar aj))
  (av (aW eQ.nd (ba.l 3) (et uy (aa (ba.nm 1) aj) B.nj rfl kD (ba.d 0) (ba.g 0)))
  (av (jX (g4 (ba.nm 0)) (e_ eQ.nd (by first|exact Or.inl rfl|exact Or.inr rfl) (by first|exact .inl rfl|exact .inr rfl)) (av (aW eQ.nd (ba.l 5) (aO (h_ e) (jr e) (hr.mono (by decide)) (aa (ba.nm 4) aj) (ba.d 1) (ba.g 1)))
  (av (aW eQ.nd (ba.l 6) (bK (oN hr rfl eQ.gen eQ.co) (aI (ba.nm 3) (ba.nm 5)) (aI (ba.nm 4) (ba.nm 5))))
  (av (kE (vO (ba.nm 2) (ba.nm 6)))
  (aC (aW eQ.nd (ba.l 3) (aO (mI e) (oR e) (hr.mono (by decide)) (aa (ba.nm 3) (aa (jW (ba.nm 6)) (aa (ba.nm 4) aj))) (ba.d 2) (ba.g 2))))))))
  (aC (aV (jL (aa (et c8 (aa (ba.nm 2) aj) B.cX rfl cD (ba.d 3) (ba.g 3)) (aa (et c8 (aa (ba.nm 3) aj) B.cX rfl cD (ba.d 3) (ba.g 3)) aj))))))))) Ag
theorem uZ:bo (KX w.params) mg "falls" "falls" mL ["form","row"] 278 (Hd.fd mL "falls" "falls" dm 277):=Hd.iV e.X e.G (by kernel_rfl) fun _ _ _ _ _ _ _ _=>rfl
theorem zL:a9 PW w (KX w.params) mg base ck 3 278 (Hd.fd mL "falls" "falls" dm 277) ["form","row"] (cn rq):=by
 have B:=Bt e;have Q:=Qt e;exact bz (N:=rM) (uZ e).fn EC (fun cdv A outer s H E hr=>(aC (aV (aI (aO (nI e) (qW e) (hr.mono (by decide)) (aa (rp.nm 0) (aa (rp.nm 1) aj)) (rp.d 0) (rp.g 0)) au)))) ES
theorem kO:bo (KX w.params) mg "parts_dot" "parts_dot" gK ["parts","row"] 285 (Hd.fd gK "parts_dot" "parts_dot" gT 284):=Hd.iV e.X e.G (by kernel_rfl) fun _ _ _ _ _ _ _ _=>rfl
theorem nY:a9 PW w (KX w.params) mg base ck 4 285 (Hd.fd gK "parts_dot" "parts_dot" gT 284) ["parts","row"] (cn iQ):=by
 have B:=Bt e;have Q:=Qt e
 exact bz (N:=k_) (kO e).fn jK (fun cdv A outer s H E hr=>(av (aW jK.nd (bY.l 2) (aO (mQ e) (oO e) (hr.mono (by decide)) (aa au aj) (bY.d 0) (bY.g 0)))
  (av (jX (AR (bY.g 1) B.A8 (aa (bY.nm 0) (aa (bY.nm 1) aj))) (wM rfl jK.nd (by first|exact Or.inl rfl|exact Or.inr rfl) (by first|exact .inl rfl|exact .inr rfl) (by first|exact Or.inl rfl|exact Or.inr rfl) (by first|exact .inl rfl|exact .inr rfl)) (aC (aW jK.nd (bY.l 2) (aO (CC e) (JM e) (hr.mono (by decide)) (aa (bY.nm 2) (aa (aO (zX e) (Gy e) (hr.mono (by decide)) (aa (bY.nm 3) (aa (aO (mQ e) (oO e) (hr.mono (by decide)) (aa (bY.nm 4) aj) (bY.d 0) (bY.g 0)) aj)) (bY.d 2) (bY.g 2)) aj)) (bY.d 3) (bY.g 3)))))
  (aC (aV (bY.nm 2)))))) yx
theorem sy:bo (KX w.params) mg "bottom_at" "bottom_at" gL ["form","rest","place"] 292 (Hd.fd gL "bottom_at" "bottom_at" gT 291):=Hd.w6 e.X e.G (by kernel_rfl) fun _ _ _ _ _ _ _ _ _=>rfl
theorem yX:a9 PW w (KX w.params) mg base ck 2 292 (Hd.fd gL "bottom_at" "bottom_at" gT 291) ["form","rest","place"] (cn n_):=by
 have B:=Bt e;have Q:=Qt e
 exact bz (N:=kM) (sy e).fn qO (fun cdv A outer s H E hr=>(av (jX (g4 (dh.nm 0)) (e_ qO.nd (by first|exact Or.inl rfl|exact Or.inr rfl) (by first|exact .inl rfl|exact .inr rfl)) (aC (d_ (cT (jO hr) (bT _) (aO (h_ e) (jr e) (hr.mono (by decide)) (aa (dh.nm 3) aj) (dh.d 0) (dh.g 0)) (dh.nm 2)) (aC (aV (aI (dh.nm 3) (dh.nm 2)))) dE)))
  (aC (aV (bK d5 au (df uq (aa (aI (dh.nm 1) (dh.nm 2)) aj) B.uf rfl qD (dh.d 1) (dh.g 1))))))) yN
theorem jF:bo (KX w.params) mg "parts_against" "parts_against" ef ["form","rest"] 299 (Hd.fd ef "parts_against" "parts_against" gT 298):=Hd.iV e.X e.G (by kernel_rfl) fun _ _ _ _ _ _ _ _=>rfl
theorem nG:a9 PW w (KX w.params) mg base ck 5 299 (Hd.fd ef "parts_against" "parts_against" gT 298) ["form","rest"] (cn g0):=by
 have B:=Bt e;have Q:=Qt e
 exact bz (N:=g7) (jF e).fn dX (fun cdv A outer s H E hr=>(av (aW dX.nd (ak.l 2) (aO (h_ e) (jr e) (hr.mono (by decide)) (aa (ak.nm 1) aj) (ak.d 0) (ak.g 0)))
  (av (aW dX.nd (ak.l 3) (bK II (wy (aa (aO (mQ e) (oO e) (hr.mono (by decide)) (aa au aj) (ak.d 1) (ak.g 1)) aj)) (df d9 (aa (ak.nm 1) aj) B.d8 rfl dF (ak.d 2) (ak.g 2))))
  (av (dY (aO (oB e) (qf e) (hr.mono (by decide)) (aa au (aa (aO (sy e) (yX e) (hr.mono (by decide)) (aa (ak.nm 0) (aa (ak.nm 1) (aa (ak.nm 2) aj))) (ak.d 3) (ak.g 3)) aj)) (ak.d 4) (ak.g 4)) (ak.nm 3) (ak.nm 2))
  (av (jX (DX (ak.g 5) B.iB (aa (bK wA (df d9 (aa (ak.nm 0) aj) B.d8 rfl dF (ak.d 2) (ak.g 2)) au) (aa (jW au) (aa (jW au) aj)))) (e_ dX.nd (by first|exact Or.inl rfl|exact Or.inr rfl) (by first|exact .inl rfl|exact .inr rfl)) (av (aW dX.nd (ak.l 5) (aO (h_ e) (jr e) (hr.mono (by decide)) (aa (aI (ak.nm 0) (ak.nm 4)) aj) (ak.d 0) (ak.g 0)))
  (aC (d_ (cT Ba (bT _) (ak.nm 5) (ak.nm 2)) (av (aW dX.nd (ak.l 6) (aO (z_ e) (GR e) (hr.mono (by decide)) (aa (aO (mQ e) (oO e) (hr.mono (by decide)) (aa au aj) (ak.d 1) (ak.g 1)) (aa (aO (kO e) (nY e) (hr.mono (by decide)) (aa (ak.nm 3) (aa (aI (ak.nm 0) (ak.nm 4)) aj)) (ak.d 6) (ak.g 6)) aj)) (ak.d 7) (ak.g 7)))
  (aC (dY (aO (Dx e) (I_ e) (hr.mono (by decide)) (aa (ak.nm 6) (aa (aO (mQ e) (oO e) (hr.mono (by decide)) (aa (aI (aI (ak.nm 0) (ak.nm 4)) (ak.nm 5)) aj) (ak.d 1) (ak.g 1)) aj)) (ak.d 8) (ak.g 8)) (ak.nm 3) (ak.nm 5)))) dE))))
  (aC (aV (et c8 (aa (ak.nm 3) aj) B.cX rfl cD (ak.d 9) (ak.g 9))))))))) tD
theorem xm:bo (KX w.params) mg "inside" "inside" j6 ["rows","row"] 306 (Hd.fd j6 "inside" "inside" gT 305):=Hd.iV e.X e.G (by kernel_rfl) fun _ _ _ _ _ _ _ _=>rfl
theorem Ee:a9 PW w (KX w.params) mg base ck 6 306 (Hd.fd j6 "inside" "inside" gT 305) ["rows","row"] (cn sX):=by
 have B:=Bt e;have Q:=Qt e
 exact bz (N:=o3) (xm e).fn nv (fun cdv A outer s H E hr=>(av (aW nv.nd (bD.l 2) (aO (mr e) (pf e) (hr.mono (by decide)) (aa (bD.nm 0) aj) (bD.d 0) (bD.g 0)))
  (av (aW nv.nd (bD.l 3) (aI (bD.nm 2) au))
  (av (aW nv.nd (bD.l 4) (aO (nI e) (qW e) (hr.mono (by decide)) (aa (bD.nm 3) (aa (bD.nm 1) aj)) (bD.d 1) (bD.g 1)))
  (av (d_ (cT C5 (bT _) (aO (h_ e) (jr e) (hr.mono (by decide)) (aa (aI (bD.nm 4) au) aj) (bD.d 2) (bD.g 2)) AM) (aC (aV (jL (aa nM (aa (aO (jF e) (nG e) (hr.mono (by decide)) (aa (bD.nm 3) (aa (aI (bD.nm 4) au) aj)) (bD.d 3) (bD.g 3)) aj))))) dE)
  (aC (aV (jL (aa nM (aa (aO (kn e) (m6 e) (hr.mono (by decide)) (aa (aI (bD.nm 4) au) (aa (oA (aI (bD.nm 2) au) oU (oF (df d9 (aa (bD.nm 3) aj) B.d8 rfl dF (bD.d 4) (bD.g 4)))) (aa (df d9 (aa (bD.nm 0) aj) B.d8 rfl dF (bD.d 4) (bD.g 4)) aj))) (bD.d 5) (bD.g 5)) aj)))))))))) De
theorem sx:bo (KX w.params) mg "are_parts" "are_parts" fK ["thing","many"] 311 (Hd.fd fK "are_parts" "are_parts" gT 310):=Hd.iV e.X e.G (by kernel_rfl) fun _ _ _ _ _ _ _ _=>rfl
theorem yZ:a9 PW w (KX w.params) mg base ck 5 311 (Hd.fd fK "are_parts" "are_parts" gT 310) ["thing","many"] (cn oa):=by
 have B:=Bt e;have Q:=Qt e;exact bz (N:=kX) (sx e).fn xv (fun cdv A outer s H E hr=>(aC (aV (mf (aO (f_ e) (iz e) (hr.mono (by decide)) (aa (fJ.nm 0) (aa (fJ.nm 1) aj)) (fJ.d 0) (fJ.g 0)) (nF (df (wN rfl) (aa (fx (Nc:=["each"]) (bU.look (ai fK) ["thing","many"] (by decide+kernel)) (g4 (fJ.nm 0)) (fun _ _ _ _=>(e_ (show(["each"]:List Str).Nodup by decide+kernel) (by first|exact Or.inl rfl|exact Or.inr rfl) (by first|exact .inl rfl|exact .inr rfl))) (fun _ _ _ _=>dy) (fun _ _ _ _=>(aO (vR e) (Cd e) (hr.mono (by decide)) (aa eh aj) (by decide+kernel) rfl)) cU) aj) B.wI rfl uz (fJ.d 1) (fJ.g 1))))))) ym
theorem pF:bo (KX w.params) mg "is_whole" "is_whole" ir ["one"] 318 (Hd.fd ir "is_whole" "is_whole" gT 317):=Hd.ox e.X e.G (by kernel_rfl) fun _ _ _ _ _ _ _=>rfl
theorem ue:a9 PW w (KX w.params) mg base ck 1 318 (Hd.fd ir "is_whole" "is_whole" gT 317) ["one"] (cn mn):=by
 have B:=Bt e;have Q:=Qt e;exact bz (N:=l9) (pF e).fn ze (fun cdv A outer s H E hr=>(aC (aV (nV (jO hr) (bT _) (aI (Ai.nm 0) au) au)))) zl
theorem nr:bo (KX w.params) mg "parts_show" "parts_show" fb ["rows","row","parts"] 323 (Hd.fd fb "parts_show" "parts_show" gT 322):=Hd.w6 e.X e.G (by kernel_rfl) fun _ _ _ _ _ _ _ _ _=>rfl
theorem qr:a9 PW w (KX w.params) mg base ck 6 323 (Hd.fd fb "parts_show" "parts_show" gT 322) ["rows","row","parts"] (cn jJ):=by
 have B:=Bt e;have Q:=Qt e
 exact bz (N:=jS) (nr e).fn wc (fun cdv A outer s H E hr=>(av (d_ (Bx (FC (BF (qh (aO (sx e) (yZ e) (hr.mono (by decide)) (aa (cj.nm 2) (aa (df d9 (aa (cj.nm 1) aj) B.d8 rfl dF (cj.d 0) (cj.g 0)) aj)) (cj.d 1) (cj.g 1)))) (BQ (qh (aO (pF e) (ue e) (hr.mono (by decide)) (aa (aO (kO e) (nY e) (hr.mono (by decide)) (aa (cj.nm 2) (aa (cj.nm 1) aj)) (cj.d 2) (cj.g 2)) aj) (cj.d 3) (cj.g 3)))))) (aC (aV vo)) dE)
  (aC (aV (df (wN rfl) (aa (fx (Nc:=["each","parts"]) (bU.look (ai fb) ["rows","row","parts"] (by decide+kernel)) (g4 (cj.nm 0)) (fun _ _ _ _=>(e_ (show(["each","parts"]:List Str).Nodup by decide+kernel) (by first|exact Or.inl rfl|exact Or.inr rfl) (by first|exact .inl rfl|exact .inr rfl))) (fun _ _ _ _=>dy) (fun _ _ _ _=>(aO (pF e) (ue e) (hr.mono (by decide)) (aa (aO (kO e) (nY e) (hr.mono (by decide)) (aa eh (aa eh aj)) (by decide+kernel) rfl) aj) (by decide+kernel) rfl)) cU) aj) B.wI rfl uz (cj.d 4) (cj.g 4)))))) wo
theorem oQ:bo (KX w.params) mg "shows_inside" "shows_inside" eR ["rows","row","told"] 337 (Hd.fd eR "shows_inside" "shows_inside" gT 336):=Hd.w6 e.X e.G (by kernel_rfl) fun _ _ _ _ _ _ _ _ _=>rfl
theorem va:a9 PW w (KX w.params) mg base ck 7 337 (Hd.fd eR "shows_inside" "shows_inside" gT 336) ["rows","row","told"] (cn j7):=by
 have B:=Bt e;have Q:=Qt e
 exact bz (N:=iH) (oQ e).fn tL (fun cdv A outer s H E hr=>(av (d_ (BF (qh (aO (f_ e) (iz e) (hr.mono (by decide)) (aa (cE.nm 2) (aa au aj)) (cE.d 0) (cE.g 0)))) (aC (aV vo)) dE)
  (av (d_ (cT (jO hr) (bT _) (aI (cE.nm 2) au) nM) (aC o7) dE)
  (aC (aV (mf (nV (jO hr) (bT _) (aI (cE.nm 2) au) nM) (nF (aO (nr e) (qr e) (hr.mono (by decide)) (aa (cE.nm 0) (aa (cE.nm 1) (aa (aI (cE.nm 2) au) aj))) (cE.d 1) (cE.g 1))))))))) uh
theorem oC:bo (KX w.params) mg "steps_behind" "steps_behind" eY ["turn","many"] 344 (Hd.fd eY "steps_behind" "steps_behind" z9 343):=Hd.iV e.X e.G (by kernel_rfl) fun _ _ _ _ _ _ _ _=>rfl
theorem u_:a9 PW w (KX w.params) mg base ck 6 344 (Hd.fd eY "steps_behind" "steps_behind" z9 343) ["turn","many"] (cn kH):=by
 have B:=Bt e;have Q:=Qt e;exact bz (N:=iw) (oC e).fn tG (fun cdv A outer s H E hr=>(aC (aV (Fe (cT Ba (bT _) (dw.nm 1) (df d9 (aa (dw.nm 0) aj) B.d8 rfl dF (dw.d 0) (dw.g 0))) (aI (aO (mr e) (pf e) (hr.mono (by decide)) (aa (oA (dw.nm 0) (oF (dw.nm 1)) oU) aj) (dw.d 1) (dw.g 1)) au) (jL aj))))) uC
theorem vC:bo (KX w.params) mg "answers" "answers" jq ["rows","due"] 351 (Hd.fd jq "answers" "answers" z9 350):=Hd.iV e.X e.G (by kernel_rfl) fun _ _ _ _ _ _ _ _=>rfl
theorem C_:a9 PW w (KX w.params) mg base ck 7 351 (Hd.fd jq "answers" "answers" z9 350) ["rows","due"] (cn qc):=by
 have B:=Bt e;have Q:=Qt e
 exact bz (N:=nu) (vC e).fn fu (fun cdv A outer s H E hr=>(av (aW fu.nd (aD.l 2) (df d9 (aa (aI (aD.nm 0) au) aj) B.d8 rfl dF (aD.d 0) (aD.g 0)))
  (av (aW fu.nd (aD.l 3) (aO (mr e) (pf e) (hr.mono (by decide)) (aa (aO (gz e) (i5 e) (hr.mono (by decide)) (aa (aD.nm 0) (aa (aD.nm 2) aj)) (aD.d 1) (aD.g 1)) aj) (aD.d 2) (aD.g 2)))
  (av (aW fu.nd (aD.l 4) (aI (aD.nm 3) au))
  (av (aW fu.nd (aD.l 5) (aI (aD.nm 3) au))
  (av (aW fu.nd (aD.l 6) (aO (nI e) (qW e) (hr.mono (by decide)) (aa (aD.nm 4) (aa (aD.nm 1) aj)) (aD.d 3) (aD.g 3)))
  (av (d_ (cT C5 (bT _) (aO (h_ e) (jr e) (hr.mono (by decide)) (aa (aI (aD.nm 6) au) aj) (aD.d 4) (aD.g 4)) AM) (aC (aV (jL (aa nM (aa (aO (jF e) (nG e) (hr.mono (by decide)) (aa (aD.nm 4) (aa (aI (aD.nm 6) au) aj)) (aD.d 5) (aD.g 5)) aj))))) dE)
  (av (aW fu.nd (aD.l 7) (aO (oC e) (u_ e) (hr.mono (by decide)) (aa (aD.nm 5) (aa (df d9 (aa (aD.nm 4) aj) B.d8 rfl dF (aD.d 0) (aD.g 0)) aj)) (aD.d 6) (aD.g 6)))
  (av (aW fu.nd (aD.l 8) (aO (uZ e) (zL e) (hr.mono (by decide)) (aa (aD.nm 7) (aa (aO (kn e) (m6 e) (hr.mono (by decide)) (aa (aI (aD.nm 6) au) (aa (oA (aD.nm 5) oU (oF (df d9 (aa (aD.nm 4) aj) B.d8 rfl dF (aD.d 0) (aD.g 0)))) (aa (aD.nm 2) aj))) (aD.d 7) (aD.g 7)) aj)) (aD.d 8) (aD.g 8)))
  (aC (aV (jL (aa nM (aa (aD.nm 8) (aa (aD.nm 7) (aa (aD.nm 5) (aa (aI (aD.nm 3) au) aj))))))))))))))))) Ah
theorem ny:bo (KX w.params) mg "shows_answers" "shows_answers" d7 ["rows","due","told"] 380 (Hd.fd d7 "shows_answers" "shows_answers" HZ 379):=Hd.w6 e.X e.G (by kernel_rfl) fun _ _ _ _ _ _ _ _ _=>rfl
theorem uc:a9 PW w (KX w.params) mg base ck 7 380 (Hd.fd d7 "shows_answers" "shows_answers" HZ 379) ["rows","due","told"] (cn jP):=by
 have B:=Bt e;have Q:=Qt e
 exact bz (N:=gZ) (ny e).fn tu (fun cdv A outer s H E hr=>(av (d_ (qh (aO (f_ e) (iz e) (hr.mono (by decide)) (aa (bJ.nm 2) (aa au aj)) (bJ.d 0) (bJ.g 0))) (aC (aV (mf (nV (jO hr) (bT _) (aI (bJ.nm 2) au) nM) (nF (aO (nr e) (qr e) (hr.mono (by decide)) (aa (aO (gz e) (i5 e) (hr.mono (by decide)) (aa (bJ.nm 0) (aa (df d9 (aa (aI (bJ.nm 0) au) aj) B.d8 rfl dF (bJ.d 1) (bJ.g 1)) aj)) (bJ.d 2) (bJ.g 2)) (aa (bJ.nm 1) (aa (aI (bJ.nm 2) au) aj))) (bJ.d 3) (bJ.g 3)))))) dE)
  (av o7
  (av o7
  (aC o7))))) tf
theorem t9:bo (KX w.params) mg "_law_hand" "_law_hand" iA ["_law_script"] 387 (Hd.fd iA "_law_hand" "_law_hand" oX 386):=Hd.ox e.X e.G (by kernel_rfl) fun _ _ _ _ _ _ _=>rfl
theorem AY:a9 PW w (KX w.params) mg base ck 1 387 (Hd.fd iA "_law_hand" "_law_hand" oX 386) ["_law_script"] (cn oZ):=by
 have B:=Bt e;have Q:=Qt e
 exact bz (N:=md) (t9 e).fn nX (fun cdv A outer s H E hr=>(av (aW nX.nd (dJ.l 1) (bK iu (oA (dJ.nm 0) oU (oF au)) (wy (aa au aj))))
  (av (aW nX.nd (dJ.l 2) (df uq (aa (aI (dJ.nm 1) au) aj) B.uf rfl qD (dJ.d 0) (dJ.g 0)))
  (aC (aV (Ar (aa (dJ.nm 1) (aa au (aa (bK d5 (dJ.nm 2) (et KS (aa (nV M_ (bT _) (dJ.nm 2) (bK KZ au au)) aj) B.F5 rfl B_ (dJ.d 1) (dJ.g 1))) aj))))))))) y_
theorem dk:bo (KX w.params) mg "_law_take" "_law_take" iC ["_law_hand_here","_law_many"] 394 (Hd.fd iC "_law_take" "_law_take" oX 393):=Hd.iV e.X e.G (by kernel_rfl) fun _ _ _ _ _ _ _ _=>rfl
theorem dN:a9 PW w (KX w.params) mg base ck 1 394 (Hd.fd iC "_law_take" "_law_take" oX 393) ["_law_hand_here","_law_many"] (cn cO):=by
 have B:=Bt e;have Q:=Qt e
 exact bz (N:=mq) (dk e).fn kT (fun cdv A outer s H E hr=>(av (d_ (cT Bb (bT _) (aI (bE.nm 0) au) au) (av (aW kT.nd (bE.l 2) (bK nD (aI (bE.nm 0) au) (bE.nm 1)))
  (av (dY (bK CM (aI (bE.nm 0) au) (bE.nm 1)) (bE.nm 0) au)
  (aC (aV (bE.nm 2))))) dE)
  (av (dY (bK iu (aI (bE.nm 0) au) au) (bE.nm 0) au)
  (av (aW kT.nd (bE.l 3) (aI (aI (bE.nm 0) au) (bK nD (aI (bE.nm 0) au) (df d9 (aa (aI (bE.nm 0) au) aj) B.d8 rfl dF (bE.d 0) (bE.g 0)))))
  (av (aW kT.nd (bE.l 4) (bK nD (bK d5 (bK iu (bK iu (bK nD (bE.nm 3) au) (bK d5 au (aI (bE.nm 0) au))) au) au) au))
  (aC (aV (bK nD (bK CM (bK nD (bK d5 (bE.nm 4) (bK iu (bK nD (bE.nm 4) au) au)) au) au) (bE.nm 1))))))))) zi
theorem tN:bo (KX w.params) mg "_law_rows" "_law_rows" dj ["_law_hand_here"] 399 (Hd.fd dj "_law_rows" "_law_rows" oX 398):=Hd.ox e.X e.G (by kernel_rfl) fun _ _ _ _ _ _ _=>rfl
theorem Be:a9 PW w (KX w.params) mg base ck 2 399 (Hd.fd dj "_law_rows" "_law_rows" oX 398) ["_law_hand_here"] (cn pG):=by
 have B:=Bt e;have Q:=Qt e
 exact bz (N:=l8) (tN e).fn fG (fun cdv A outer s H E hr=>(av (Dy fG.nd (by decide) (show(ai dj).names.lookup ("_law_many":Str)=some .local by decide+kernel) (show(ai dj).names.lookup ("_law_wide":Str)=some .local by decide+kernel) (aa (bK iu au (aO (dk e) (dN e) (hr.mono (by decide)) (aa (aP.nm 0) (aa au aj)) (aP.d 0) (aP.g 0))) (aa (bK iu au (aO (dk e) (dN e) (hr.mono (by decide)) (aa (aP.nm 0) (aa au aj)) (aP.d 0) (aP.g 0))) aj)))
  (av (d_ (cT (jO hr) (bT _) (aO (dk e) (dN e) (hr.mono (by decide)) (aa (aP.nm 0) (aa au aj)) (aP.d 0) (aP.g 0)) au) (aC (Dy fG.nd (by decide) (show(ai dj).names.lookup ("_law_many":Str)=some .local by decide+kernel) (show(ai dj).names.lookup ("_law_wide":Str)=some .local by decide+kernel) (aa (bK iu au (aO (dk e) (dN e) (hr.mono (by decide)) (aa (aP.nm 0) (aa au aj)) (aP.d 0) (aP.g 0))) (aa (bK iu au (aO (dk e) (dN e) (hr.mono (by decide)) (aa (aP.nm 0) (aa au aj)) (aP.d 0) (aP.g 0))) aj)))) dE)
  (av (aW fG.nd (aP.l 3) (Ar aj))
  (av (jX (je (aP.g 1) B.iB (aa (aP.nm 1) aj)) (e_ fG.nd (by first|exact Or.inl rfl|exact Or.inr rfl) (by first|exact .inl rfl|exact .inr rfl)) (av (aW fG.nd (aP.l 5) (et c8 (aa (fx (Nc:=["_law_j","_law_hand_here"]) (bU.look (ai dj) ["_law_hand_here","_law_many","_law_wide","_law_rows_here","_law_k","_law_row"] (by decide+kernel)) (je (aP.g 1) B.iB (aa (aP.nm 2) aj)) (fun _ _ _ _=>(e_ (show(["_law_j","_law_hand_here"]:List Str).Nodup by decide+kernel) (by first|exact Or.inl rfl|exact Or.inr rfl) (by first|exact .inl rfl|exact .inr rfl))) (fun _ _ _ _=>dy) (fun _ _ _ _=>(bK wA (aO (dk e) (dN e) (hr.mono (by decide)) (aa eh (aa au aj)) (by decide+kernel) rfl) au)) cU) aj) B.cX rfl cD (aP.d 2) (aP.g 2)))
  (av (d_ (Bx (JV (cT Bb (bT _) (aP.nm 4) au) (Hg (cT (jO hr) (bT _) (aO (dk e) (dN e) (hr.mono (by decide)) (aa (aP.nm 0) (aa au aj)) (aP.d 0) (aP.g 0)) au)))) (aC (aW fG.nd (aP.l 5) (et c8 (aa (fx (Nc:=["_law_a"]) (bU.look (ai dj) ["_law_hand_here","_law_many","_law_wide","_law_rows_here","_law_k","_law_row"] (by decide+kernel)) (g4 (aI (aP.nm 3) (jW au))) (fun _ _ _ _=>(e_ (show(["_law_a"]:List Str).Nodup by decide+kernel) (by first|exact Or.inl rfl|exact Or.inr rfl) (by first|exact .inl rfl|exact .inr rfl))) (fun _ _ _ _=>dy) (fun _ _ _ _=>(bK d5 au eh)) cU) aj) B.cX rfl cD (aP.d 2) (aP.g 2)))) dE)
  (aC (kE (vO (aP.nm 3) (aP.nm 5)))))))
  (aC (aV (et c8 (aa (aP.nm 3) aj) B.cX rfl cD (aP.d 2) (aP.g 2))))))))) yV
theorem Me:bo (KX w.params) mg "law" "law" kY ["_law_script"] 404 (Hd.fd kY "law" "law" oX 403):=Hd.ox e.X e.G (by kernel_rfl) fun _ _ _ _ _ _ _=>rfl
theorem Lq:a9 PW w (KX w.params) mg base ck 8 404 (Hd.fd kY "law" "law" oX 403) ["_law_script"] (cn Fh):=by
 have B:=Bt e;have Q:=Qt e
 exact bz (N:=wG) (Me e).fn jM (fun cdv A outer s H E hr=>(av (aW jM.nd (aF.l 1) (aO (t9 e) (AY e) (hr.mono (by decide)) (aa (aF.nm 0) aj) (aF.d 0) (aF.g 0)))
  (av (aW jM.nd (aF.l 2) (aO (tN e) (Be e) (hr.mono (by decide)) (aa (aF.nm 1) aj) (aF.d 1) (aF.g 1)))
  (av (aW jM.nd (aF.l 3) (df d9 (aa (aI (aF.nm 2) au) aj) B.d8 rfl dF (aF.d 2) (aF.g 2)))
  (av (aW jM.nd (aF.l 4) (et zM (aa (aO (kn e) (m6 e) (hr.mono (by decide)) (aa (fx (Nc:=["_law_one","_law_hand_here"]) (bU.look (ai kY) ["_law_script","_law_hand_here","_law_rows_here","_law_wide","_law_row","_law_place","_law_columns","_law_weights","_law_told"] (by decide+kernel)) (g4 (aF.nm 2)) (fun _ _ _ _=>(e_ (show(["_law_one","_law_hand_here"]:List Str).Nodup by decide+kernel) (by first|exact Or.inl rfl|exact Or.inr rfl) (by first|exact .inl rfl|exact .inr rfl))) (fun _ _ _ _=>dy) (fun _ _ _ _=>(bK wA (aO (dk e) (dN e) (hr.mono (by decide)) (aa eh (aa au aj)) (by decide+kernel) rfl) au)) cU) (aa (aF.nm 2) (aa (aF.nm 3) aj))) (aF.d 3) (aF.g 3)) aj) B.nj rfl kD (aF.d 4) (aF.g 4)))
  (av (d_ (cT (jO hr) (bT _) (aO (dk e) (dN e) (hr.mono (by decide)) (aa (aF.nm 1) (aa au aj)) (aF.d 5) (aF.g 5)) au) (av (aW jM.nd (aF.l 5) (aO (dk e) (dN e) (hr.mono (by decide)) (aa (aF.nm 1) (aa (aF.nm 3) aj)) (aF.d 5) (aF.g 5)))
  (aC (dY (bK iu (aI (aF.nm 4) (aF.nm 5)) (aI (wy (aa (jW au) (aa au (aa au (aa au aj))))) (aO (dk e) (dN e) (hr.mono (by decide)) (aa (aF.nm 1) (aa au aj)) (aF.d 5) (aF.g 5)))) (aF.nm 4) (aF.nm 5)))) dE)
  (av (aW jM.nd (aF.l 6) (aO (gz e) (i5 e) (hr.mono (by decide)) (aa (aF.nm 2) (aa (aF.nm 3) aj)) (aF.d 6) (aF.g 6)))
  (av (aW jM.nd (aF.l 7) (aO (xm e) (Ee e) (hr.mono (by decide)) (aa (aF.nm 2) (aa (et c8 (aa (aF.nm 4) aj) B.cX rfl cD (aF.d 7) (aF.g 7)) aj)) (aF.d 8) (aF.g 8)))
  (av (aW jM.nd (aF.l 8) (aO (vC e) (C_ e) (hr.mono (by decide)) (aa (aF.nm 6) (aa (et c8 (aa (aF.nm 4) aj) B.cX rfl cD (aF.d 7) (aF.g 7)) aj)) (aF.d 9) (aF.g 9)))
  (av (d_ (cT (Bm hr) (bT _) (aI (aF.nm 7) au) (aI (aF.nm 8) au)) (aC (aV vo)) dE)
  (av (d_ (cT (jO hr) (bT _) (aI (aF.nm 8) au) nM) (aC (aV (mf (aO (ny e) (uc e) (hr.mono (by decide)) (aa (aF.nm 6) (aa (et c8 (aa (aF.nm 4) aj) B.cX rfl cD (aF.d 7) (aF.g 7)) (aa (aF.nm 7) aj))) (aF.d 10) (aF.g 10)) (nF (aO (oQ e) (va e) (hr.mono (by decide)) (aa (aF.nm 2) (aa (et c8 (aa (aF.nm 4) aj) B.cX rfl cD (aF.d 7) (aF.g 7)) (aa (aF.nm 8) aj))) (aF.d 11) (aF.g 11)))))) dE)
  (av (d_ (Bx (FC (cT (Bm hr) (bT _) (aO (uZ e) (zL e) (hr.mono (by decide)) (aa (aI (aF.nm 8) au) (aa (aI (aF.nm 7) au) aj)) (aF.d 12) (aF.g 12)) (aI (aF.nm 8) au)) (BQ (cT (Bm hr) (bT _) (aO (kn e) (m6 e) (hr.mono (by decide)) (aa (aI (aF.nm 8) au) (aa (aF.nm 2) (aa (aF.nm 3) aj))) (aF.d 3) (aF.g 3)) (et c8 (aa (aF.nm 4) aj) B.cX rfl cD (aF.d 7) (aF.g 7)))))) (aC (aV vo)) dE)
  (aC (aV (df (wN rfl) (aa (fx (Nc:=["_law_step","_law_rows_here","_law_wide"]) (bU.look (ai kY) ["_law_script","_law_hand_here","_law_rows_here","_law_wide","_law_row","_law_place","_law_columns","_law_weights","_law_told"] (by decide+kernel)) (g4 (aI (aF.nm 8) au)) (fun _ _ _ _=>(e_ (show(["_law_step","_law_rows_here","_law_wide"]:List Str).Nodup by decide+kernel) (by first|exact Or.inl rfl|exact Or.inr rfl) (by first|exact .inl rfl|exact .inr rfl))) (fun _ _ _ _=>dy) (fun _ _ _ _=>(nV (jO hr) (bT _) (aO (kn e) (m6 e) (hr.mono (by decide)) (aa eh (aa eh (aa eh aj))) (by decide+kernel) rfl) (bK d5 (jL (aa au aj)) eh))) cU) aj) B.wI rfl uz (aF.d 13) (aF.g 13)))))))))))))))) Kz
end
def dL:DefRec:=match kY with
 | .FunctionDef n a b _ _ _ sc _ _ pos=>⟨n,a,b,sc,pos⟩
 |_=>⟨"",L2.jy (.Pass ⟨0,0,0,0⟩),[],L2.ai (.Pass ⟨0,0,0,0⟩),⟨0,0,0,0⟩⟩
theorem E2:PySem.Challenge.rw_latticeworks_k60_whole_weights_are_answe.wellSaid=true:=by decide+kernel
end Row
open PySem PySem.W PyProof.Rows
set_option maxRecDepth 100000 in
set_option maxHeartbeats 0 in
theorem PySem.Challenge.cw_latticeworks_k60_whole_weights_are_answe_holds : PySem.Challenge.rw_latticeworks_k60_whole_weights_are_answe.Holds := by
 refine PySem.W.holds_law Row.E2 fun E2=>?_;refine PySem.W.holds_open (r:=PySem.Challenge.rw_latticeworks_k60_whole_weights_are_answe.row) (q:=PySem.W.view Row.PW [1,2,3,4,6,7,8,9,10,11,12,13,15,16,17,18,19,20,21,22,23,24,25,26,28,29,30,31,32,33,34,35,36,37,39,40,41,42,43,44,45,46,47,49,50,52,53,54,55,56,58,59,60,61]) (loose:=[]) (Xt:=fun _=>true) (XP:=fun _ _=>True) (YP:=(PySem.W.kmHook Row.KX Row.KA (fun _=>rfl) [233]).says) (d:=Row.dL) (kwd:=[]) Row.left ((PySem.W.kmHook Row.KX Row.KA (fun _=>rfl) [233]).of) ((PySem.W.kmHook Row.KX Row.KA (fun _=>rfl) [233]).keeps) (fun _ _=>trivial) (fun _ _ _ _ _=>trivial) (by kernel_rfl) (by kernel_rfl) (by kernel_rfl) (fun s _=>PySem.W.recFacts_of (R:=[]) rfl) (by kernel_rfl) E2 (by decide+kernel) ⟨rfl,rfl,rfl,rfl,rfl,by decide+kernel⟩ ?hw ?hc;case hw=>w_witness2
 refine L2.KY (n:=63) (k:=8) (x:="_law_script") (ts:=[(235,233)]) (K:=Row.KX) (sp:=fun w=>L3.Cp (Row.KX w.params) [(235,233)]) rfl (by decide) (by kernel_rfl) ⟨rfl,by decide,by decide⟩ (by kernel_rfl) rfl (fun w h Y=>⟨PySem.W.km_in_of Y,⟨(fun q hq=>by rcases List.mem_cons.mp hq with rfl|hq;kernel_rfl;cases hq),(fun q hq=>by rcases List.mem_cons.mp hq with rfl|hq;kernel_rfl;cases hq),fun q hq=>PySem.W.km_tabs_of Y _ (List.mem_map_of_mem (f:=Prod.snd) hq)⟩⟩) ?F fun _ _ a ns hl hE=>⟨a,ns,rfl,hE,hl,fun _=>rfl⟩
 intro w mg fa h X G hmg;have e2:=hmg.symm.trans (PySem.W.mg_of (v:= .ref 404) X G (by kernel_rfl));cases e2;exact⟨Hd.fd Row.kY "law" "law" Row.oX 403,fun s v=> .of_eq rfl,fun base _ _=>(Row.Lq ⟨X,G⟩).imp fun vs H Q E h=>L3.Dh (tl:=[(233,⟨126,32,126,66⟩,"Bench.live_rows.<locals>.<lambda>")]) (by kernel_rfl) rfl (by decide) h⟩
