import PyProof.Rows.All
import Wide.All
import OpenK.AllK
import Wide.FinOn
import Lean
import PyProof.EqAt
import PyProof.EqKinds
import PyProof.TupleCall
import PyProof.NeKinds
import KE.KUnpack
import KE.KTryDeep
import PyProof.ExcBaseAll.ValueError
import KE.KIsAll
import PyProof.ExcAttrAll.ValueError
import PySem.Challenge.RW_latticeworks_k26_all_the_rests
set_option Elab.async false
set_option linter.all false
set_option maxRecDepth 100000
namespace L2
open PySem PySem.Spec PyProof.Rows
abbrev Key:=Sum Int Str
def DL:Key->Value->Bool
 | .inl k,v=>Value.isInt k v
 | .inr x,v=>Value.isStrOf x v
def KL(w:World):Key->Int
 | .inl k=>hashInt k
 | .inr x=>hashStr w x
theorem df:∀ {k:Key} {v:Value},DL k v=true->(∃i t,k=Sum.inl i/\v=Value.int i t)\/(∃x t,k=Sum.inr x/\v=Value.str x t)
 | .inl i,v,h=>by
   obtain⟨t,e⟩:=Value.isInt_shape (k:=i) (v:=v) h;exact .inl ⟨i,t,rfl,e⟩
 | .inr x,v,h=>by
   obtain⟨t,e⟩:=Value.isStrOf_shape (x:=x) (v:=v) h;exact .inr ⟨x,t,rfl,e⟩
theorem G9(a b:Int):decide ((Sum.inl a:Key)=Sum.inl b)=(a==b):=by
 by_cases e:a=b
 . subst e;simp
 . have h:¬(Sum.inl a:Key)=Sum.inl b:=fun q=>e (Sum.inl.inj q);rw[decide_eq_false h];exact(beq_eq_false_iff_ne.mpr e).symm
theorem HD(a b:Str):decide ((Sum.inr a:Key)=Sum.inr b)=decide (a=b):=by
 by_cases e:a=b
 . subst e;simp
 . have h:¬(Sum.inr a:Key)=Sum.inr b:=fun q=>e (Sum.inr.inj q);rw[decide_eq_false h,decide_eq_false e]
theorem Ga(a:Int)(b:Str):decide ((Sum.inl a:Key)=Sum.inr b)=false:=decide_eq_false (fun q=>nomatch q)
theorem Gg(a:Str)(b:Int):decide ((Sum.inr a:Key)=Sum.inl b)=false:=decide_eq_false (fun q=>nomatch q)
def xf(prog:Program)(w:World):PySem.KeyKind prog w Key where
 is:=DL
 hash:=KL w
 inj:=fun v a b ha hb=>by
  rcases df ha with⟨i,t,rfl,rfl⟩|⟨x,t,rfl,rfl⟩
  . rcases df hb with⟨j,u,rfl,e⟩|⟨y,u,rfl,e⟩
    . injection e with e1 _;rw[e1]
    . exact nomatch e
  . rcases df hb with⟨j,u,rfl,e⟩|⟨y,u,rfl,e⟩
    . exact nomatch e
    . injection e with e1 _;rw[e1]
 byValue:=fun k v h=>by
  rcases df h with⟨i,t,rfl,rfl⟩|⟨x,t,rfl,rfl⟩<;>rfl
 pyHash:=fun hv h=>by
  rcases df hv with⟨i,t,rfl,rfl⟩|⟨x,t,rfl,rfl⟩
  . exact wpAny_pyHash_int h
  . exact wpAny_pyHash_str h
 eqBool:=fun hu hv h=>by
  rcases df hu with⟨i,t,rfl,rfl⟩|⟨x,t,rfl,rfl⟩
  . rcases df hv with⟨j,u,rfl,rfl⟩|⟨y,u,rfl,rfl⟩
    . rw[G9]at h;exact wpAny_eqBool_int h
    . rw[Ga]at h;exact SeqAt.EqAt.int_str i t y u _ _ _ _ h
  . rcases df hv with⟨j,u,rfl,rfl⟩|⟨y,u,rfl,rfl⟩
    . rw[Gg]at h;exact SeqAt.EqAt.str_int x t j u _ _ _ _ h
    . rw[HD]at h;exact wpAny_eqBool_str h
 «strs» :=fun k x t v h=>by
  rcases df h with⟨i,u,rfl,e⟩|⟨y,u,rfl,e⟩
  . exact nomatch e
  . injection e with e1 _;subst e1;cases v<;>rfl
inductive V where
 |aC|bl (b:Bool)|int (i:Int)|str (x:Str)|nI (b:Array UInt8)|oq (b:UInt64)|ref (a:Addr)|ty (n:String)
 deriving DecidableEq
def RelV:V->Value->Prop
 | .aC,u=>u=Value.none
 | .bl b,u=>u=Value.bool b
 | .int i,u=>∃t,u=Value.int i t
 | .str x,u=>∃t,u=Value.str x t
 | .nI b,u=>∃t,u=Value.bytes b t
 | .oq b,u=>∃t,u=Value.float b t
 | .ref a,u=>u=Value.ref a
 | .ty n,u=>u=Value.type n
abbrev Vals:List V->List Value->Prop:=Paired RelV
theorem Vals.length{xs:List V}{us:List Value}(r:Vals xs us):xs.length=us.length:=Paired.length r
theorem Vals.get:∀ {xs:List V} {us:List Value} {i:Nat} {x:V},Vals xs us->xs[i]?=some x->∃u,us[i]?=some u/\RelV x u
 |_,_,_,_,.nil,e=>by simp at e
 |_,_,0,_,.cons r _,e=>by simp at e;subst e;exact⟨_,rfl,r⟩
 |_,_,i+1,x,.cons _ t,e=>by
  obtain⟨u,h1,h2⟩:=Vals.get (i:=i) (x:=x) t (by simpa using e);exact⟨u,by simpa using h1,h2⟩
theorem Vals.set{x:V}{u:Value}(r:RelV x u):∀ {xs:List V} {us:List Value} (i:Nat),Vals xs us->Vals (xs.set i x) (us.set i u)
 |_,_,_,.nil=> .nil
 |_,_,0,.cons _ t=> .cons r t
 |_,_,i+1,.cons q t=> .cons q (Vals.set r i t)
theorem Vals.append:∀ {xs ys:List V} {us ws:List Value},Vals xs us->Vals ys ws->Vals (xs++ys) (us++ws)
 |_,_,_,_,.nil,s=>s
 |_,_,_,_,.cons r t,s=> .cons r (Vals.append t s)
theorem Vals.take:∀ {xs:List V} {us:List Value} (n:Nat),Vals xs us->Vals (xs.take n) (us.take n)
 |_,_,0,_=> .nil
 |_,_,_+1,.nil=> .nil
 |_,_,n+1,.cons r t=> .cons r (Vals.take n t)
theorem Vals.drop:∀ {xs:List V} {us:List Value} (n:Nat),Vals xs us->Vals (xs.drop n) (us.drop n)
 |_,_,0,r=>r
 |_,_,_+1,.nil=> .nil
 |_,_,n+1,.cons _ t=>Vals.drop n t
def lK:Option V->Option Value->Prop
 |some v,some u=>RelV v u
 |none,none=>True
 |_,_=>False
def KV{κ:Type}:List (κ×V)->List (κ×Value)->Prop:=Paired fun(p:κ×V) (q:κ×Value)=>p.1=q.1/\RelV p.2 q.2
def kV:Key->V
 | .inl i=> .int i
 | .inr x=> .str x
inductive HO where
 |lst (xs:List V)
 |tup (xs:List V)
 |dK (kvs:List (Key×V))|dT (kvs:List (List Key×V))
 |set (S:Int->Bool) (n:Nat)
 |ins (C dx:Addr) (fs:List (Str×V))
 |own (x:Addr)
 |xd (fs:List (Str×V))
 |met (f x:Addr)
 |C9 (lo hi:Int)
 |e9 (o:Obj) (u:HO)
 |g5 (ps:Array Value)
 |ext (φ:Heap->Prop)
abbrev Hp:=Addr->Option HO
def upd(H:Hp)(a:Addr)(o:HO):Hp:=fun b=>if b=a then some o else H b
theorem aK{H:Hp}{a:Addr}{o:HO}:upd H a o a=some o:=by unfold upd;rw[if_pos rfl]
theorem az{H:Hp}{a b:Addr}{o:HO}(h:b≠a):upd H a o b=H b:=by unfold upd;rw[if_neg h]
theorem Ec{H:Hp}{a:Addr}{o u:HO}:upd (upd H a o) a u=upd H a u:=by
 funext b;unfold upd;split<;>rfl
theorem cv{H:Hp}{a b:Addr}{o:HO}(h:H a=some o)(h':H b=none):a≠b:=by
 intro e;subst e;rw[h]at h';cases h'
section
variable (P:Program)(w:World)
def cu(H:Hp)(h:Heap)(a:Addr):HO->Prop
 | .lst xs=>xs.length<=sizeLine/\∃(its:List Value) (n:Nat),Vals xs its/\h.get? a=some {cls:= .type "list",data:= .seq its.toArray n}
 | .tup xs=>xs.length<=sizeLine/\∃its:List Value,Vals xs its/\IsTup h a its.toArray
 | .dK kvs=>kvs.length<=sizeLine/\(a==sysModules)=false/\∃vs,KV kvs vs/\h.DictOf (xf P w) a vs
 | .dT kvs=>kvs.length<=sizeLine/\(a==sysModules)=false/\∃xs:List (List Key×Addr×Value),
    Paired (fun(p:List Key×V) (q:List Key×Addr×Value)=>p.1=q.1/\H q.2.1=some (.tup (p.1.map kV))/\RelV p.2 q.2.2) kvs xs/\
    ∃o es ep,h.get? a=some o/\o.ExactDict/\o.data= .dict es ep/\es.toList=xs.map (entryOfKey (tupleKind (xf P w)))/\(xs.map (·.1)).Nodup
 | .set S n=>h.SetOf (intKind P w) a S n
 | .ins C dx fs=>H dx=some (.own a)/\fs.length<=1000/\dx≠a/\h.get? a=some (PySem.W.instObj C dx)/\
    ∃mA,h.Ns1 dx mA/\(∀f,lK (fs.lookup f) (mA f))/\PySem.Within mA (fs.map (·.1))
 | .own _=>∃o,h.get? a=some o
 | .xd fs=>∃mA,h.Ns1 a mA/\∀f,lK (fs.lookup f) (mA f)
 | .C9 lo hi=>∃t u v,h.get? a=some {cls:= .type "range",data:= .fields #[.int lo t,.int hi u,.int 1 v]}
 | .e9 o u=>h.get? a=some o/\cu H h a u
 | .g5 ps=>h.get? a=some {cls:= .none,data:= .fields ps}
 | .met f x=>h.get? a=some (PySem.W.methodObj (.ref f) (.ref x))
 | .ext φ=>φ h/\(∃o,h.get? a=some o)/\∀h1 h2:Heap,φ h1->(∀o,h1.get? a=some o->h2.get? a=some o)->φ h2
def eA(H:Hp)(h:Heap):Prop:=∀a o,H a=some o->cu P w H h a o
end
section
variable {P:Program}{w:World}{H H':Hp}{h h':Heap}{a:Addr}{o:HO}
theorem cu.lt(x:cu P w H h a o):a<h.objs.size:=by
 cases o with
 |lst xs=>obtain⟨_,_,_,_,e⟩:=x;exact Heap.lt_size e
 |tup xs=>obtain⟨_,_,_,p⟩:=x;exact p.lt
 |dK kvs=>obtain⟨_,_,_,_,o,_,_,e,_⟩:=x;exact Heap.lt_size e
 |dT kvs=>obtain⟨_,_,_,_,o,_,_,e,_⟩:=x;exact Heap.lt_size e
 |set S n=>obtain⟨o,_,_,_,e,_⟩:=x;exact Heap.lt_size e
 |ins C dx fs=>obtain⟨_,_,_,e,_⟩:=x;exact Heap.lt_size e
 |own y=>obtain⟨_,e⟩:=x;exact Heap.lt_size e
 |xd fs=>obtain⟨_,⟨_,_,_,e,_⟩,_⟩:=x;exact Heap.lt_size e
 |C9 lo hi=>obtain⟨_,_,_,e⟩:=x;exact Heap.lt_size e
 |e9 ob u=>obtain⟨e,_⟩:=x;exact Heap.lt_size e
 |g5 ps=>exact Heap.lt_size (show h.get? a=some _ from x)
 |met f y=>exact Heap.lt_size (show h.get? a=some _ from x)
 |ext φ=>obtain⟨_,⟨_,e⟩,_⟩:=x;exact Heap.lt_size e
theorem Paired.BA{α β:Type}{F G:α->β->Prop}:∀ {l₁:List α} {l₂:List β},Paired F l₁ l₂->(∀a b,F a b->G a b)->Paired G l₁ l₂
 |_,_,.nil,_=> .nil
 |_,_,.cons r t,f=> .cons (f _ _ r) (Paired.BA t f)
theorem cu.jS(x:cu P w H h a o)(k:∀b u,(b=a\/H b=some (.own a))->h.get? b=some u->h'.get? b=some u)
 (ho:∀b,H b=some (.own a)->H' b=some (.own a)) (ht:∀b xs,H b=some (.tup xs)->H' b=some (.tup xs)):cu P w H' h' a o:=by
 induction o with
 |lst xs=>obtain⟨z,its,n,r,e⟩:=x;exact⟨z,its,n,r,k _ _ (.inl rfl) e⟩
 |tup xs=>obtain⟨z,its,r,ob,e,c⟩:=x;exact⟨z,its,r,ob,k _ _ (.inl rfl) e,c⟩
 |dK kvs=>obtain⟨z,y,vs,r,ob,es,ep,e,c⟩:=x;exact⟨z,y,vs,r,ob,es,ep,k _ _ (.inl rfl) e,c⟩
 |dT kvs=>
  obtain⟨z,y,xs,r,ob,es,ep,e,c⟩:=x;exact⟨z,y,xs,Paired.BA r fun p q z=>⟨z.1,ht _ _ z.2.1,z.2.2⟩,ob,es,ep,k _ _ (.inl rfl) e,c⟩
 |set S n=>obtain⟨ob,es,ep,t,e,c⟩:=x;exact⟨ob,es,ep,t,k _ _ (.inl rfl) e,c⟩
 |ins C dx fs=>
  obtain⟨d,z,ne,e,mA,⟨od,es,ep,e2,c⟩,r⟩:=x;exact⟨ho _ d,z,ne,k _ _ (.inl rfl) e,mA,⟨od,es,ep,k _ _ (.inr d) e2,c⟩,r⟩
 |own y=>obtain⟨ob,e⟩:=x;exact⟨ob,k _ _ (.inl rfl) e⟩
 |xd fs=>obtain⟨mA,⟨od,es,ep,e,c⟩,r⟩:=x;exact⟨mA,⟨od,es,ep,k _ _ (.inl rfl) e,c⟩,r⟩
 |C9 lo hi=>obtain⟨t,u,v,e⟩:=x;exact⟨t,u,v,k _ _ (.inl rfl) e⟩
 |e9 ob u ih=>obtain⟨e,q⟩:=x;exact⟨k _ _ (.inl rfl) e,ih q⟩
 |g5 ps=>
  have e:h.get? a=some {cls:= .none,data:= .fields ps}:=x;show h'.get? a=some {cls:= .none,data:= .fields ps};exact k a _ (.inl rfl) e
 |met f y=>
  have e:h.get? a=some (PySem.W.methodObj (.ref f) (.ref y)):=x;show h'.get? a=some (PySem.W.methodObj (.ref f) (.ref y));exact k a _ (.inl rfl) e
 |ext φ=>obtain⟨p,⟨o,e⟩,st⟩:=x;exact⟨st _ _ p fun o q=>k _ _ (.inl rfl) q,⟨o,k _ _ (.inl rfl) e⟩,st⟩
theorem eA.lt(x:eA P w H h)(e:H a=some o):a<h.objs.size:=(x a o e).lt
theorem eA.fresh(x:eA P w H h)(e:h.objs.size<=a):H a=none:=by
 cases q:H a with
 |none=>rfl
 |some u=>exact absurd (Nat.lt_of_lt_of_le (x.lt q) e) (Nat.lt_irrefl _)
theorem eA.kept(x:eA P w H h)(k:∀b u,h.get? b=some u->h'.get? b=some u):eA P w H h':=fun a o e=>
 (x a o e).jS (fun b u _ q=>k b u q) (fun _ q=>q) fun _ _ q=>q
theorem eA.laid(x:eA P w H h)(k:∀b u,h.get? b=some u->h'.get? b=some u)(hp:h.objs.size<=a)(new:cu P w (upd H a o) h' a o):eA P w (upd H a o) h':=fun b u e=>by
 have hn:=x.fresh hp;by_cases hb:b=a
 . subst hb;rw[aK]at e;cases e;exact new
 . rw[az hb]at e;exact(x b u e).jS (fun c v _ q=>k c v q) (fun c q=>by rw[az (cv q hn)];exact q) fun c xs q=>by rw[az (cv q hn)];exact q
end
def Rd(H:Hp)(a:Addr)(u:HO):Prop:=H a=some u\/∃o,H a=some (.e9 o u)
theorem Rd.of{H:Hp}{a:Addr}{u:HO}(h:H a=some u):Rd H a u:= .inl h
theorem Rd.ok{P:Program}{w:World}{H:Hp}{h:Heap}{a:Addr}{u:HO}(r:Rd H a u)(x:eA P w H h):cu P w H h a u:=by
 rcases r with r|⟨o,r⟩
 . exact x a u r
 . obtain⟨_,q⟩:=x a _ r;exact q
def Dc:Option HO->Prop
 |some (.lst _)=>True
 |some (.dK _)=>True
 |some (.dT _)=>True
 |some (.set _ _)=>True
 |some (.ins _ _ _)=>True
 |some (.ext _)=>True
 |_=>False
section
variable {P:Program}{w:World}{H:Hp}{h h':Heap}{x e:Addr}{o':HO}
theorem eA.write(ok:eA P w H h)(mu:Dc (H x))(he:e=x\/H e=some (.own x))(k:∀b u,b≠e->h.get? b=some u->h'.get? b=some u)(heo:∃u,h'.get? e=some u)
 (new:cu P w (upd H x o') h' x o'):eA P w (upd H x o') h':=fun b u q=>by
 have nown:∀c y,H c=some (.own y)->c≠x:=fun c y r z=>by subst z;rw[r]at mu;exact mu
 have ntup:∀c xs,H c=some (.tup xs)->c≠x:=fun c xs r z=>by subst z;rw[r]at mu;exact mu
 by_cases hb:b=x
 . subst hb;rw[aK]at q;cases q;exact new
 . rw[az hb]at q;by_cases hbe:b=e
   . have q':H b=some (.own x):=by
      rcases he with z|z
      . exact absurd (hbe.trans z) hb
      . rw[hbe];exact z
     rw[q]at q';cases q';obtain⟨v,hv⟩:=heo;exact⟨v,by rw[hbe];exact hv⟩
   . refine(ok b u q).jS (fun c v hc r=>k c v ?_ r) (fun c r=>by rw[az (nown c b r)];exact r) fun c xs r=>by rw[az (ntup c xs r)];exact r
     rcases hc with rfl|hc
     . exact hbe
     . rintro rfl;rcases he with z|z
       . exact nown c b hc z
       . rw[hc]at z;cases z;exact hb rfl
end
structure Un(fs ex:List Addr)(H H':Hp)(h h':Heap):Prop where
 keep:∀b o,h.get? b=some o->H b=none->b∉fs->b∉ex->h'.get? b=some o
 slot:∀b o,h.get? b=some o->H b=none->b∈fs->b∉ex->∃sl,h'.get? b=some {o with slots:=sl}
 free:∀b o,h.get? b=some o->H b=none->b∉ex->H' b=none
 there:∀b o,h.get? b=some o->b∉ex->∃o',h'.get? b=some o'
 iQ:∀b xs,H b=some (.tup xs)->H' b=some (.tup xs)
 iq:∀b o u,H b=some (.e9 o u)->H' b=some (.e9 o u)
 hJ:∀b ps,H b=some (.g5 ps)->∃more,H' b=some (.g5 (ps++more))
section
variable {fs fs' ex ex':List Addr}{H H1 H2:Hp}{h h1 h2 h':Heap}{a x e:Addr}{o:HO}
theorem Un.any(u:Un fs ex H H1 h h1){b:Addr}{ob:Obj}(q:h.get? b=some ob)(n:H b=none)(hx:b∉ex):∃sl,h1.get? b=some {ob with slots:=sl}:=by
 by_cases hb:b∈fs
 . exact u.slot b ob q n hb hx
 . exact⟨ob.slots,u.keep b ob q n hb hx⟩
theorem Un.kept(k:∀b u,h.get? b=some u->h'.get? b=some u):Un fs ex H H h h':=
 ⟨fun b ob q _ _ _=>k b ob q,fun b ob q _ _ _=>⟨ob.slots,k b ob q⟩,fun _ _ _ n _=>n,fun b ob q _=>⟨ob,k b ob q⟩,fun _ _ q=>q,fun _ _ _ q=>q,fun _ ps q=>⟨#[],by rw[q];simp⟩⟩
theorem Un.refl:Un fs ex H H h h:=Un.kept fun _ _ q=>q
theorem Un.laid(k:∀b u,h.get? b=some u->h'.get? b=some u)(hp:h.objs.size<=a)(hn:H a=none):Un fs ex H (upd H a o) h h' where
 keep:=fun b u q _ _ _=>k b u q
 slot:=fun b u q _ _ _=>⟨u.slots,k b u q⟩
 free:=fun b u q n _=>by rw[az (Nat.ne_of_lt (Nat.lt_of_lt_of_le (Heap.lt_size q) hp))];exact n
 there:=fun b u q _=>⟨u,k b u q⟩
 iQ:=fun b xs q=>by rw[az (cv q hn)];exact q
 iq:=fun b u xs q=>by rw[az (cv q hn)];exact q
 hJ:=fun b ps q=>⟨#[],by rw[az (cv q hn),q];simp⟩
theorem Un.write(mu:Dc (H x))(he:e=x\/H e=some (.own x))(k:∀b u,b≠e->h.get? b=some u->h'.get? b=some u)(heo:∃u,h'.get? e=some u):Un fs ex H (upd H x o) h h':=by
 have hx:∀b,H b=none->b≠x:=fun b n z=>by subst z;rw[n]at mu;exact mu
 have hb:∀b,H b=none->b≠e:=fun b n z=>by
  subst z;rcases he with r|r
  . exact hx b n r
  . rw[n]at r;cases r
 have hm:∀b u,H b=some u->¬Dc (some u)->b≠x:=fun b u q nm z=>by subst z;rw[q]at mu;exact nm mu
 refine⟨fun b u q n _ _=>k b u (hb b n) q,fun b u q n _ _=>⟨u.slots,k b u (hb b n) q⟩,fun b u q n _=>by rw[az (hx b n)];exact n,fun b u q _=>?_,
  fun b xs q=>by rw[az (hm b _ q fun z=>z)];exact q,fun b u xs q=>by rw[az (hm b _ q fun z=>z)];exact q,fun b ps q=>⟨#[],by rw[az (hm b _ q fun z=>z),q];simp⟩⟩
 by_cases hbe:b=e
 . subst hbe;exact heo
 . exact⟨u,k b u hbe q⟩
end
def Dt(h:Heap)(H:Hp):List Addr:=(List.range h.objs.size).filter fun a=>(H a).isSome
def lJ(h:Heap)(H:Hp):Heap:=PySem.W.hideAll h (Dt h H)
theorem zA(h:Heap)(H:Hp):(lJ h H).objs.size=h.objs.size:=PySem.W.hideAll_size _ _
theorem mT{h:Heap}{H:Hp}{b:Addr}{o:Obj}(e:h.get? b=some o)(n:H b=none):(lJ h H).get? b=some o:=
 PySem.W.hideAll_get _ e fun hm=>by
  have q:(H b).isSome=true:=(List.mem_filter.mp hm).2;rw[n]at q;simp at q
theorem EE{h:Heap}{H:Hp}{b:Addr}{o:Obj}(e:(lJ h H).get? b=some o):h.get? b=some o/\H b=none:=by
 have e':h.get? b=some o:=PySem.W.of_hideAll (Dt h H) e;refine⟨e',?_⟩;cases q:H b with
 |none=>rfl
 |some x=>
  have hm:b∈Dt h H:=List.mem_filter.mpr ⟨List.mem_range.mpr (Heap.lt_size e'),by simp[q]⟩;have z:(lJ h H).get? b=none:=PySem.W.hideAll_none (Dt h H) hm;rw[z]at e;cases e
def Fg(g h:Heap)(L:Addr):List (Addr×Obj):=(List.range h.objs.size).filterMap fun a=>if a=L\/(g.get? a).isSome=true then none else(h.get? a).map fun o=>(a,o)
def rest(g h:Heap)(L d:Addr):List (Addr×Obj):=(Fg g h L).filter fun p=>decide (p.1≠d)
structure Mod(K:PySem.W.Frag)(mg:Str->Option Value)(base:Heap):Prop where
 uS:K.In base
 glob:base.Ns mainGlobals mg
 blt:∃mb,base.Ns builtinsNs mb/\∀x:Str,x≠"__name__"->mb x=bootBuiltins x
 nolimit:base.NoLimit
 seer:base.NoSeer
 bmain:∃bm ob,mg "__builtins__"=some (.ref bm)/\bm≠builtinsNs/\base.get? bm=some ob/\ob.cls= .type "module"/\ob.dict=some builtinsNs/\ob.data= .plain
structure Cx where
 prog:Program
 w:World
 K:PySem.W.Frag
 mg:Str->Option Value
 base:Heap
 A:Around
 N:List Str
 s₀:Shared
 H₀:Hp
 env:Env
 outer:List Env
 stack:List Env
 ex:List Addr
 fn:Str->Bool
 calm:Bool
 pn:List (Addr×Obj)
 xe:Value->Shared->Prop
def fF(l:List Env):List Addr:=l.filterMap (·.frame)
abbrev Cx.fs(X:Cx):List Addr:=fF X.outer
def tL(sc:Scope)(x:Str):Prop:=sc.names.lookup x=some .local\/sc.names.lookup x=some .cell\/sc.names.lookup x=some .free
def Loc(sc:Scope)(x:Str):Prop:=sc.names.lookup x=some .local\/sc.names.lookup x=some .cell
def Look(env:Env)(h:Heap)(m:Str->Option Value)(x:Str)(u:Value):Prop:=
 (env.kindOf x=some .local/\m x=some u)\/((env.kindOf x=some .cell\/env.kindOf x=some .free)/\∃c,env.cells.lookup x=some c/\h.IsCell c (some u))
structure Cx.Ok(X:Cx):Prop where
 mod:Mod X.K X.mg X.base
 kind:X.env.scope.kind= .function
 glob:X.env.globals=mainGlobals
 blt:X.env.builtins=builtinsNs
 above:X.s₀.heap.objs.size<=X.env.locals
 inj:∀x y c,X.env.cells.lookup x=some c->X.env.cells.lookup y=some c->x=y
 has:∀x,(X.env.kindOf x=some .cell\/X.env.kindOf x=some .free)->∃c,X.env.cells.lookup x=some c
 tu:∀x c,X.fn x=true->X.env.cells.lookup x=some c->X.s₀.heap.objs.size<=c
 hd:X.calm=true->X.A.handled=none
 frames:X.A.frames=some X.stack
 vJ:X.stack=X.outer\/(X.stack=X.env::X.outer/\X.env.frame=some X.env.locals)
 xk:∀b∈X.ex,b≠X.env.locals/\∀x c,X.env.cells.lookup x=some c->c≠b
 bs:∀b o,X.base.get? b=some o->X.s₀.heap.get? b=some o/\X.H₀ b=none
 nq:X.base.objs.size<=X.s₀.heap.objs.size
 nQ:∀b o,X.base.get? b=some o->b∉X.ex
 oi:∀b∈X.ex,b∉X.fs
 gX:X.s₀.heap.FunFrames X.base X.outer
 oo:∀b∈X.fs,X.H₀ b=none
 gt:X.prog.given.tree=none
structure Inv(X:Cx)(pins:List (Addr×Obj))(σ:List (Option V))(H:Hp)(s:Shared):Prop where
 ok:X.Ok
 os:s.os=X.s₀.os
 bare:AllBare s.gens
 base:Un X.fs X.ex X.H₀ H X.s₀.heap s.heap
 loc:∃m,s.heap.Ns X.env.locals m/\∀(i:Nat) (x:Str) (v:V),X.N[i]?=some x->σ[i]?=some (some v)->tL X.env.scope x->∃u,RelV v u/\Look X.env s.heap m x u
 cell:∀x c,X.env.cells.lookup x=some c->∃v,s.heap.IsCell c v
 free:H X.env.locals=none
 eS:∀x c,X.env.cells.lookup x=some c->H c=none
 pin:∀p∈X.pn++pins,s.heap.get? p.1=some p.2/\H p.1=none/\p.1≠X.env.locals/\p.1∉X.fs/\∀v,p.2.data≠ .cell v
 aB:eA X.prog X.w H s.heap
 len:σ.length=X.N.length
section
variable {X:Cx}{pins:List (Addr×Obj)}{σ:List (Option V)}{H H':Hp}{s:Shared}{h':Heap}
theorem Cx.Ok.Lh(ok:X.Ok){b:Addr}{o:Obj}(e:X.base.get? b=some o):b∉X.fs:=fun hb=>by
 have:=(ok.gX.mem hb).1;rw[e]at this;cases this
theorem Inv.bs(I:Inv X pins σ H s):∀b o,X.base.get? b=some o->s.heap.get? b=some o/\H b=none:=fun b o e=>
 ⟨I.base.keep b o (I.ok.bs b o e).1 (I.ok.bs b o e).2 (I.ok.Lh e) (I.ok.nQ b o e),I.base.free b o (I.ok.bs b o e).1 (I.ok.bs b o e).2 (I.ok.nQ b o e)⟩
theorem Inv.bk(I:Inv X pins σ H s):∀b o,X.base.get? b=some o->s.heap.get? b=some o:=fun b o e=>(I.bs b o e).1
theorem Inv.mod(I:Inv X pins σ H s):Mod X.K X.mg X.base:=I.ok.mod
theorem Inv.d5(I:Inv X pins σ H s):X.K.In s.heap:=I.ok.mod.uS.keeps I.bk
theorem Inv.nolimit(I:Inv X pins σ H s):s.heap.NoLimit:=I.ok.mod.nolimit.keeps I.bk
theorem Inv.lt(I:Inv X pins σ H s):X.env.locals<s.heap.objs.size:=let⟨_,hn,_⟩:=I.loc;hn.lt
theorem Inv.sz(I:Inv X pins σ H s):X.s₀.heap.objs.size<=s.heap.objs.size:=Nat.le_trans I.ok.above (Nat.le_of_lt I.lt)
theorem Inv.GC(I:Inv X pins σ H s){a:Addr}(h:s.heap.objs.size<=a):a∉X.fs:=fun hb=>by
 obtain⟨_,o,ho,_⟩:=I.ok.gX.mem hb;exact absurd (Nat.lt_of_lt_of_le (Heap.lt_size ho) (Nat.le_trans I.sz h)) (Nat.lt_irrefl _)
theorem Inv.oJ(I:Inv X pins σ H s):∀x c,X.env.cells.lookup x=some c->c≠X.env.locals:=fun x c e z=>by
 obtain⟨v,o,ho,hd⟩:=I.cell x c e;obtain⟨m,⟨o',es,ep,ho',hd',_⟩,_⟩:=I.loc;rw[z,ho']at ho;cases ho;rw[hd']at hd;cases hd
theorem Inv.gX(I:Inv X pins σ H s):s.heap.FunFrames X.base X.outer:=by
 have all:∀(l:List Env),(∀b∈fF l,b∈X.fs)->X.s₀.heap.FunFrames X.base l->s.heap.FunFrames X.base l:=by
  intro l;induction l with
  |nil=>intro _ _;trivial
  |cons env r ih=>
   intro hs hl;obtain⟨hk,⟨L,o,hf,hn,ho,hd⟩,hr⟩:=hl;have hL:L∈X.fs:=hs L (by unfold fF;rw[List.filterMap_cons,hf];exact List.mem_cons_self);obtain⟨sl,e⟩:=I.base.slot L o ho (I.ok.oo L hL) hL fun z=>I.ok.oi L z hL;exact⟨hk,⟨L,_,hf,hn,e,hd⟩,ih (fun b hb=>hs b (by unfold fF;rw[List.filterMap_cons,hf];exact List.mem_cons_of_mem _ hb)) hr⟩
 exact all X.outer (fun _ hb=>hb) I.ok.gX
theorem Inv.stack(I:Inv X pins σ H s):s.heap.FunFrames X.base X.stack:=by
 rcases I.ok.vJ with e|⟨e,hf⟩
 . rw[e];exact I.gX
 . rw[e];obtain⟨m,hn,_⟩:=I.loc;refine .cons (by rw[I.ok.kind];decide) hf hn ?_ I.gX;exact Heap.get?_none_of_le (Nat.le_trans I.ok.nq I.ok.above)
theorem Inv.ve(I:Inv X pins σ H s):∀b∈fF X.stack,b∈X.env.locals::X.fs:=fun b hb=>by
 rcases I.ok.vJ with e|⟨e,hf⟩
 . rw[e]at hb;exact List.mem_cons_of_mem _ hb
 . rw[e]at hb;unfold fF at hb;rw[List.filterMap_cons,hf]at hb;exact hb
theorem Inv.mx(I:Inv X pins σ H s):∀b∈fF X.stack,H b=none:=fun b hb=>by
 rcases List.mem_cons.mp (I.ve b hb)with e|hb
 . rw[e];exact I.free
 . obtain⟨_,o,ho,_⟩:=I.ok.gX.mem hb;exact I.base.free b o ho (I.ok.oo b hb) fun z=>I.ok.oi b z hb
theorem Inv.step{g':Array GenState}{t':Nat}{d':Drawn}{ch:List Addr}(I:Inv X pins σ H s)
 (hch:∀b∈ch,(b∈X.ex\/X.s₀.heap.objs.size<=b)/\b≠X.env.locals/\(∀x c,X.env.cells.lookup x=some c->c≠b)/\∀p∈X.pn++pins,p.1≠b)
 (keep:∀b o,b≠X.env.locals->b∉X.fs->b∉ch->s.heap.get? b=some o->H b=none->h'.get? b=some o)
 (slot:∀b o,b≠X.env.locals->b∈X.fs->b∉ch->s.heap.get? b=some o->H b=none->∃sl,h'.get? b=some {o with slots:=sl}) (free:∀b o,b∉ch->s.heap.get? b=some o->H b=none->H' b=none)
 (there:∀b o,b∉ch->s.heap.get? b=some o->∃o',h'.get? b=some o')
 (iQ:∀b xs,H b=some (.tup xs)->H' b=some (.tup xs)) (iq:∀b o u,H b=some (.e9 o u)->H' b=some (.e9 o u)) (hJ:∀b ps,H b=some (.g5 ps)->∃more,H' b=some (.g5 (ps++more)))
 (ns:∀m,s.heap.Ns X.env.locals m->h'.Ns X.env.locals m) (aB:eA X.prog X.w H' h') (hg:AllBare g'):
 Inv X pins σ H' {s with heap:=h',gens:=g',drawn:=d',toks:=t'}:=by
 have neL:∀b o,X.s₀.heap.get? b=some o->b≠X.env.locals:=fun b o e=>Nat.ne_of_lt (Nat.lt_of_lt_of_le (Heap.lt_size e) I.ok.above)
 have neC:∀b o,X.s₀.heap.get? b=some o->b∉X.ex->b∉ch:=fun b o e hx hb=>by
  rcases(hch b hb).1 with z|z
  . exact hx z
  . exact absurd (Nat.lt_of_lt_of_le (Heap.lt_size e) z) (Nat.lt_irrefl _)
 have cellK:∀x c,X.env.cells.lookup x=some c->∀v,s.heap.IsCell c v->h'.IsCell c v:=fun x c e v ⟨o,ho,hd⟩=>by
  have nch:c∉ch:=fun z=>(hch c z).2.2.1 x c e rfl;by_cases hc:c∈X.fs
  . obtain⟨sl,q⟩:=slot c o (I.oJ x c e) hc nch ho (I.eS x c e);exact⟨_,q,hd⟩
  . exact⟨o,keep c o (I.oJ x c e) hc nch ho (I.eS x c e),hd⟩
 refine⟨I.ok,I.os,hg,⟨fun b o e n hb hx=>?_,fun b o e n hb hx=>?_,fun b o e n hx=>?_,fun b o e hx=>?_,fun b xs e=>iQ b xs (I.base.iQ b xs e),fun b o xs e=>iq b o xs (I.base.iq b o xs e),fun b ps e=>?_⟩,?_,fun x c e=>?_,?_,fun x c e=>?_,fun p hp=>?_,aB,I.len⟩
 . exact keep b o (neL b o e) hb (neC b o e hx) (I.base.keep b o e n hb hx) (I.base.free b o e n hx)
 . obtain⟨sl,e1⟩:=I.base.slot b o e n hb hx;obtain⟨sl',e2⟩:=slot b _ (neL b o e) hb (neC b o e hx) e1 (I.base.free b o e n hx);exact⟨sl',e2⟩
 . obtain⟨o',e1⟩:=I.base.there b o e hx;exact free b o' (neC b o e hx) e1 (I.base.free b o e n hx)
 . obtain⟨o',e1⟩:=I.base.there b o e hx;exact there b o' (neC b o e hx) e1
 . obtain⟨m1,e1⟩:=I.base.hJ b ps e;obtain⟨m2,e2⟩:=hJ b _ e1;exact⟨m1++m2,by rw[e2,Array.append_assoc]⟩
 . obtain⟨m,hn,hl⟩:=I.loc;refine⟨m,ns m hn,fun i x v e1 e2 e3=>?_⟩;obtain⟨u,r,l⟩:=hl i x v e1 e2 e3;refine⟨u,r,?_⟩;rcases l with l|⟨k,c,e,z⟩
   . exact .inl l
   . exact .inr ⟨k,c,e,cellK x c e _ z⟩
 . obtain⟨v,z⟩:=I.cell x c e;exact⟨v,cellK x c e v z⟩
 . obtain⟨m,⟨o,_,_,ho,_⟩,_⟩:=I.loc;exact free _ o (fun z=>(hch _ z).2.1 rfl) ho I.free
 . obtain⟨v,o,ho,hd⟩:=I.cell x c e;exact free c o (fun z=>(hch c z).2.2.1 x c e rfl) ho (I.eS x c e)
 . obtain⟨e,n,ne,nf,d⟩:=I.pin p hp;have nch:p.1∉ch:=fun z=>(hch p.1 z).2.2.2 p hp rfl;exact⟨keep p.1 p.2 ne nf nch e n,free p.1 p.2 nch e n,ne,nf,d⟩
theorem Inv.un{t':Nat}(I:Inv X pins σ H s)(u:Un X.fs [] H H' s.heap h')(aB:eA X.prog X.w H' h'):Inv X pins σ H' {s with heap:=h',toks:=t'}:=by
 obtain⟨m,⟨o,es,ep,ho,r⟩,_⟩:=id I.loc;obtain⟨sl,hL⟩:=u.any ho I.free (by simp)
 exact I.step (g':=s.gens) (d':=s.drawn) (ch:=[]) (fun _ z=>nomatch z) (fun b o _ hb _ e n=>u.keep b o e n hb (by simp)) (fun b o _ hb _ e n=>u.slot b o e n hb (by simp)) (fun b o _ e n=>u.free b o e n (by simp)) (fun b o _ e=>u.there b o e (by simp)) u.iQ u.iq u.hJ (fun m' hm=>by
  obtain⟨o',es',ep',ho',r'⟩:=hm;rw[ho]at ho';cases ho';exact⟨_,es',ep',hL,r'⟩) aB I.bare
theorem Inv.call{g':Array GenState}{t':Nat}{d':Drawn}{ch:List Addr}(I:Inv X pins σ H s)(u:Un (fF X.stack) ch H H' s.heap h')(aB:eA X.prog X.w H' h')(hg:AllBare g')
 (hch:∀b∈ch,(b∈X.ex\/X.s₀.heap.objs.size<=b)/\b≠X.env.locals/\(∀x c,X.env.cells.lookup x=some c->c≠b)/\∀p∈X.pn++pins,p.1≠b):
 Inv X pins σ H' {s with heap:=h',gens:=g',drawn:=d',toks:=t'}:=by
 obtain⟨m,⟨o,es,ep,ho,r⟩,_⟩:=id I.loc;obtain⟨sl,hL⟩:=u.any ho I.free fun z=>(hch _ z).2.1 rfl
 exact I.step (ch:=ch) hch (fun b o hL hb hc e n=>u.keep b o e n (fun z=>(List.mem_cons.mp (I.ve b z)).elim hL hb) hc) (fun b o _ _ hc e n=>u.any e n hc) (fun b o hc e n=>u.free b o e n hc) (fun b o hc e=>u.there b o e hc) u.iQ u.iq u.hJ (fun m' hm=>by
  obtain⟨o',es',ep',ho',r'⟩:=hm;rw[ho]at ho';cases ho';exact⟨_,es',ep',hL,r'⟩) aB hg
theorem Inv.turned{t':Nat}{it:Addr}(I:Inv X pins σ H s)(k:∀b o,b≠it->s.heap.get? b=some o->h'.get? b=some o)(hn:H it=none)(hL:it≠X.env.locals)
 (h1:it∈X.ex\/X.s₀.heap.objs.size<=it) (h2:∀x c,X.env.cells.lookup x=some c->c≠it) (h3:∀p∈X.pn++pins,p.1≠it):Inv X pins σ H {s with heap:=h',toks:=t'}:=by
 have nit:∀b u,H b=some u->b≠it:=fun b u e z=>by rw[z,hn]at e;cases e
 refine I.step (g':=s.gens) (d':=s.drawn) (ch:=[it]) (fun b hb=>?_) (fun b o _ _ hc e _=>k b o (fun z=>hc (by simp[z])) e) (fun b o _ _ hc e _=>⟨o.slots,k b o (fun z=>hc (by simp[z])) e⟩) (fun _ _ _ _ n=>n)
  (fun b o hc e=>⟨o,k b o (fun z=>hc (by simp[z])) e⟩) (fun _ _ e=>e) (fun _ _ _ e=>e) (fun b ps e=>⟨#[],by rw[e];simp⟩) (fun m hm=>?_) (fun b u e=>?_) I.bare
 . have e:b=it:=by simpa using hb
   subst e;exact⟨h1,hL,h2,h3⟩
 . obtain⟨o,es,ep,ho,r⟩:=hm;exact⟨o,es,ep,k _ o (Ne.symm hL) ho,r⟩
 . refine(I.aB b u e).jS (fun c v hc q=>k c v ?_ q) (fun _ q=>q) fun _ _ q=>q;rcases hc with z|z
   . rw[z];exact nit b u e
   . exact nit c _ z
theorem Inv.tok(I:Inv X pins σ H s)(t:Nat):Inv X pins σ H {s with toks:=t}:=I.un (h':=s.heap) (t':=t) Un.refl I.aB
theorem Inv.kept{t':Nat}(I:Inv X pins σ H s)(k:∀b u,s.heap.get? b=some u->h'.get? b=some u):Inv X pins σ H {s with heap:=h',toks:=t'}:=I.un (Un.kept k) (I.aB.kept k)
theorem Inv.laid{a:Addr}{o:HO}{t':Nat}(I:Inv X pins σ H s)(k:∀b u,s.heap.get? b=some u->h'.get? b=some u)(hp:s.heap.objs.size<=a)(new:cu X.prog X.w (upd H a o) h' a o):
 Inv X pins σ (upd H a o) {s with heap:=h',toks:=t'}:=I.un (Un.laid k hp (I.aB.fresh hp)) (I.aB.laid k hp new)
theorem Inv.write{x e:Addr}{o:HO}{t':Nat}(I:Inv X pins σ H s)(mu:Dc (H x))(he:e=x\/H e=some (.own x))(k:∀b u,b≠e->s.heap.get? b=some u->h'.get? b=some u)(heo:∃u,h'.get? e=some u)
 (new:cu X.prog X.w (upd H x o) h' x o):Inv X pins σ (upd H x o) {s with heap:=h',toks:=t'}:=I.un (Un.write mu he k heo) (I.aB.write mu he k heo new)
theorem Inv.o5{pins':List (Addr×Obj)}(I:Inv X pins σ H s)(h:∀p∈pins',s.heap.get? p.1=some p.2/\H p.1=none/\p.1≠X.env.locals/\p.1∉X.fs/\∀v,p.2.data≠ .cell v):Inv X pins' σ H s:=
 ⟨I.ok,I.os,I.bare,I.base,I.loc,I.cell,I.free,I.eS,fun p hp=>(List.mem_append.mp hp).elim (fun z=>I.pin p (List.mem_append_left _ z)) (h p),I.aB,I.len⟩
theorem pU{N:List Str}(hN:N.Nodup){i j:Nat}{x:Str}(a:N[i]?=some x)(b:N[j]?=some x):i=j:=by
 obtain⟨h1,e1⟩:=List.getElem?_eq_some_iff.mp a;obtain⟨h2,e2⟩:=List.getElem?_eq_some_iff.mp b;exact(List.getElem_inj hN).mp (e1.trans e2.symm)
theorem tI{M:Model}{A:Around}{E:Value->Shared->Prop}{i:Nat}{x:Str}{v:V}{u:Value}{Q:Unit->Shared->Prop}(I:Inv X pins σ H s)(hN:X.N.Nodup)(hi:X.N[i]?=some x)(hx:Loc X.env.scope x)(r:RelV v u)
 (h:∀s',Inv X pins (σ.set i (some v)) H s'->(∃a,Heap.SameBut a s.heap s'.heap/\(a=X.env.locals\/X.env.cells.lookup x=some a))->Q () s') (hf:X.fn x=true\/X.env.scope.names.lookup x=some .local:=by first|exact .inl rfl|exact .inr rfl|assumption):wpAny M A (storeName X.env x u) Q E s:=by
 obtain⟨m,hn,hl⟩:=id I.loc;have hcls:(X.env.scope.kind== .class||(X.env.scope.kind== .module&&X.env.locals != X.env.globals))=false:=by rw[I.ok.kind];rfl
 have hiσ:i<σ.length:=by rw[I.len];exact(List.getElem?_eq_some_iff.mp hi).1
 have oJ:=I.oJ
 have tracked:∀ {a:Addr} {h':Heap},(∃o,s.heap.get? a=some o/\H a=none)->Heap.SameBut a s.heap h'->eA X.prog X.w H h':=fun{a h'} ha hs b ob e=>by
  obtain⟨_,_,hfree⟩:=ha;refine(I.aB b ob e).jS (fun c w' hc q=>(hs.2 c ?_).trans q) (fun _ q=>q) fun _ _ q=>q;rintro rfl;rcases hc with rfl|hc
  . rw[hfree]at e;cases e
  . rw[hfree]at hc;cases hc
 rcases hx with hk|hk
 . refine wpAny_storeName_local hk hn (fun h' hn' hs=>?_) hcls;obtain⟨oL,_,_,hoL,_⟩:=id hn;refine h _ ⟨I.ok,I.os,I.bare,⟨fun b o e n hb hx=>?_,fun b o e n hb hx=>?_,I.base.free,fun b o e hx=>?_,I.base.iQ,I.base.iq,I.base.hJ⟩,⟨_,hn',fun j y v' e1 e2 e3=>?_⟩,fun y c e=>?_,I.free,I.eS,fun p hp=>?_,tracked ⟨oL,hoL,I.free⟩ hs,by simpa using I.len⟩ ⟨_,hs,.inl rfl⟩
   . exact(hs.2 b (Nat.ne_of_lt (Nat.lt_of_lt_of_le (Heap.lt_size e) I.ok.above))).trans (I.base.keep b o e n hb hx)
   . obtain⟨sl,e1⟩:=I.base.slot b o e n hb hx;exact⟨sl,(hs.2 b (Nat.ne_of_lt (Nat.lt_of_lt_of_le (Heap.lt_size e) I.ok.above))).trans e1⟩
   . obtain⟨o',e1⟩:=I.base.there b o e hx;exact⟨o',(hs.2 b (Nat.ne_of_lt (Nat.lt_of_lt_of_le (Heap.lt_size e) I.ok.above))).trans e1⟩
   . by_cases hj:j=i
     . subst hj;rw[hi]at e1;cases e1;rw[List.getElem?_set_self hiσ]at e2;cases e2;exact⟨u,r,.inl ⟨hk,by simp⟩⟩
     . rw[List.getElem?_set_ne (Ne.symm hj)]at e2;obtain⟨u',r',q⟩:=hl j y v' e1 e2 e3;refine⟨u',r',?_⟩;rcases q with⟨k,e⟩|⟨k,c,e,z⟩
       . refine .inl ⟨k,?_⟩;have:y≠x:=fun e=>hj (pU hN e1 (e▸hi));simp[this,e]
       . exact .inr ⟨k,c,e,z.sameBut hs (oJ y c e)⟩
   . obtain⟨w',z⟩:=I.cell y c e;exact⟨w',z.sameBut hs (oJ y c e)⟩
   . obtain⟨e,n,ne,nf,d⟩:=I.pin p hp;exact⟨(hs.2 p.1 ne).trans e,n,ne,nf,d⟩
 . have hfn:X.fn x=true:=by
    rcases hf with z|z
    . exact z
    . rw[z]at hk;cases hk
   obtain⟨c,hc⟩:=I.ok.has x (.inl hk);obtain⟨w',z⟩:=I.cell x c hc;refine wpAny_storeName_cell I.ok.kind hk hc z (fun h' hc' hs=>?_);obtain⟨oc,hoc,hocd⟩:=id z;refine h {s with heap:=h'} ⟨I.ok,I.os,I.bare,⟨fun b o e n hb hx=>?_,fun b o e n hb hx=>?_,I.base.free,fun b o e hx=>?_,I.base.iQ,I.base.iq,I.base.hJ⟩,⟨m,hn.sameBut hs (Ne.symm (oJ x c hc)),fun j y v' e1 e2 e3=>?_⟩,fun y c' e=>?_,I.free,I.eS,fun p hp=>?_,tracked ⟨oc,hoc,I.eS x c hc⟩ hs,by simpa using I.len⟩ ⟨c,hs,.inr hc⟩
   . exact(hs.2 b (Nat.ne_of_lt (Nat.lt_of_lt_of_le (Heap.lt_size e) (I.ok.tu x c hfn hc)))).trans (I.base.keep b o e n hb hx)
   . obtain⟨sl,e1⟩:=I.base.slot b o e n hb hx;exact⟨sl,(hs.2 b (Nat.ne_of_lt (Nat.lt_of_lt_of_le (Heap.lt_size e) (I.ok.tu x c hfn hc)))).trans e1⟩
   . obtain⟨o',e1⟩:=I.base.there b o e hx;exact⟨o',(hs.2 b (Nat.ne_of_lt (Nat.lt_of_lt_of_le (Heap.lt_size e) (I.ok.tu x c hfn hc)))).trans e1⟩
   . by_cases hj:j=i
     . subst hj;rw[hi]at e1;cases e1;rw[List.getElem?_set_self hiσ]at e2;cases e2;exact⟨u,r,.inr ⟨.inl hk,c,hc,hc'⟩⟩
     . rw[List.getElem?_set_ne (Ne.symm hj)]at e2;obtain⟨u',r',q⟩:=hl j y v' e1 e2 e3;refine⟨u',r',?_⟩;rcases q with q|⟨k,c',e,z'⟩
       . exact .inl q
       . refine .inr ⟨k,c',e,z'.sameBut hs ?_⟩;rintro rfl;exact hj (pU hN e1 (I.ok.inj _ _ _ e hc▸hi))
   . by_cases hcc:c'=c
     . subst hcc;exact⟨_,hc'⟩
     . obtain⟨w2,z2⟩:=I.cell y c' e;exact⟨w2,z2.sameBut hs hcc⟩
   . obtain⟨e,n,ne,nf,d⟩:=I.pin p hp;refine⟨(hs.2 p.1 ?_).trans e,n,ne,nf,d⟩;intro q;rw[q,hoc]at e;have q':oc=p.2:=Option.some.inj e;exact d w' (by rw[<-q'];exact hocd)
theorem h_{M:Model}{A:Around}{E:Value->Shared->Prop}{i:Nat}{x:Str}{v:V}{u:Value}{Q:Unit->Shared->Prop}(I:Inv X pins σ H s)(hN:X.N.Nodup)(hi:X.N[i]?=some x)(hx:Loc X.env.scope x)(r:RelV v u)
 (h:∀s',Inv X pins (σ.set i (some v)) H s'->Q () s') (hf:X.fn x=true\/X.env.scope.names.lookup x=some .local:=by first|exact .inl rfl|exact .inr rfl|assumption):wpAny M A (storeName X.env x u) Q E s:=
 tI I hN hi hx r (fun s' I' _=>h s' I') hf
theorem Inv.uD{s':Shared}{ch:List Addr}(I:Inv X pins σ H s)(ho:s'.os=s.os)(u:Un (fF X.stack) ch H H' s.heap s'.heap)(aB:eA X.prog X.w H' s'.heap)(hg:AllBare s'.gens)
 (hch:∀b∈ch,(b∈X.ex\/X.s₀.heap.objs.size<=b)/\b≠X.env.locals/\(∀x c,X.env.cells.lookup x=some c->c≠b)/\∀p∈X.pn++pins,p.1≠b):Inv X pins σ H' s':=by
 obtain⟨h',g',d',t',o'⟩:=s';have e:o'=s.os:=ho;subst e;exact I.call (g':=g') (t':=t') (d':=d') u aB hg hch
end
abbrev XK:=Value->Option Addr->Hp->Prop
abbrev St:=List (Option V)
abbrev VK:=V->Hp->Prop
abbrev TE:=St->Hp->VK->Prop
abbrev TT:=St->Hp->(Bool->Hp->Prop)->Prop
abbrev TA:=St->Hp->(List V->Hp->Prop)->Prop
structure Ends where
 nx:St->Hp->Prop
 rt:VK
 bk:St->Hp->Prop:=fun _ _=>False
 ct:St->Hp->Prop:=fun _ _=>False
abbrev TS:=Ends->St->Hp->Prop
def EP(X:Cx)(pins:List (Addr×Obj))(σ:St)(Q:VK)(u:Value)(s':Shared):Prop:=∃v H',Inv X pins σ H' s'/\RelV v u/\Q v H'
def TP(X:Cx)(pins:List (Addr×Obj))(σ:St)(Q:Bool->Hp->Prop)(b:Bool)(s':Shared):Prop:=∃H',Inv X pins σ H' s'/\Q b H'
def AP(X:Cx)(pins:List (Addr×Obj))(σ:St)(Q:List V->Hp->Prop)(us:List Value)(s':Shared):Prop:=∃vs H',Inv X pins σ H' s'/\Vals vs us/\Q vs H'
def SP(X:Cx)(pins:List (Addr×Obj))(D:Ends)(f:Flow)(s':Shared):Prop:=
 match f with
 | .next=>∃σ' H',Inv X pins σ' H' s'/\D.nx σ' H'
 | .brk=>∃σ' H',Inv X pins σ' H' s'/\D.bk σ' H'
 | .cont=>∃σ' H',Inv X pins σ' H' s'/\D.ct σ' H'
 | .ret u=>∃v σ' H',Inv X pins σ' H' s'/\RelV v u/\D.rt v H'
def PE(X:Cx)(e:Expr)(t:TE):Prop:=
 ∀(pins:List (Addr×Obj)) (s:Shared) (σ:St) (H:Hp) (Q:VK),Inv X pins σ H s->t σ H Q->wpAny (model X.prog X.w) X.A (eval e X.env) (EP X pins σ Q) X.xe s
def PT(X:Cx)(e:Expr)(t:TT):Prop:=
 ∀(pins:List (Addr×Obj)) (s:Shared) (σ:St) (H:Hp) (Q:Bool->Hp->Prop),Inv X pins σ H s->t σ H Q->wpAny (model X.prog X.w) X.A (isTrue e X.env (eval e X.env)) (TP X pins σ Q) X.xe s
def PW(X:Cx)(e:Expr)(t:TT):Prop:=
 ∀(whole:Sem Value) (pins:List (Addr×Obj)) (s:Shared) (σ:St) (H:Hp) (Q:Bool->Hp->Prop),Inv X pins σ H s->t σ H Q->wpAny (model X.prog X.w) X.A (isTrue e X.env whole) (TP X pins σ Q) X.xe s
theorem PW.pt{X:Cx}{e:Expr}{t:TT}(h:PW X e t):PT X e t:=h _
def PA(X:Cx)(es:List Expr)(t:TA):Prop:=
 ∀(pos:Pos) (pins:List (Addr×Obj)) (s:Shared) (σ:St) (H:Hp) (Q:List V->Hp->Prop),Inv X pins σ H s->t σ H Q->wpAny (model X.prog X.w) X.A (spliced (backTo pos (starEach es X.env))) (AP X pins σ Q) X.xe s
def PS(X:Cx)(st:Stmt)(t:TS):Prop:=
 ∀(pins:List (Addr×Obj)) (s:Shared) (σ:St) (H:Hp) (D:Ends),Inv X pins σ H s->t D σ H->wpAny (model X.prog X.w) X.A (exec st X.env) (SP X pins D) X.xe s
def c9(X:Cx)(st:List Stmt)(t:TS):Prop:=
 ∀(pins:List (Addr×Obj)) (s:Shared) (σ:St) (H:Hp) (D:Ends),Inv X pins σ H s->t D σ H->wpAny (model X.prog X.w) X.A (execs st X.env) (SP X pins D) X.xe s
theorem bp{α:Type}{t:Sem α}{Q Q':α->Shared->Prop}{M:Model}{A:Around}{E:Value->Shared->Prop}{s:Shared}(h:wpAny M A t Q E s)(hQ:∀a s,Q a s->Q' a s):wpAny M A t Q' E s:=wpAny_mono h hQ fun _ _ x=>x
section
variable {X:Cx}
def lL(i:Nat):TE:=fun σ H Q=>∃v,σ[i]?=some (some v)/\Q v H
def tC(v:V):TE:=fun _ H Q=>Q v H
theorem vc{i:Nat}{x:Str}{pos:Pos}(hN:X.N[i]?=some x)(hv:tL X.env.scope x)(hd:(x==("__debug__":Str))=false:=by decide)(hcd:(x==("__classdict__":Str))=false:=by decide):PE X (.Name x pos) (lL i):=by
 intro pins s σ H Q I h;obtain⟨v,e,h⟩:=h;obtain⟨m,hn,hl⟩:=I.loc;obtain⟨u,r,l⟩:=hl i x v hN e hv;have fin:EP X pins σ Q u s:=⟨v,H,I,r,h⟩
 rcases l with⟨hk,hm⟩|⟨hk,c,hc,hcell⟩
 . exact wpAny_Name (wpAny_loadName_local I.ok.kind hk hn hm fin) hd
 . rcases hk with hk|hk
   . exact wpAny_Name (wpAny_loadName_cell I.ok.kind hk hc hcell fin) hd
   . exact wpAny_Name (wpAny_loadName_free I.ok.kind hk hc hcell fin hcd) hd
theorem Fy{i j pos}:PE X (.Constant (.int i) j pos) (tC (.int i)):=fun _ _ _ H _ I h=>wpAny_Constant_int ⟨.int i,H,I.tok _,⟨_,rfl⟩,h⟩
theorem Jh{b j pos}:PE X (.Constant (.bool b) j pos) (tC (.bl b)):=fun _ _ _ H _ I h=>Constant_bool ⟨.bl b,H,I,rfl,h⟩
theorem vA{j pos}:PE X (.Constant .none j pos) (tC .aC):=fun _ _ _ H _ I h=>Constant_none ⟨.aC,H,I,rfl,h⟩
theorem wm{x j pos}:PE X (.Constant (.str x) j pos) (tC (.str x)):=fun _ _ _ H _ I h=>Calls.Constant_str ⟨.str x,H,I.tok _,⟨_,rfl⟩,h⟩
def Gl(X:Cx)(x:Str):Prop:=X.env.kindOf x=some .globalImplicit
theorem kj{E:Value->Shared->Prop}{pins:List (Addr×Obj)}{s:Shared}{σ:St}{H:Hp}{x:Str}{u:Value}{pos:Pos}{Q:Value->Shared->Prop}(I:Inv X pins σ H s)(hg:Gl X x)(hm:X.mg x=some u)(h:Q u s)
 (hd:(x==("__debug__":Str))=false:=by decide):wpAny (model X.prog X.w) X.A (eval (.Name x pos) X.env) Q E s:=
 Calls.Name_function_global I.ok.kind hg (Calls.loadGlobal_global (by rw[I.ok.glob];exact I.mod.glob.keeps I.bk) hm h) hd
theorem jH{E:Value->Shared->Prop}{pins:List (Addr×Obj)}{s:Shared}{σ:St}{H:Hp}{x:Str}{u:Value}{pos:Pos}{Q:Value->Shared->Prop}(I:Inv X pins σ H s)(hg:Gl X x)(hm:X.mg x=none)(hv:bootBuiltins x=some u)(h:Q u s)
 (hn:x≠"__name__":=by decide) (hd:(x==("__debug__":Str))=false:=by decide):wpAny (model X.prog X.w) X.A (eval (.Name x pos) X.env) Q E s:=by
 obtain⟨mb,h1,h2⟩:=I.mod.blt;exact Calls.Name_function_global I.ok.kind hg (Calls.loadGlobal_builtin (by rw[I.ok.glob];exact I.mod.glob.keeps I.bk) hm (by rw[I.ok.blt];exact h1.keeps I.bk) ((h2 x hn).trans hv) h) hd
theorem o7{x:Str}{v:V}{u:Value}{pos:Pos}(hg:Gl X x)(hm:X.mg x=some u)(r:RelV v u)(hd:(x==("__debug__":Str))=false:=by decide):PE X (.Name x pos) (tC v):=
 fun _ _ _ H _ I h=>kj I hg hm ⟨v,H,I,r,h⟩ hd
theorem xJ{x:Str}{v:V}{u:Value}{pos:Pos}(hg:Gl X x)(hm:X.mg x=none)(hv:bootBuiltins x=some u)(r:RelV v u)(hn:x≠"__name__":=by decide)(hd:(x==("__debug__":Str))=false:=by decide):PE X (.Name x pos) (tC v):=
 fun _ _ _ H _ I h=>jH I hg hm hv ⟨v,H,I,r,h⟩ hn hd
variable {a b:Expr}{ta tb:TE}{pos:Pos}
def PC(X:Cx)(op:CmpOp)(a b:Expr)(t:TE):Prop:=
 ∀(pins:List (Addr×Obj)) (s:Shared) (σ:St) (H:Hp) (Q:VK),Inv X pins σ H s->t σ H Q->
  wpAny (model X.prog X.w) X.A (eval a X.env) (fun v s₁=>wpAny (model X.prog X.w) X.A (eval b X.env) (fun u s₂=>wpAny (model X.prog X.w) X.A (compareOp op v u) (EP X pins σ Q) X.xe s₂) X.xe s₁) X.xe s
theorem CG(b:Expr){op:CmpOp}(h:op≠ .In)(h2:op≠ .NotIn):behindInMarks op b=false:=by
 have e1:(op==CmpOp.In)=false:=by cases op<;>first|rfl|exact absurd rfl h
 have e2:(op==CmpOp.NotIn)=false:=by cases op<;>first|rfl|exact absurd rfl h2
 cases b<;>simp[behindInMarks,e1,e2]
def F6(ta:TE):TE:=fun σ H Q=>ta σ H fun x H1=>Q (.bl (decide (x= .aC))) H1
theorem RelV.CC{x:V}{v:Value}(r:RelV x v):(v==Value.none)=decide (x= .aC):=by
 cases x with
 |aC=>cases r;rfl
 |bl _=>cases r;rfl
 |int _=>obtain⟨t,rfl⟩:=r;rfl
 |str _=>obtain⟨t,rfl⟩:=r;rfl
 |nI _=>obtain⟨t,rfl⟩:=r;rfl
 |oq _=>obtain⟨t,rfl⟩:=r;rfl
 |ref _=>cases r;rfl
 |ty _=>cases r;rfl
theorem Fv{j pos'}(ha:PE X a ta):PC X .Is a (.Constant .none j pos') (F6 ta):=by
 intro pins s σ H Q I h;refine bp (ha pins s σ H _ I h) fun v s1 ⟨x,H1,I1,r1,q1⟩=>?_;exact Constant_none (is_none_gen ⟨.bl _,H1,I1,by rw[r1.CC];rfl,q1⟩)
def tB(t:TE):TT:=fun σ H Q=>t σ H fun x H1=>∃c,x= .bl c/\Q c H1
theorem Gp{op:CmpOp}{t:TE}(h:PC X op a b t)(h1:behindInMarks op b=false:=by first|exact CG _ (by decide) (by decide)|rfl):PT X (.Compare a [op] [b] pos) (tB t):=by
 intro pins s σ H Q I hw;refine wpAny_isTrue_Compare1 (bp (h pins s σ H _ I hw) fun v s1 h1=>bp h1 fun u s2 h2=>bp h2 fun c s3 ⟨x,H1,I1,r1,q1⟩=>?_) h1;obtain⟨d,rfl,q⟩:=q1;cases r1;exact wpAny_truthy_bool ⟨H1,I1,q⟩
theorem qV{e:Expr}{t:TE}(h:PE X e t)(he:∀whole,isTrue e X.env whole=(do let v <-whole;standAt e.pos;holding [v] (truthy v)):=by intro _;rfl):PT X e (tB t):=by
 intro pins s σ H Q I hw;refine isTrue_plain (bp (h pins s σ H _ I hw) fun v s1 ⟨x,H1,I1,r1,q1⟩=>?_) (he _);obtain⟨d,rfl,q⟩:=q1;cases r1;exact wpAny_truthy_bool ⟨H1,I1,q⟩
variable {tA tB':TT}{rest:List Expr}
def Gu(t u:TT):TT:=fun σ H Q=>t σ H fun c H1=>if c=true then u σ H1 Q else Q false H1
def Dj(t u:TT):TT:=fun σ H Q=>t σ H fun c H1=>if c=true then Q true H1 else u σ H1 Q
def Bm(t:TT):TT:=fun σ H Q=>t σ H fun c H1=>Q (!c) H1
theorem pw_and1(ha:PT X a tA):PW X (.BoolOp .And [a] pos) tA:=by
 intro wh pins s σ H Q I h;refine isTrue_and (bp (ha pins s σ H Q I h) fun c s1 e=>?_);cases c with
 |true=>exact isTrue_and_nil e
 |false=>exact e
theorem pw_or1(ha:PT X a tA):PW X (.BoolOp .Or [a] pos) tA:=by
 intro wh pins s σ H Q I h;refine isTrue_or (bp (ha pins s σ H Q I h) fun c s1 e=>?_);cases c with
 |false=>exact isTrue_or_nil e
 |true=>exact e
theorem pw_and(ha:PT X a tA)(hb:PW X (.BoolOp .And (b::rest) pos) tB'):PW X (.BoolOp .And (a::b::rest) pos) (Gu tA tB'):=by
 intro wh pins s σ H Q I h;refine isTrue_and (bp (ha pins s σ H _ I h) fun c s1 ⟨H1,I1,q1⟩=>?_);cases c with
 |true=>exact hb wh pins s1 σ H1 Q I1 q1
 |false=>exact⟨H1,I1,q1⟩
theorem pw_or(ha:PT X a tA)(hb:PW X (.BoolOp .Or (b::rest) pos) tB'):PW X (.BoolOp .Or (a::b::rest) pos) (Dj tA tB'):=by
 intro wh pins s σ H Q I h;refine isTrue_or (bp (ha pins s σ H _ I h) fun c s1 ⟨H1,I1,q1⟩=>?_);cases c with
 |true=>exact⟨H1,I1,q1⟩
 |false=>exact hb wh pins s1 σ H1 Q I1 q1
theorem vh(ha:PT X a tA):PT X (.UnaryOp .Not a pos) (Bm tA):=by
 intro pins s σ H Q I h;exact isTrue_not (ha pins s σ H (fun c H1=>Q (!c) H1) I h)
def Iu(ta tb:TE):TE:=fun σ H Q=>ta σ H fun x H1=>∃c,x= .bl c/\if c=true then tb σ H1 Q else Q (.bl false) H1
def JM(ta:TE):TE:=fun σ H Q=>ta σ H fun x H1=>∃c,x= .bl c/\Q (.bl (!c)) H1
theorem HG{op}{t:TE}(h:PE X a t):PE X (.BoolOp op [a] pos) t:=fun pins s σ H Q I hw=>BoolOp_one (h pins s σ H Q I hw)
theorem HK(ha:PE X a ta)(hb:PE X (.BoolOp .And (b::rest) pos) tb):PE X (.BoolOp .And (a::b::rest) pos) (Iu ta tb):=by
 intro pins s σ H Q I h;refine BoolOp_and (bp (ha pins s σ H _ I h) fun v s1 ⟨x,H1,I1,r1,q1⟩=>?_);obtain⟨c,rfl,q1⟩:=q1;cases r1;refine wpAny_truthy_bool ?_;cases c with
 |true=>exact hb pins s1 σ H1 Q I1 q1
 |false=>exact⟨.bl false,H1,I1,rfl,q1⟩
theorem FV(ha:PE X a ta):PE X (.UnaryOp .Not a pos) (JM ta):=by
 intro pins s σ H Q I h;refine UnaryOp_ (bp (ha pins s σ H _ I h) fun v s1 ⟨x,H1,I1,r1,q1⟩=>?_);obtain⟨c,rfl,q1⟩:=q1;cases r1;exact not_of (wpAny_truthy_bool ⟨.bl (!c),H1,I1,rfl,q1⟩)
def Lq(t:TT)(ta tb:TE):TE:=fun σ H Q=>t σ H fun c H1=>if c=true then ta σ H1 Q else tb σ H1 Q
theorem Cb{c:Expr}(hc:PT X c tA)(ha:PE X a ta)(hb:PE X b tb):PE X (.IfExp c a b pos) (Lq tA ta tb):=by
 intro pins s σ H Q I h;refine wpAny_IfExp (bp (hc pins s σ H _ I h) fun d s1 ⟨H1,I1,q1⟩=>?_);cases d with
 |true=>exact ha pins s1 σ H1 Q I1 q1
 |false=>exact hb pins s1 σ H1 Q I1 q1
end
def jz(K:PySem.W.Frag)(H:Hp)(a:Addr)(xs:List V):Prop:=
 Rd H a (.lst xs)\/
  ∃(o:Obj) (its:Array Value) (n:Nat),K.lookup a=some o/\o.cls= .type "list"/\o.dict=none/\o.data= .seq its n/\its.size<=sizeLine/\Vals xs its.toList
def gn(K:PySem.W.Frag)(H:Hp)(a:Addr)(xs:List V):Prop:=
 Rd H a (.tup xs)\/
  ∃(o:Obj) (its:Array Value) (n:Nat),K.lookup a=some o/\o.cls= .type "tuple"/\o.data= .seq its n/\its.size<=sizeLine/\Vals xs its.toList
def KP:Value->Option V
 | .none=>some .aC
 | .bool b=>some (.bl b)
 | .int i _=>some (.int i)
 | .str x _=>some (.str x)
 | .bytes b _=>some (.nI b)
 | .float b _=>some (.oq b)
 | .ref a=>some (.ref a)
 | .type n=>some (.ty n)
 |_=>none
theorem RelV.abs{x:V}{u:Value}(r:RelV x u):KP u=some x:=by
 cases x with
 |aC=>cases r;rfl
 |bl _=>cases r;rfl
 |int _=>obtain⟨t,rfl⟩:=r;rfl
 |str _=>obtain⟨t,rfl⟩:=r;rfl
 |nI _=>obtain⟨t,rfl⟩:=r;rfl
 |oq _=>obtain⟨t,rfl⟩:=r;rfl
 |ref _=>cases r;rfl
 |ty _=>cases r;rfl
theorem RelV.inj{x y:V}{u:Value}(r:RelV x u)(q:RelV y u):x=y:=Option.some.inj (r.abs.symm.trans q.abs)
theorem Vals.inj:∀ {xs ys:List V} {us:List Value},Vals xs us->Vals ys us->xs=ys
 |_,_,_,.nil,.nil=>rfl
 |_,_,_,.cons r t,.cons r' t'=>by rw[r.inj r',Vals.inj t t']
section
variable {X:Cx}{pins:List (Addr×Obj)}{σ:St}{H:Hp}{s:Shared}{a:Addr}{xs ys:List V}
theorem jz.of{K:PySem.W.Frag}(h:H a=some (.lst xs)):jz K H a xs:= .inl (.inl h)
theorem gn.of{K:PySem.W.Frag}(h:H a=some (.tup xs)):gn K H a xs:= .inl (.inl h)
theorem Inv.list(I:Inv X pins σ H s)(h:jz X.K H a xs):∃its:List Value,Vals xs its/\PlainL s.heap a its.toArray/\xs.length<=sizeLine:=by
 rcases h with h|⟨o,its,n,hk,hc,hd,hs,hz,r⟩
 . obtain⟨z,its,n,r,e⟩:=h.ok I.aB;exact⟨its,r,⟨_,n,e,rfl,rfl,rfl⟩,z⟩
 . refine⟨its.toList,r,⟨o,n,I.d5 a o hk,hc,hd,by simpa using hs⟩,?_⟩;have e:=r.length;simp only[Array.length_toList]at e;omega
theorem Inv.tuple(I:Inv X pins σ H s)(h:gn X.K H a xs):∃its:List Value,Vals xs its/\IsTup s.heap a its.toArray/\xs.length<=sizeLine:=by
 rcases h with h|⟨o,its,n,hk,hc,hs,hz,r⟩
 . obtain⟨z,its,r,p⟩:=h.ok I.aB;exact⟨its,r,p,z⟩
 . refine⟨its.toList,r,⟨o,I.d5 a o hk,hc,n,by simpa using hs⟩,?_⟩;have e:=r.length;simp only[Array.length_toList]at e;omega
theorem Inv.vB(I:Inv X pins σ H s)(h:jz X.K H a xs)(h':jz X.K H a ys):xs=ys:=by
 obtain⟨its,r,⟨o,n,e,_,_,d⟩,_⟩:=I.list h;obtain⟨its',r',⟨o',n',e',_,_,d'⟩,_⟩:=I.list h';rw[e]at e';cases e';rw[d]at d';injection d' with d1 _;have:its=its':=by simpa using congrArg Array.toList d1
 subst this;exact r.inj r'
theorem Inv.tM(I:Inv X pins σ H s)(h:gn X.K H a xs)(h':gn X.K H a ys):xs=ys:=by
 obtain⟨its,r,⟨o,e,_,n,d⟩,_⟩:=I.tuple h;obtain⟨its',r',⟨o',e',_,n',d'⟩,_⟩:=I.tuple h';rw[e]at e';cases e';rw[d]at d';injection d' with d1 _;have:its=its':=by simpa using congrArg Array.toList d1
 subst this;exact r.inj r'
end
abbrev Cx.iU(X:Cx)(E:Value->Shared->Prop):Cx:={X with xe:=E}
abbrev Cx.gb(X:Cx):Cx:=X.iU fun _ _=>False
theorem Cx.Ok.iU{X:Cx}(ok:X.Ok)(E:Value->Shared->Prop):(X.iU E).Ok:=
 ⟨ok.mod,ok.kind,ok.glob,ok.blt,ok.above,ok.inj,ok.has,ok.tu,ok.hd,ok.frames,ok.vJ,ok.xk,ok.bs,ok.nq,ok.nQ,ok.oi,ok.gX,ok.oo,ok.gt⟩
theorem Cx.Ok.fb{X:Cx}{E:Value->Shared->Prop}(ok:(X.iU E).Ok):X.Ok:=
 ⟨ok.mod,ok.kind,ok.glob,ok.blt,ok.above,ok.inj,ok.has,ok.tu,ok.hd,ok.frames,ok.vJ,ok.xk,ok.bs,ok.nq,ok.nQ,ok.oi,ok.gX,ok.oo,ok.gt⟩
section
variable {X:Cx}{pins:List (Addr×Obj)}{σ:St}{H:Hp}{s:Shared}{E:Value->Shared->Prop}
theorem Inv.iU(I:Inv X pins σ H s)(E:Value->Shared->Prop):Inv (X.iU E) pins σ H s:=⟨I.ok.iU E,I.os,I.bare,I.base,I.loc,I.cell,I.free,I.eS,I.pin,I.aB,I.len⟩
theorem Inv.fb(I:Inv (X.iU E) pins σ H s):Inv X pins σ H s:=⟨I.ok.fb,I.os,I.bare,I.base,I.loc,I.cell,I.free,I.eS,I.pin,I.aB,I.len⟩
theorem SP.fb{D:Ends}{f:Flow}{s':Shared}(h:SP (X.iU E) pins D f s'):SP X pins D f s':=by
 cases f with
 |next=>obtain⟨σ',H',I,q⟩:=h;exact⟨σ',H',I.fb,q⟩
 |brk=>obtain⟨σ',H',I,q⟩:=h;exact⟨σ',H',I.fb,q⟩
 |cont=>obtain⟨σ',H',I,q⟩:=h;exact⟨σ',H',I.fb,q⟩
 |ret u=>obtain⟨v,σ',H',I,r,q⟩:=h;exact⟨v,σ',H',I.fb,r,q⟩
theorem PT.gb{e:Expr}{t:TT}(h:PT X.gb e t):PT X e t:=fun pins s σ H Q I hw=>
 wpAny_mono (h pins s σ H Q (I.iU _) hw) (fun _ _ ⟨H',I',q⟩=>⟨H',I'.fb,q⟩) fun _ _ z=>False.elim z
theorem c9.gb{st:List Stmt}{t:TS}(h:c9 X.gb st t):c9 X st t:=fun pins s σ H D I hw=>
 wpAny_mono (h pins s σ H D (I.iU _) hw) (fun _ _ q=>q.fb) fun _ _ z=>False.elim z
end
section
variable {X:Cx}{st:Stmt}{rest:List Stmt}{t u:TS}{e:Expr}{te:TE}{pos:Pos}
def yu:TS:=fun D σ H=>D.nx σ H
def rS(t u:TS):TS:=fun D σ H=>t {D with nx:=u D} σ H
theorem rV:c9 X [] yu:=fun _ _ σ H _ I h=>wpAny_execs_nil ⟨σ,H,I,h⟩
theorem ia(h1:PS X st t)(h2:c9 X rest u):c9 X (st::rest) (rS t u):=by
 intro pins s σ H D I h;refine wpAny_execs_cons (bp (h1 pins s σ H {D with nx:=u D} I h) fun f s1 q=>?_);cases f with
 |next=>
  obtain⟨σ',H',I',q⟩:=q;exact h2 pins s1 σ' H' D I' q
 |ret v=>exact q
 |brk=>exact q
 |cont=>exact q
theorem l7(h1:PS X st t):c9 X [st] t:=by
 intro pins s σ H D I h;refine wpAny_execs_cons (bp (h1 pins s σ H D I h) fun f s1 q=>?_);cases f with
 |next=>exact wpAny_execs_nil q
 |ret v=>exact q
 |brk=>exact q
 |cont=>exact q
theorem Inv.quiet{pins:List (Addr×Obj)}{σ:St}{H:Hp}{s:Shared}(I:Inv X pins σ H s):interactive X.env=false:=by simp[interactive,I.ok.kind]
def IH(te:TE):TS:=fun D σ H=>te σ H fun _ H1=>D.nx σ H1
theorem Fu(he:PE X e te)(hs:swapsWith e none pos.line X.env=pure false:=by rfl):PS X (.Expr e pos) (IH te):=by
 intro pins s σ H D I h;exact wpAny_Expr_any (bp (he pins s σ H _ I h) fun v s1 ⟨x,H1,I1,r1,q1⟩=>⟨σ,H1,I1,q1⟩) I.quiet hs
def xV(te:TE):TS:=fun D σ H=>te σ H D.rt
theorem rD(he:PE X e te):PS X (.Return (some e) pos) (xV te):=by
 intro pins s σ H D I h;exact wpAny_Return_some (bp (he pins s σ H _ I h) fun v s1 ⟨x,H1,I1,r1,q1⟩=>⟨x,σ,H1,I1,r1,q1⟩)
def Cp(c:TT)(t u:TS):TS:=fun D σ H=>c σ H fun b H1=>if b=true then t D σ H1 else u D σ H1
theorem uy{c:Expr}{a b:List Stmt}{tc:TT}(hc:PT X c tc)(ha:c9 X a t)(hb:c9 X b u):PS X (.If c a b pos) (Cp tc t u):=by
 intro pins s σ H D I h;refine wpAny_If (bp (hc pins s σ H _ I h) fun d s1 ⟨H1,I1,q1⟩=>?_);cases d with
 |true=>exact ha pins s1 σ H1 D I1 q1
 |false=>exact hb pins s1 σ H1 D I1 q1
end
abbrev TG:=V->St->Hp->(St->Hp->Prop)->Prop
abbrev vb:=List V->St->Hp->(St->Hp->Prop)->Prop
def PG(X:Cx)(target:Expr)(t:TG):Prop:=
 ∀(pins:List (Addr×Obj)) (s:Shared) (σ:St) (H:Hp) (v:V) (u:Value) (Q:St->Hp->Prop),Inv X pins σ H s->RelV v u->t v σ H Q->
  wpAny (model X.prog X.w) X.A (assign target X.env u) (fun _ s'=>∃σ' H',Inv X pins σ' H' s'/\Q σ' H') X.xe s
def zR(X:Cx)(ts:List Expr)(t:vb):Prop:=
 ∀(pins:List (Addr×Obj)) (s:Shared) (σ:St) (H:Hp) (vs:List V) (us:List Value) (Q:St->Hp->Prop),Inv X pins σ H s->Vals vs us->t vs σ H Q->
  wpAny (model X.prog X.w) X.A (assignInOrder ((assignEach ts X.env).map (·.2)) us) (fun _ s'=>∃σ' H',Inv X pins σ' H' s'/\Q σ' H') X.xe s
abbrev Br:=V->V->V->Hp->(Hp->Prop)->Prop
def G_(X:Cx)(t:Br):Prop:=
 ∀(pins:List (Addr×Obj)) (s:Shared) (σ:St) (H:Hp) (o i v:V) (ov iv u:Value) (Q:Hp->Prop),Inv X pins σ H s->RelV o ov->RelV i iv->RelV v u->t o i v H Q->
  wpAny (model X.prog X.w) X.A (setItem ov iv u) (fun _ s'=>∃H',Inv X pins σ H' s'/\Q H') X.xe s
abbrev CY:=V->V->Hp->VK->Prop
def FG(X:Cx)(op:Operator)(t:CY):Prop:=
 ∀(pins:List (Addr×Obj)) (s:Shared) (σ:St) (H:Hp) (x y:V) (v u:Value) (Q:VK),Inv X pins σ H s->RelV x v->RelV y u->t x y H Q->
  wpAny (model X.prog X.w) X.A (inplaceOp op v u) (EP X pins σ Q) X.xe s
section
variable {X:Cx}{pos:Pos}
def gF(i:Nat):TG:=fun v σ H Q=>Q (σ.set i (some v)) H
theorem sN{i:Nat}{x:Str}(hN:X.N.Nodup)(hi:X.N[i]?=some x)(hx:Loc X.env.scope x)(hf:X.fn x=true\/X.env.scope.names.lookup x=some .local:=by first|exact .inl rfl|exact .inr rfl|assumption):PG X (.Name x pos) (gF i):=by
 intro pins s σ H v u Q I r h;exact wpAny_assign_Name (h_ I hN hi hx r (fun s' I'=>⟨_,H,I',h⟩) hf)
def CA:vb:=fun vs σ H Q=>vs=[]/\Q σ H
def qF(t:TG)(u:vb):vb:=fun vs σ H Q=>∃v r,vs=v::r/\t v σ H fun σ' H'=>u r σ' H' Q
theorem w4:zR X [] CA:=by
 intro pins s σ H vs us Q I r h;obtain⟨e,h⟩:=h;subst e;cases r;exact assignInOrder_nil ⟨σ,H,I,h⟩
theorem m5{e:Expr}{es:List Expr}{t:TG}{u:vb}(h1:PG X e t)(h2:zR X es u)
 (hs:(assignEach (e::es) X.env).map (·.2)=assign e X.env::(assignEach es X.env).map (·.2):=by rfl):zR X (e::es) (qF t u):=by
 intro pins s σ H vs us Q I r h;obtain⟨v,vr,e1,h⟩:=h;subst e1;cases r with
 |cons r rr=>
  rw[hs];refine assignInOrder_cons (bp (h1 pins s σ H _ _ _ I r h) fun _ s1 ⟨σ1,H1,I1,q1⟩=>?_);exact h2 pins s1 σ1 H1 _ _ Q I1 rr q1
def Hl(K:PySem.W.Frag)(n:Nat)(t:vb):TG:=fun v σ H Q=>∃a xs,v= .ref a/\gn K H a xs/\xs.length=n/\t xs σ H Q
theorem Aw{es:List Expr}{k:Nat}{t:vb}{n:Nat}(hc:X.calm=true)(h:zR X es t)
 (hn:(assignEach es X.env).length=n:=by rfl) (hst:(assignEach es X.env).findIdx? (·.1)=none:=by rfl):PG X (.Tuple es k pos) (Hl X.K n t):=by
 intro pins s σ H v u Q I r hw;obtain⟨a,xs,e1,hq,hl,hw⟩:=hw;subst e1;cases r;obtain⟨its,rv,ht,hz⟩:=I.tuple hq;refine assign_Tuple_tuple (I.ok.hd hc) ht (by simp[hn,<-hl,rv.length]) hst fun h' hx=>?_;have I1:Inv X pins σ H {s with heap:=h'}:=I.kept (t':=s.toks) fun b o e=>hx b o (Nat.ne_of_lt (Heap.lt_size e)) e;exact h pins _ σ H xs _ Q I1 (by simpa using rv) hw
def sR(to ti:TE)(t:Br):TG:=fun v σ H Q=>to σ H fun o H1=>ti σ H1 fun i H2=>t o i v H2 fun H3=>Q σ H3
theorem qW{o i:Expr}{to ti:TE}{t:Br}(ho:PE X o to)(hi:PE X i ti)(hs:G_ X t)
 (ha:∀v,assign (.Subscript o i pos) X.env v=(do
   let ov <-holding [v] (eval o X.env)
   let iv <-holding [v,ov] (eval i X.env)
   standAt pos
   holding [v,ov,iv] (setItem ov iv v)
   release [v,ov,iv] []):=by intro _;rfl):PG X (.Subscript o i pos) (sR to ti t):=by
 intro pins s σ H v u Q I r h;rw[ha];refine wpAny_bind (wpAny_holding (bp (ho pins s σ H _ I h) fun ov s1 ⟨x,H1,I1,r1,q1⟩=>?_));refine wpAny_bind (wpAny_holding (bp (hi pins s1 σ H1 _ I1 q1) fun iv s2 ⟨y,H2,I2,r2,q2⟩=>?_));refine wpAny_bind (wpAny_standAt (wpAny_bind (wpAny_holding (bp (hs pins s2 σ H2 x y v ov iv u _ I2 r1 r2 r q2) fun _ s3 ⟨H3,I3,q3⟩=>?_))));exact wpAny_release ⟨σ,H3,I3,q3⟩
def hZ(te:TE)(g:TG):TS:=fun D σ H=>te σ H fun x H1=>g x σ H1 D.nx
theorem vm{tg e:Expr}{te:TE}{g:TG}(he:PE X e te)(hg:PG X tg g)(hs:swapsWithSole [tg] e pos.line X.env=pure false:=by rfl)(hw:swappedStores [tg] e X.env=pure none:=by rfl)
 (h1:(assignEach [tg] X.env).map (·.2)=[assign tg X.env]:=by rfl):PS X (.Assign [tg] e pos) (hZ te g):=by
 intro pins s σ H D I h;refine wpAny_Assign_stores (bp (he pins s σ H _ I h) fun v s1 ⟨x,H1,I1,r1,q1⟩=>?_) hs hw;rw[h1];exact bp (hg pins s1 σ H1 x v _ I1 r1 q1) fun _ s2 q=>q
theorem qD{i:Nat}{x:Str}{e:Expr}{te:TE}{pos':Pos}(hN:X.N.Nodup)(hi:X.N[i]?=some x)(hx:Loc X.env.scope x)(he:PE X e te)(hs:swapsWith e (some (.Name x pos')) pos.line X.env=pure false:=by rfl)(hf:X.fn x=true\/X.env.scope.names.lookup x=some .local:=by first|exact .inl rfl|exact .inr rfl|assumption):
 PS X (.Assign [.Name x pos'] e pos) (hZ te (gF i)):=by
 intro pins s σ H D I h;refine wpAny_Assign_Name (bp (he pins s σ H _ I h) fun v s1 ⟨y,H1,I1,r1,q1⟩=>?_) hs;exact h_ I1 hN hi hx r1 (fun s2 I2=>⟨_,H1,I2,q1⟩) hf
def FR(i j:Nat)(ta:TA):TS:=fun D σ H=>ta σ H fun vs H1=>∃v w,vs=[v,w]/\D.nx ((σ.set i (some v)).set j (some w)) H1
theorem F_{i j:Nat}{x y:Str}{a b:Expr}{ta:TA}{px py pt:Pos}{kt k2 pt2}(hc:X.calm=true)(hN:X.N.Nodup)(hi:X.N[i]?=some x)(hj:X.N[j]?=some y)(hij:i≠j)
 (hx:X.env.scope.names.lookup x=some .local) (hy:X.env.scope.names.lookup y=some .local) (ha:PA X [a,b] ta)
 (hw:swappedStores [.Tuple [.Name x px,.Name y py] kt pt] (.Tuple [a,b] k2 pt2) X.env=pure (some [x,y]))
 (hs:swapsWithSole [.Tuple [.Name x px,.Name y py] kt pt] (.Tuple [a,b] k2 pt2) pos.line X.env=pure false:=by rfl):
 PS X (.Assign [.Tuple [.Name x px,.Name y py] kt pt] (.Tuple [a,b] k2 pt2) pos) (FR i j ta):=by
 intro pins s σ H D I h;rw[exec_Assign_arm];refine wpAny_bind (wpAny_standAt ?_);rw[hs];refine wpAny_bind (wpAny_pure ?_);rw[if_neg (by decide)];refine wpAny_bind (Tuple_ (bp (ha _ pins s σ H _ I h) fun us s1 ⟨vs,H1,I1,r1,q1⟩=>?_));obtain⟨v,w,e1,q1⟩:=q1;subst e1
 obtain⟨u1,u2,rfl,rv,rw'⟩:∃u1 u2,us=[u1,u2]/\RelV v u1/\RelV w u2:=by
  cases r1 with
  |cons p q=>
   cases q with
   |cons p' q'=>
    cases q';exact⟨_,_,rfl,p,p'⟩
 refine wpAny_newObj_type ?_ (by show 2<=sizeLine;decide);have I2:Inv X pins σ H1 {s1 with heap:=s1.heap.push {cls:= .type "tuple",data:= .seq [u1,u2].toArray}}:=I1.kept (t':=s1.toks) fun b o e=>Heap.get?_push_of_some _ e;rw[hw];refine wpAny_bind (wpAny_pure ?_);show wpAny (model X.prog X.w) X.A (do rule "assign.swapped-stores";let items <-unpackItems (.ref s1.heap.objs.size) 2 none;assignInOrder [fun v=>bindName X.env y v,fun v=>bindName X.env x v] items.reverse;pure Flow.next) _ _ _;refine wpAny_bind (wpAny_rule (wpAny_bind (unpackItems_tuple (items:= #[u1,u2]) (I.ok.hd hc) (IsTup.new s1.heap _) fun h' hx'=>?_)));have I3:=I2.kept (h':=h') (t':=s1.toks) fun b o e=>hx' b o (Nat.ne_of_lt (Heap.lt_size e)) e;show wpAny _ _ (assignInOrder [fun v=>bindName X.env y v,fun v=>bindName X.env x v] [u2,u1] >>= fun _=>pure Flow.next) _ _ _;refine wpAny_bind (assignInOrder_cons (wpAny_bindName (h_ I3 hN hj (.inl hy) rw' (fun s2 I4=>?_) (.inr hy))));refine assignInOrder_cons (wpAny_bindName (h_ I4 hN hi (.inl hx) rv (fun s3 I5=>assignInOrder_nil (wpAny_pure ?_)) (.inr hx)));rw[List.set_comm _ _ (Ne.symm hij)]at I5;exact⟨_,H1,I5,q1⟩
def GB(i:Nat)(te:TE)(ti:CY):TS:=fun D σ H=>∃x,σ[i]?=some (some x)/\te σ H fun y H1=>ti x y H1 fun z H2=>D.nx (σ.set i (some z)) H2
theorem Gd{i:Nat}{x:Str}{e:Expr}{te:TE}{op:Operator}{ti:CY}{pos':Pos}(hN:X.N.Nodup)(hi:X.N[i]?=some x)(hx:Loc X.env.scope x)(he:PE X e te)(ho:FG X op ti)(hf:X.fn x=true\/X.env.scope.names.lookup x=some .local:=by first|exact .inl rfl|exact .inr rfl|assumption):
 PS X (.AugAssign (.Name x pos') op e pos) (GB i te ti):=by
 intro pins s σ H D I h;obtain⟨v,e1,h⟩:=h;obtain⟨m,hn,hl⟩:=I.loc;have vis:tL X.env.scope x:=by rcases hx with k|k;exact .inl k;exact .inr (.inl k)
 obtain⟨u,r,l⟩:=hl i x v hi e1 vis;refine wpAny_AugAssign_Name ?_
 have go:wpAny (model X.prog X.w) X.A (eval e X.env) (fun w s₂=>wpAny (model X.prog X.w) X.A (inplaceOp op u w) (fun r s₃=>wpAny (model X.prog X.w) X.A (storeName X.env x r) (fun _=>SP X pins D .next) X.xe s₃) X.xe s₂) X.xe s:=by
  refine bp (he pins s σ H _ I h) fun w s1 ⟨y,H1,I1,r1,q1⟩=>?_;refine bp (ho pins s1 σ H1 v y u w _ I1 r r1 q1) fun z s2 ⟨zv,H2,I2,r2,q2⟩=>?_;exact h_ I2 hN hi hx r2 (fun s3 I3=>⟨_,H2,I3,q2⟩) hf
 rcases l with⟨hk,hm⟩|⟨hk,c,hc,hcell⟩
 . exact wpAny_loadName_local I.ok.kind hk hn hm go
 . rcases hk with hk|hk
   . exact wpAny_loadName_cell I.ok.kind hk hc hcell go
   . rcases hx with k|k
     . have:X.env.scope.names.lookup x=some .free:=hk;rw[k]at this;cases this
     . have:X.env.scope.names.lookup x=some .free:=hk;rw[k]at this;cases this
def Gs(f:Int->Int->Int):CY:=fun x y H Q=>∃i j,x= .int i/\y= .int j/\Q (.int (f i j)) H
theorem GK:FG X .Add (Gs fun i j=>i+j):=by
 intro pins s σ H x y v u Q I r1 r2 h;obtain⟨i,j,e1,e2,q⟩:=h;subst e1;subst e2;obtain⟨t,rfl⟩:=r1;obtain⟨t',rfl⟩:=r2;exact iadd_int ⟨.int _,H,I.tok _,⟨_,rfl⟩,q⟩
def Az(c:TT)(tb:TS):TS:=fun D σ H=>∃W:Nat->St->Hp->Prop,(∃m,W m σ H)/\∀m σ H,W m σ H->
 c σ H fun b H1=>if b=true then∃N:St->Hp->Prop,(∀σ' H',N σ' H'->∃m',m'<m/\W m' σ' H')/\tb {D with nx:=N,ct:=N,bk:=D.nx} σ H1 else D.nx σ H1
theorem BU{c:Expr}{body:List Stmt}{tc:TT}{tb:TS}(hp:PassesOwn (model X.prog X.w) X.A X.env X.xe)(hc:PT X c tc)(hb:c9 X body tb):PS X (.While c body [] pos) (Az tc tb):=by
 intro pins s σ H D I h;obtain⟨W,⟨m0,w0⟩,turn⟩:=h;refine wpAny_While (codeAny_whileLoop (fun n s'=>∃σ' H',Inv X pins σ' H' s'/\W n σ' H') ?_ m0 ⟨σ,H,I,w0⟩);rintro n s1 ⟨σ1,H1,I1,w1⟩;refine wpAny_passesOwn hp (bp (hc pins s1 σ1 H1 _ I1 (turn n σ1 H1 w1)) fun b s2 ⟨H2,I2,q2⟩=>?_);cases b with
 |true=>
  obtain⟨N,hN,q2⟩:=q2;rw[if_pos rfl];refine wpAny_passesOwn hp (bp (hb pins s2 σ1 H2 _ I2 q2) fun f s3 q3=>?_);cases f with
  |next=>
   obtain⟨σ3,H3,I3,n3⟩:=q3;obtain⟨m',hm,w3⟩:=hN σ3 H3 n3;exact⟨m',hm,σ3,H3,I3,w3⟩
  |cont=>
   obtain⟨σ3,H3,I3,n3⟩:=q3;obtain⟨m',hm,w3⟩:=hN σ3 H3 n3;exact⟨m',hm,σ3,H3,I3,w3⟩
  |brk=>exact q3
  |ret v=>exact q3
 |false=>
  rw[if_neg Bool.false_ne_true];exact wpAny_execs_nil ⟨σ1,H2,I2,q2⟩
end
structure It where
 go:Nat->Hp->Prop
 mm:Nat->Hp->V->Hp->Prop
 stop:Nat->Hp->Prop
def i3(X:Cx)(pins:List (Addr×Obj))(H:Hp)(b:Addr):Prop:=
 H b=none/\b≠X.env.locals/\b∉X.fs/\(b∈X.ex\/X.s₀.heap.objs.size<=b)/\(∀x c,X.env.cells.lookup x=some c->c≠b)/\∀p∈X.pn++pins,p.1≠b
theorem Inv.su{X:Cx}{pins:List (Addr×Obj)}{σ:St}{H H':Hp}{s:Shared}{b:Addr}(I:Inv X pins σ H s)(hb:s.heap.objs.size<=b)(hn:H' b=none):i3 X pins H' b:=by
 refine⟨hn,Nat.ne_of_gt (Nat.lt_of_lt_of_le I.lt hb),I.GC hb,.inr (Nat.le_trans I.sz hb),fun x c e z=>?_,fun p hp z=>?_⟩
 . obtain⟨v,q⟩:=I.cell x c e;exact absurd (Nat.lt_of_lt_of_le q.lt (by rw[z];exact hb)) (Nat.lt_irrefl _)
 . exact absurd (Nat.lt_of_lt_of_le (Heap.lt_size (I.pin p hp).1) (by rw[z];exact hb)) (Nat.lt_irrefl _)
structure Turn(P:Program)(w:World)(K:PySem.W.Frag)(tg:Expr)(J:It)(fp:List Addr)(it:Addr)(tn:Nat->Heap->Prop):Prop where
 mem:it∈fp
 obj:∀i h,tn i h->∀b∈fp,∃o,h.get? b=some o/\∀v,o.data≠ .cell v
 keep:∀i h h',tn i h->(∀b∈fp,∀o,h.get? b=some o->h'.get? b=some o)->tn i h'
 item:∀(X:Cx),X.prog=P->X.w=w->X.K=K->X.calm=true->∀(i:Nat) (pins:List (Addr×Obj)) (s:Shared) (σ:St) (H:Hp) (E:Value->Shared->Prop),Inv X pins σ H s->(∀b∈fp,i3 X pins H b)->tn i s.heap->J.go i H->
  wpAny (model P w) X.A (pyNext (.ref it)) (fun r s1=>∃u,r=some u/\
   wpAny (model P w) X.A (letOwnedTupleGo tg (.ref it) u) (fun _ s2=>∃x H',Inv X pins σ H' s2/\RelV x u/\J.mm i H x H'/\tn (i+1) s2.heap/\∀b∈fp,H' b=none) E s1) E s
 done:∀(X:Cx),X.prog=P->X.w=w->X.K=K->X.calm=true->∀(i:Nat) (pins:List (Addr×Obj)) (s:Shared) (σ:St) (H:Hp) (E:Value->Shared->Prop),Inv X pins σ H s->(∀b∈fp,i3 X pins H b)->tn i s.heap->J.stop i H->
  wpAny (model P w) X.A (pyNext (.ref it)) (fun r s1=>r=none/\Inv X pins σ H s1) E s
 self:∀(A:Around) (i:Nat) (s:Shared) (Q:Value->Shared->Prop) (E:Value->Shared->Prop),tn i s.heap->Q (.ref it) s->wpAny (model P w) A (pyIter (.ref it)) Q E s
abbrev TI:=St->Hp->(It->Hp->Prop)->Prop
def CO(X:Cx)(pins:List (Addr×Obj))(σ:St)(tg:Expr)(R:It->Hp->Prop)(itv:Value)(s2:Shared):Prop:=
 ∃(it:Addr) (fp:List Addr) (tn:Nat->Heap->Prop) (J:It) (H':Hp),itv= .ref it/\Inv X pins σ H' s2/\Turn X.prog X.w X.K tg J fp it tn/\tn 0 s2.heap/\(∀b∈fp,i3 X pins H' b)/\R J H'
def PI(X:Cx)(tg iter:Expr)(wi:TI):Prop:=
 ∀(pins:List (Addr×Obj)) (s:Shared) (σ:St) (H:Hp) (R:It->Hp->Prop),Inv X pins σ H s->wi σ H R->
  wpAny (model X.prog X.w) X.A (eval iter X.env) (fun v s1=>wpAny (model X.prog X.w) X.A (pyIter v) (CO X pins σ tg R) X.xe s1) X.xe s
theorem yI{M:Model}{A:Around}{E:Value->Shared->Prop}{s:Shared}{tg:Expr}{it:Addr}{u:Value}{o:Obj}{n:String}{vs:Array Value}{Q:Unit->Shared->Prop}(ho:s.heap.get? it=some o)(hc:o.cls= .type n)(hd:o.data= .fields vs)
 (hn: ["enumerate","zip","dict_itemiterator","dict_reverseitemiterator","odict_iterator","itertools.zip_longest","itertools.pairwise"].contains n=false) (hQ:Q () s):wpAny M A (letOwnedTupleGo tg (.ref it) u) Q E s:=by
 unfold letOwnedTupleGo
 cases tg<;>first
  |exact wpAny_pure hQ
  |(cases u<;>first
     |exact wpAny_pure hQ
     |(refine wpAny_bind (wpAny_load ho ?_)
       rw[hc,hd];show wpAny M A (if(["enumerate","zip","dict_itemiterator","dict_reverseitemiterator","odict_iterator","itertools.zip_longest","itertools.pairwise"].contains n&&vs[0]?==some (rawInt _))=true then _ else _) Q E s;rw[if_neg (by intro h;rw[hn,Bool.false_and]at h;cases h)];exact wpAny_pure hQ))
def Hf(K:PySem.W.Frag)(a:Addr):It:=
 ⟨fun i H=>∃xs x,jz K H a xs/\xs[i]?=some x,fun i H x H'=>H'=H/\∀xs,jz K H a xs->xs[i]?=some x,fun i H=>∃xs,jz K H a xs/\xs.length<=i⟩
def F0(K:PySem.W.Frag)(a:Addr):It:=
 ⟨fun i H=>∃xs x,gn K H a xs/\xs[i]?=some x,fun i H x H'=>H'=H/\∀xs,gn K H a xs->xs[i]?=some x,fun i H=>∃xs,gn K H a xs/\xs.length<=i⟩
def tJ(lo:Int)(n:Nat):It:=⟨fun i _=>i<n,fun i H x H'=>H'=H/\x= .int (lo+i),fun i _=>n<=i⟩
theorem AB{P:Program}{w:World}{K:PySem.W.Frag}{tg:Expr}(a it:Addr):Turn P w K tg (Hf K a) [it] it (fun i h=>h.IsListIter it a i) where
 mem:=by simp
 obj:=fun i h st b hb=>by
  have e:b=it:=by simpa using hb
  subst e;obtain⟨o,e,c,d⟩:=st;exact⟨o,e,fun v z=>by rw[d]at z;cases z⟩
 keep:=fun i h h' st k=>st.at fun o e=>k it (by simp) o e
 item:=by
  intro X hP hw hK hc i pins s σ H E I hf st hg;subst hP hw hK;obtain⟨xs,x,hq,hx⟩:=hg;obtain⟨its,rv,p,hz⟩:=I.list hq;obtain⟨u,hu,ru⟩:=rv.get hx;obtain⟨f0,f1,f2,f3,f4,f5⟩:=hf it (by simp);refine wpAny_pyNext_list_item st p.isList (x:=u) (by simpa using hu) fun h' st' sb=>?_;have I1:Inv X pins σ H {s with heap:=h'}:=I.turned (t':=s.toks) (fun b o hb e=>(sb.2 b hb).trans e) f0 f1 f3 f4 f5;obtain⟨o,e,c,d⟩:=id st';exact⟨u,rfl,yI (s:={s with heap:=h'}) e c d (by decide) ⟨x,H,I1,ru,⟨rfl,fun ys hy=>by rw[I.vB hy hq];exact hx⟩,st',fun b hb=>(hf b hb).1⟩⟩
 done:=by
  intro X hP hw hK hc i pins s σ H E I hf st hg;subst hP hw hK;obtain⟨xs,hq,hx⟩:=hg;obtain⟨its,rv,p,hz⟩:=I.list hq;obtain⟨f0,f1,f2,f3,f4,f5⟩:=hf it (by simp);have hl:=rv.length;exact wpAny_pyNext_list_end (I.ok.hd hc) st p.isList (by simp;omega) fun h' eb=>⟨rfl,I.turned (t':=s.toks) (fun b o hb e=>eb b o hb e) f0 f1 f3 f4 f5⟩
 self:=fun _ _ _ _ _ st h=>wpAny_pyIter_listiter st h
theorem x6{P:Program}{w:World}{K:PySem.W.Frag}{tg:Expr}(a it:Addr):Turn P w K tg (F0 K a) [it] it (fun i h=>h.IsTupleIter it a i) where
 mem:=by simp
 obj:=fun i h st b hb=>by
  have e:b=it:=by simpa using hb
  subst e;obtain⟨o,e,c,d⟩:=st;exact⟨o,e,fun v z=>by rw[d]at z;cases z⟩
 keep:=fun i h h' st k=>st.at fun o e=>k it (by simp) o e
 item:=by
  intro X hP hw hK hc i pins s σ H E I hf st hg;subst hP hw hK;obtain⟨xs,x,hq,hx⟩:=hg;obtain⟨its,rv,p,hz⟩:=I.tuple hq;obtain⟨u,hu,ru⟩:=rv.get hx;obtain⟨f0,f1,f2,f3,f4,f5⟩:=hf it (by simp);refine wpAny_pyNext_tuple_item st (show s.heap.IsTuple a its.toArray from p) (x:=u) (by simpa using hu) fun h' st' sb=>?_;have I1:Inv X pins σ H {s with heap:=h'}:=I.turned (t':=s.toks) (fun b o hb e=>(sb.2 b hb).trans e) f0 f1 f3 f4 f5;obtain⟨o,e,c,d⟩:=id st';exact⟨u,rfl,yI (s:={s with heap:=h'}) e c d (by decide) ⟨x,H,I1,ru,⟨rfl,fun ys hy=>by rw[I.tM hy hq];exact hx⟩,st',fun b hb=>(hf b hb).1⟩⟩
 done:=by
  intro X hP hw hK hc i pins s σ H E I hf st hg;subst hP hw hK;obtain⟨xs,hq,hx⟩:=hg;obtain⟨its,rv,p,hz⟩:=I.tuple hq;obtain⟨f0,f1,f2,f3,f4,f5⟩:=hf it (by simp);have hl:=rv.length;exact wpAny_pyNext_tuple_end (I.ok.hd hc) st (show s.heap.IsTuple a its.toArray from p) (by simp;omega) fun h' eb=>⟨rfl,I.turned (t':=s.toks) (fun b o hb e=>eb b o hb e) f0 f1 f3 f4 f5⟩
 self:=fun _ _ _ _ _ st h=>wpAny_pyIter_tupleiter st h
theorem yT{P:Program}{w:World}{K:PySem.W.Frag}{tg:Expr}(it:Addr)(lo:Int)(n:Nat):Turn P w K tg (tJ lo n) [it] it (fun i h=>IsRangeIter h it (lo+(i:Nat)*1) ((n:Int)-(i:Nat)) 1) where
 mem:=by simp
 obj:=fun i h st b hb=>by
  have e:b=it:=by simpa using hb
  subst e
  exact⟨_,st,fun v z=>by
   have z':Data.fields _=Data.cell v:=z;cases z'⟩
 keep:=fun i h h' st k=>k it (by simp) _ st
 item:=by
  intro X hP hw hK hc i pins s σ H E I hf st hg;subst hP hw hK;obtain⟨f0,f1,f2,f3,f4,f5⟩:=hf it (by simp);have W:=Walks.range (prog:=X.prog) (w:=X.w) (I.ok.hd hc) it lo 1 n;refine W.item i s _ _ hg st fun v h' tk hv st' kk=>?_;obtain⟨t,rfl⟩:=hv;have I1:Inv X pins σ H {s with heap:=h',toks:=tk}:=I.turned (fun b o hb e=>kk b o (by simpa using hb) e) f0 f1 f3 f4 f5;refine⟨_,rfl,yI (s:={s with heap:=h',toks:=tk}) (n:="range_iterator") st' rfl rfl (by decide) ⟨.int (lo+i),H,I1,⟨t,?_⟩,⟨rfl,rfl⟩,st',fun b hb=>(hf b hb).1⟩⟩;rw[Int.mul_one]
 done:=by
  intro X hP hw hK hc i pins s σ H E I hf st hg;subst hP hw hK;obtain⟨f0,f1,f2,f3,f4,f5⟩:=hf it (by simp);exact wpAny_pyNext_range_end (I.ok.hd hc) st (by have:n<=i:=hg;omega) fun h' eb=>⟨rfl,I.turned (t':=s.toks) (fun b o hb e=>eb b o hb e) f0 f1 f3 f4 f5⟩
 self:=fun _ _ _ _ _ st h=>wpAny_pyIter_rangeiter st h
section
variable {X:Cx}{tg:Expr}
theorem u6{pins:List (Addr×Obj)}{σ:St}{H:Hp}{s:Shared}{R:It->Hp->Prop}{E:Value->Shared->Prop}{lo hi:Int}{t u v:Tok}{tk:Nat}(I:Inv X pins σ H s)(h1: -(2^62)<=lo)(h2:lo<2^62)(h3: -(2^62)<=hi)(h4:hi<2^62)
 (q:R (tJ lo (hi-lo).toNat) H):wpAny (model X.prog X.w) X.A (pyIter (.ref s.heap.objs.size)) (CO X pins σ tg R) E {s with heap:=s.heap.push {cls:= .type "range",data:= .fields #[.int lo t,.int hi u,.int 1 v]},toks:=tk}:=by
 refine wpAny_pyIter_range (IsRange.new ..) (small_one h1 h2 h3 h4) ?_;have I1:Inv X pins σ H {s with heap:=s.heap.push {cls:= .type "range",data:= .fields #[.int lo t,.int hi u,.int 1 v]},toks:=tk}:=I.kept fun b o e=>Heap.get?_push_of_some _ e
 refine⟨(s.heap.push {cls:= .type "range",data:= .fields #[.int lo t,.int hi u,.int 1 v]}).objs.size,[(s.heap.push {cls:= .type "range",data:= .fields #[.int lo t,.int hi u,.int 1 v]}).objs.size],_,_,H,rfl,
  I1.kept (t':=tk) fun b o e=>Heap.get?_push_of_some _ e,yT _ lo (hi-lo).toNat,?_,fun b hb=>?_,q⟩
 . have e1:lo+((0:Nat):Int)*1=lo:=by simp
   have e2:(((hi-lo).toNat:Nat):Int)-((0:Nat):Int)=Builtin.Range.rangeSize lo hi 1:=by rw[rangeSize_one];split<;>omega
   show IsRangeIter _ _ (lo+((0:Nat):Int)*1) ((((hi-lo).toNat:Nat):Int)-((0:Nat):Int)) 1;rw[e1,e2];exact Heap.get?_push_size _ rfl
 . have e:b=(s.heap.push {cls:= .type "range",data:= .fields #[.int lo t,.int hi u,.int 1 v]}).objs.size:=by simpa using hb
   subst e;exact I1.su (Nat.le_refl _) (I1.aB.fresh (Nat.le_refl _))
def yK(ta:TA):TI:=fun σ H R=>ta σ H fun vs H1=>∃j:Int,vs=[.int j]/\ -(2^62)<=j/\j<2^62/\R (tJ 0 j.toNat) H1
def zd(ta:TA):TI:=fun σ H R=>ta σ H fun vs H1=>∃i j:Int,vs=[.int i,.int j]/\(-(2^62)<=i/\i<2^62/\ -(2^62)<=j/\j<2^62)/\R (tJ i (j-i).toNat) H1
theorem A5{a:Expr}{ta:TA}{p pos:Pos}(hg:Gl X "range")(hm:X.mg "range"=none)(ha:PA X [a] ta)(hs:starEach [a] X.env=[(false,eval a X.env)]:=by rfl):PI X tg (.Call (.Name "range" p) [a] [] pos) (yK ta):=by
 intro pins s σ H R I h;refine Call_ (jH I hg hm boot_range (PyProof.Rows.callWith_type1 (bp (ha pos pins s σ H _ I h) fun us s1 ⟨vs,H1,I1,r1,q1⟩=>?_) hs rfl));obtain⟨j,e,q1,q2,q⟩:=q1;subst e;cases r1 with
 |cons r rr=>
  cases rr;obtain⟨t,rfl⟩:=r;exact call_range_1 (u6 I1 (by omega) (by omega) q1 q2 (by simpa using q))
theorem zU{a b:Expr}{ta:TA}{p pos:Pos}(hg:Gl X "range")(hm:X.mg "range"=none)(ha:PA X [a,b] ta)(hs:starEach [a,b] X.env=[(false,eval a X.env),(false,eval b X.env)]:=by rfl)(hs2:starEach [b] X.env=[(false,eval b X.env)]:=by rfl):
 PI X tg (.Call (.Name "range" p) [a,b] [] pos) (zd ta):=by
 intro pins s σ H R I h;refine Call_ (jH I hg hm boot_range (PyProof.Rows.callWith_type1 (bp (ha pos pins s σ H _ I h) fun us s1 ⟨vs,H1,I1,r1,q1⟩=>?_) (by rw[hs,hs2]) (by rw[hs2];rfl)));obtain⟨i,j,e,⟨q1,q2,q3,q4⟩,q⟩:=q1;subst e;cases r1 with
 |cons r rr=>
  cases rr with
  |cons r' rr=>
   cases rr;obtain⟨t,rfl⟩:=r;obtain⟨t',rfl⟩:=r';exact call_range_2 (u6 I1 q1 q2 q3 q4 q)
def Hm(wi:TI)(g:TG)(tb:TS):TS:=fun D σ H=>wi σ H fun J H1=>∃W:Nat->Nat->St->Hp->Prop,(∃m,W 0 m σ H1)/\∀i m σ H,W i m σ H->
 (J.stop i H/\D.nx σ H)\/(J.go i H/\∃N:St->Hp->Prop,(∀σ' H',N σ' H'->∃m',m'<m/\W (i+1) m' σ' H')/\∀x H',J.mm i H x H'->g x σ H' fun σ2 H2=>tb {D with nx:=N,ct:=N,bk:=D.nx} σ2 H2)
def nB(fp:List Addr)(h:Heap):List (Addr×Obj):=fp.filterMap fun b=>(h.get? b).map fun o=>(b,o)
theorem jY{fp:List Addr}{h:Heap}{b:Addr}{o:Obj}(hb:b∈fp)(e:h.get? b=some o):(b,o)∈nB fp h:=List.mem_filterMap.mpr ⟨b,hb,by rw[e];rfl⟩
theorem AD{fp:List Addr}{h:Heap}{p:Addr×Obj}(hp:p∈nB fp h):p.1∈fp/\h.get? p.1=some p.2:=by
 obtain⟨b,hb,e⟩:=List.mem_filterMap.mp hp;cases q:h.get? b with
 |none=>rw[q]at e;cases e
 |some o=>
  rw[q]at e;have e':(b,o)=p:=Option.some.inj e;subst e';exact⟨hb,q⟩
theorem Inv.pinned{pins:List (Addr×Obj)}{σ:St}{H:Hp}{s:Shared}{fp:List Addr}(I:Inv X pins σ H s)(hf:∀b∈fp,i3 X pins H b)(ho:∀b∈fp,∃o,s.heap.get? b=some o/\∀v,o.data≠ .cell v):Inv X (pins++nB fp s.heap) σ H s:=
 I.o5 fun p hp=>(List.mem_append.mp hp).elim (fun z=>I.pin p (List.mem_append_right _ z)) fun z=>by
  obtain⟨hb,e⟩:=AD z;obtain⟨f0,f1,f2,_⟩:=hf p.1 hb;obtain⟨o,e',d⟩:=ho p.1 hb;rw[e]at e';cases e';exact⟨e,f0,f1,f2,d⟩
theorem Inv.fH{pins pl:List (Addr×Obj)}{σ:St}{H:Hp}{s:Shared}(I:Inv X (pins++pl) σ H s):Inv X pins σ H s:=I.o5 fun p hp=>I.pin p (List.mem_append_right _ (List.mem_append_left _ hp))
theorem Hi{iter:Expr}{body:List Stmt}{wi:TI}{g:TG}{tb:TS}{pos:Pos}(hp:PassesOwn (model X.prog X.w) X.A X.env X.xe)(hc:X.calm=true)(hi:PI X tg iter wi)(hg:PG X tg g)(hb:c9 X body tb)
 (hs:∀x,foldedSetIterable iter X.env x=pure x:=by intro _;rfl):PS X (.For tg iter body [] pos) (Hm wi g tb):=by
 intro pins s σ H D I h;refine wpAny_For (bp (hi pins s σ H _ I h) fun v s1 h1=>bp h1 fun itv s2 h2=>?_) hs;obtain⟨it,fp,tn,J,H2,e,I2,T,st2,f2,W,⟨m0,w0⟩,turn⟩:=h2;subst e;have stat:∀ {H':Hp},(∀b∈fp,H' b=none)->∀b∈fp,i3 X pins H' b:=fun hn b hb=>⟨hn b hb,(f2 b hb).2⟩
 refine codeAny_forLoop_any (fun n s'=>∃i σ' H',Inv X pins σ' H' s'/\tn i s'.heap/\(∀b∈fp,H' b=none)/\W i n σ' H') ?_ m0 ⟨0,σ,H2,I2,st2,fun b hb=>(f2 b hb).1,w0⟩;rintro n s3 ⟨i,σ3,H3,I3,st3,fr3,w3⟩;rcases turn i n σ3 H3 w3 with⟨stop,qn⟩|⟨go,N,hN,step⟩
 . refine wpAny_passesOwn hp (bp (T.done X rfl rfl rfl hc i pins s3 σ3 H3 X.xe I3 (stat fr3) st3 stop) fun r s4 ⟨hr,I4⟩=>?_);subst hr;exact wpAny_execs_nil ⟨σ3,H3,I4,qn⟩
 . refine wpAny_passesOwn hp (bp (T.item X rfl rfl rfl hc i pins s3 σ3 H3 X.xe I3 (stat fr3) st3 go) fun r s4 ⟨u,hr,h4⟩=>?_);subst hr;refine wpAny_passesOwn hp (bp h4 fun _ s5 ⟨x,H5,I5,r5,y5,st5,fr5⟩=>?_);have I5':=I5.pinned (stat fr5) (T.obj _ _ st5);refine wpAny_passesOwn hp (bp (hg _ s5 σ3 H5 x u _ I5' r5 (step x H5 y5)) fun _ s6 ⟨σ6,H6,I6,q6⟩=>?_);refine wpAny_passesOwn hp (bp (hb _ s6 σ6 H6 _ I6 q6) fun f s7 q7=>?_)
   have again:∀ {σ7:St} {H7:Hp},Inv X (pins++nB fp s5.heap) σ7 H7 s7->N σ7 H7->∃m,m<n/\∃i σ' H',Inv X pins σ' H' s7/\tn i s7.heap/\(∀b∈fp,H' b=none)/\W i m σ' H':=fun{σ7 H7} I7 n7=>by
    obtain⟨m',hm,w7⟩:=hN σ7 H7 n7;refine⟨m',hm,i+1,σ7,H7,I7.fH,T.keep _ _ _ st5 fun b hb o e=>(I7.pin (b,o) (List.mem_append_right _ (List.mem_append_right _ (jY hb e)))).1,fun b hb=>?_,w7⟩;obtain⟨o,e,d⟩:=T.obj _ _ st5 b hb;exact(I7.pin (b,o) (List.mem_append_right _ (List.mem_append_right _ (jY hb e)))).2.1
   cases f with
   |next=>obtain⟨σ7,H7,I7,n7⟩:=q7;exact again I7 n7
   |cont=>obtain⟨σ7,H7,I7,n7⟩:=q7;exact again I7 n7
   |brk=>obtain⟨σ7,H7,I7,q7⟩:=q7;exact⟨σ7,H7,I7.fH,q7⟩
   |ret v=>obtain⟨x7,σ7,H7,I7,r7,q7⟩:=q7;exact⟨x7,σ7,H7,I7.fH,r7,q7⟩
end
theorem gj{lo:Int}{n:Nat}{g:TG}{tb:TS}{D:Ends}{σ:St}{H:Hp}(Pv:Nat->St->Hp->Prop)(h0:Pv 0 σ H)
 (hs:∀i σ H,i<n->Pv i σ H->g (.int (lo+i)) σ H fun σ2 H2=>tb {D with nx:=Pv (i+1),ct:=Pv (i+1),bk:=D.nx} σ2 H2) (hd:∀σ H,Pv n σ H->D.nx σ H):
 ∃W:Nat->Nat->St->Hp->Prop,(∃m,W 0 m σ H)/\∀i m σ H,W i m σ H->
  ((tJ lo n).stop i H/\D.nx σ H)\/((tJ lo n).go i H/\∃N:St->Hp->Prop,(∀σ' H',N σ' H'->∃m',m'<m/\W (i+1) m' σ' H')/\∀x H',(tJ lo n).mm i H x H'->g x σ H' fun σ2 H2=>tb {D with nx:=N,ct:=N,bk:=D.nx} σ2 H2):=by
 refine⟨fun i m σ H=>m=n-i/\i<=n/\Pv i σ H,⟨n,by simp,Nat.zero_le _,h0⟩,?_⟩;rintro i m σ H ⟨rfl,hi,p⟩;by_cases hlt:i<n
 . refine .inr ⟨hlt,Pv (i+1),fun σ' H' p'=>⟨n-(i+1),by omega,rfl,hlt,p'⟩,fun x H' y=>?_⟩;obtain⟨e,y⟩:=y;subst e y;exact hs i σ _ hlt p
 . have e:i=n:=by omega
   subst e;exact .inl ⟨Nat.le_refl _,hd σ H p⟩
abbrev R2:=V->V->Hp->VK->Prop
def bG(X:Cx)(f:Value->Value->Sem Value)(r:R2):Prop:=
 ∀(pins:List (Addr×Obj)) (s:Shared) (σ:St) (H:Hp) (x y:V) (v u:Value) (Q:VK),Inv X pins σ H s->RelV x v->RelV y u->r x y H Q->
  wpAny (model X.prog X.w) X.A (f v u) (EP X pins σ Q) X.xe s
def xD(X:Cx)(f:Value->Sem Value)(r:V->Hp->VK->Prop):Prop:=
 ∀(pins:List (Addr×Obj)) (s:Shared) (σ:St) (H:Hp) (x:V) (v:Value) (Q:VK),Inv X pins σ H s->RelV x v->r x H Q->
  wpAny (model X.prog X.w) X.A (f v) (EP X pins σ Q) X.xe s
def bc(X:Cx)(f:Value)(r:List V->Hp->VK->Prop):Prop:=
 ∀(pins:List (Addr×Obj)) (s:Shared) (σ:St) (H:Hp) (xs:List V) (us:List Value) (Q:VK),Inv X pins σ H s->Vals xs us->r xs H Q->
  wpAny (model X.prog X.w) X.A (call f us) (EP X pins σ Q) X.xe s
def Aj(r:R2)(ta tb:TE):TE:=fun σ H Q=>ta σ H fun x H1=>tb σ H1 fun y H2=>r x y H2 Q
def J_(r:V->Hp->VK->Prop)(ta:TE):TE:=fun σ H Q=>ta σ H fun x H1=>r x H1 Q
def rI(C:Int->Int->Prop)(g:Int->Int->V):R2:=fun x y H Q=>∃i j,x= .int i/\y= .int j/\C i j/\Q (g i j) H
def wB(g:Int->Int->V):R2:=fun x y H Q=>∃i j,x= .int i/\y= .int j/\Q (g i j) H
def rU(g:Int->V):V->Hp->VK->Prop:=fun x H Q=>∃i,x= .int i/\Q (g i) H
section
variable {X:Cx}{a b c:Expr}{ta tb tc:TE}{pos:Pos}
theorem Cw(ha:PE X a ta)(hb:PE X b tb){pins:List (Addr×Obj)}{s:Shared}{σ:St}{H:Hp}{R:V->V->Hp->Prop}(I:Inv X pins σ H s)
 (h:ta σ H fun x H1=>tb σ H1 fun y H2=>R x y H2) {Q:Value->Shared->Prop} {f:Value->Value->Sem Value}
 (hf:∀v u s2 x y H2,Inv X pins σ H2 s2->RelV x v->RelV y u->R x y H2->wpAny (model X.prog X.w) X.A (f v u) Q X.xe s2):
 wpAny (model X.prog X.w) X.A (eval a X.env) (fun v s₁=>wpAny (model X.prog X.w) X.A (eval b X.env) (fun u s₂=>wpAny (model X.prog X.w) X.A (f v u) Q X.xe s₂) X.xe s₁) X.xe s:=by
 refine bp (ha pins s σ H _ I h) fun v s1 ⟨x,H1,I1,r1,q1⟩=>?_;refine bp (hb pins s1 σ H1 _ I1 q1) fun u s2 ⟨y,H2,I2,r2,q2⟩=>?_;exact hf v u s2 x y H2 I2 r1 r2 q2
theorem Ig{op:Operator}{r:R2}(ho:bG X (binaryOp op) r)(ha:PE X a ta)(hb:PE X b tb):PE X (.BinOp a op b pos) (Aj r ta tb):=by
 intro pins s σ H Q I h;exact wpAny_BinOp (Cw ha hb I h fun v u s2 x y H2 I2 rx ry q=>ho pins s2 σ H2 x y v u Q I2 rx ry q)
theorem Jl{op:UnaryOp}{r:V->Hp->VK->Prop}(ho:xD X (unaryOp op) r)(ha:PE X a ta):PE X (.UnaryOp op a pos) (J_ r ta):=by
 intro pins s σ H Q I h;exact UnaryOp_ (bp (ha pins s σ H _ I h) fun v s1 ⟨x,H1,I1,r1,q1⟩=>ho pins s1 σ H1 x v Q I1 r1 q1)
theorem C8{f:Value->Value->Sem Value}{C:Int->Int->Prop}{g:Int->Int->Int}
 (rule:∀(i j:Int) (t u:Tok) (s:Shared) (Q:Value->Shared->Prop) (E:Value->Shared->Prop),C i j->Q (.int (g i j) s.toks) {s with toks:=s.toks+1}->wpAny (model X.prog X.w) X.A (f (.int i t) (.int j u)) Q E s):
 bG X f (rI C fun i j=> .int (g i j)):=by
 intro pins s σ H x y v u Q I rx ry h;obtain⟨i,j,rfl,rfl,hc,q⟩:=h;obtain⟨t,rfl⟩:=rx;obtain⟨t',rfl⟩:=ry;exact rule i j t t' s _ _ hc ⟨.int (g i j),H,I.tok _,⟨_,rfl⟩,q⟩
theorem Ld{f:Value->Value->Sem Value}{g:Int->Int->Int}
 (rule:∀(i j:Int) (t u:Tok) (s:Shared) (Q:Value->Shared->Prop) (E:Value->Shared->Prop),Q (.int (g i j) s.toks) {s with toks:=s.toks+1}->wpAny (model X.prog X.w) X.A (f (.int i t) (.int j u)) Q E s):
 bG X f (wB fun i j=> .int (g i j)):=by
 intro pins s σ H x y v u Q I rx ry h;obtain⟨i,j,rfl,rfl,q⟩:=h;obtain⟨t,rfl⟩:=rx;obtain⟨t',rfl⟩:=ry;exact rule i j t t' s _ _ ⟨.int (g i j),H,I.tok _,⟨_,rfl⟩,q⟩
theorem B9{f:Value->Value->Sem Value}{g:Int->Int->Bool}
 (rule:∀(i j:Int) (t u:Tok) (s:Shared) (Q:Value->Shared->Prop) (E:Value->Shared->Prop),Q (.bool (g i j)) s->wpAny (model X.prog X.w) X.A (f (.int i t) (.int j u)) Q E s):
 bG X f (wB fun i j=> .bl (g i j)):=by
 intro pins s σ H x y v u Q I rx ry h;obtain⟨i,j,rfl,rfl,q⟩:=h;obtain⟨t,rfl⟩:=rx;obtain⟨t',rfl⟩:=ry;exact rule i j t t' s _ _ ⟨.bl (g i j),H,I,rfl,q⟩
def wg(i j:Int):Prop:=0<=j/\j<=1000000/\i.natAbs<2^64
theorem F8:bG X (binaryOp .Add) (wB fun i j=> .int (i+j)):=Ld fun _ _ _ _ _ _ _ q=>add_int q
theorem Ep:bG X (binaryOp .Mod) (rI (fun _ j=>j≠0) fun i j=> .int (i.fmod j)):=C8 fun _ _ _ _ _ _ _ hc q=>mod_int' hc q
theorem Hu:bG X (binaryOp .Pow) (rI wg fun i j=> .int (i^j.toNat)):=C8 fun _ _ _ _ _ _ _ hc q=>pow_int_small hc.1 hc.2.1 hc.2.2 q
theorem Lw{f:Value->Sem Value}{g:Int->Int}
 (rule:∀(i:Int) (t:Tok) (s:Shared) (Q:Value->Shared->Prop) (E:Value->Shared->Prop),Q (.int (g i) s.toks) {s with toks:=s.toks+1}->wpAny (model X.prog X.w) X.A (f (.int i t)) Q E s):
 xD X f (rU fun i=> .int (g i)):=by
 intro pins s σ H x v Q I rx h;obtain⟨i,rfl,q⟩:=h;obtain⟨t,rfl⟩:=rx;exact rule i t s _ _ ⟨.int (g i),H,I.tok _,⟨_,rfl⟩,q⟩
theorem HR:xD X (unaryOp .USub) (rU fun i=> .int (-i)):=Lw fun _ _ _ _ _ q=>neg_int q
end
def KW:V->V->Bool
 | .aC,.aC=>true| .aC,.int _=>true| .int _,.aC=>true| .aC,.bl _=>true| .bl _,.aC=>true| .aC,.str _=>true| .str _,.aC=>true
 | .int _,.int _=>true| .bl _,.bl _=>true| .str _,.str _=>true| .nI _,.nI _=>true
 | .int _,.str _=>true| .str _,.int _=>true| .bl _,.str _=>true| .str _,.bl _=>true
 |_,_=>false
def Lx:R2:=fun x y H Q=>KW x y=true/\Q (.bl (!decide (x=y))) H
theorem DX{i j:Int}:decide (V.int i=V.int j)=(i==j):=by
 rw[Bool.eq_iff_iff];simp
theorem Fz{i j:Bool}:decide (V.bl i=V.bl j)=(i==j):=by
 rw[Bool.eq_iff_iff];simp
theorem Ej{i j:Str}:decide (V.str i=V.str j)=(i==j):=by
 rw[Bool.eq_iff_iff];simp
theorem E6{i j:Array UInt8}:decide (V.nI i=V.nI j)=(i.toList==j.toList):=by
 rw[Bool.eq_iff_iff];cases i;cases j;simp
section
variable {X:Cx}{a b c:Expr}{ta tb tc:TE}{pos:Pos}
theorem dP{pins:List (Addr×Obj)}{σ:St}{H:Hp}{s:Shared}{Q:VK}{k k':Bool}(I:Inv X pins σ H s)(q:Q (.bl k) H)(e:k=k'):EP X pins σ Q (.bool k') s:=by
 subst e;exact⟨.bl k,H,I,rfl,q⟩
theorem JQ:bG X (compareOp .NotEq) Lx:=by
 intro pins s σ H x y v u Q I rx ry h;obtain⟨hs,q⟩:=h;cases x with
 |aC=>
  cases rx;cases y with
  |aC=>cases ry;exact PySem.EqNone.ne_none_none (dP I q (by simp))
  |bl j=>cases ry;exact PySem.EqNone.ne_none_bool (dP I q (by simp))
  |int j=>obtain⟨t',rfl⟩:=ry;exact PySem.EqNone.ne_none_int (dP I q (by simp))
  |str j=>obtain⟨t',rfl⟩:=ry;exact PySem.EqNone.ne_none_str (dP I q (by simp))
  |_=>exact absurd (show false=true from hs) Bool.false_ne_true
 |bl i=>
  cases rx;cases y with
  |aC=>cases ry;exact PySem.EqNone.ne_bool_none (dP I q (by simp))
  |bl j=>cases ry;exact ne_bool (dP I q (congrArg not Fz))
  |str j=>obtain⟨t',rfl⟩:=ry;exact PySem.EqMixed.ne_bool_str (dP I q (by simp))
  |_=>exact absurd (show false=true from hs) Bool.false_ne_true
 |int i=>
  obtain⟨t,rfl⟩:=rx;cases y with
  |aC=>cases ry;exact PySem.EqNone.ne_int_none (dP I q (by simp))
  |int j=>obtain⟨t',rfl⟩:=ry;exact ne_int (dP I q (congrArg not DX))
  |str j=>obtain⟨t',rfl⟩:=ry;exact PySem.EqMixed.ne_int_str (dP I q (by simp))
  |_=>exact absurd (show false=true from hs) Bool.false_ne_true
 |str i=>
  obtain⟨t,rfl⟩:=rx;cases y with
  |aC=>cases ry;exact PySem.EqNone.ne_str_none (dP I q (by simp))
  |bl j=>cases ry;exact PySem.EqMixed.ne_str_bool (dP I q (by simp))
  |int j=>obtain⟨t',rfl⟩:=ry;exact PySem.EqMixed.ne_str_int (dP I q (by simp))
  |str j=>obtain⟨t',rfl⟩:=ry;exact ne_str (dP I q (congrArg not Ej))
  |_=>exact absurd (show false=true from hs) Bool.false_ne_true
 |nI i=>
  obtain⟨t,rfl⟩:=rx;cases y with
  |nI j=>obtain⟨t',rfl⟩:=ry;exact PySem.W.ne_bytes (dP I q (congrArg not E6))
  |_=>exact absurd (show false=true from hs) Bool.false_ne_true
 |_=>cases y<;>exact absurd (show false=true from hs) Bool.false_ne_true
theorem I_:bG X (compareOp .Lt) (wB fun i j=> .bl (decide (i<j))):=B9 fun _ _ _ _ _ _ _ q=>lt_int q
theorem Js:bG X (compareOp .Gt) (wB fun i j=> .bl (decide (j<i))):=B9 fun _ _ _ _ _ _ _ q=>gt_int q
theorem Iy:bG X (compareOp .GtE) (wB fun i j=> .bl (decide (j<=i))):=B9 fun _ _ _ _ _ _ _ q=>ge_int q
theorem EM:bG X (compareOp .IsNot) (fun x y H Q=>y= .aC/\Q (.bl (!decide (x= .aC))) H):=by
 intro pins s σ H x y v u Q I rx ry h;obtain⟨rfl,q⟩:=h;cases ry;refine isnot_none_gen (dP I q ?_)
 cases x<;>first
  |(cases rx;rfl)
  |(obtain⟨t,rfl⟩:=rx;rfl)
theorem bS(b:Expr){op:CmpOp}(h:op≠ .In:=by decide)(h2:op≠ .NotIn:=by decide):behindInMarks op b=false:=by
 have e1:(op==CmpOp.In)=false:=by cases op<;>first|rfl|exact absurd rfl h
 have e2:(op==CmpOp.NotIn)=false:=by cases op<;>first|rfl|exact absurd rfl h2
 cases b<;>simp[behindInMarks,e1,e2]
theorem D7{op:CmpOp}{r:R2}(ho:bG X (compareOp op) r)(ha:PE X a ta)(hb:PE X b tb)(hm:behindInMarks op b=false):PE X (.Compare a [op] [b] pos) (Aj r ta tb):=by
 intro pins s σ H Q I h;exact wpAny_Compare1 (Cw ha hb I h fun v u s2 x y H2 I2 rx ry q=>ho pins s2 σ H2 x y v u Q I2 rx ry q) hm
def JU(t:TE):TT:=fun σ H Q=>t σ H fun x H'=>∃k,x= .bl k/\Q k H'
theorem DP{op:CmpOp}{r:R2}(ho:bG X (compareOp op) r)(ha:PE X a ta)(hb:PE X b tb)(hm:behindInMarks op b=false):PT X (.Compare a [op] [b] pos) (JU (Aj r ta tb)):=by
 intro pins s σ H Q I h
 refine wpAny_isTrue_Compare1 (bp (ha pins s σ H _ I h) fun v s1 ⟨x,H1,I1,r1,q1⟩=>bp (hb pins s1 σ H1 _ I1 q1) fun u s2 ⟨y,H2,I2,r2,q2⟩=>
  bp (ho pins s2 σ H2 x y v u _ I2 r1 r2 q2) fun c s3 ⟨z,H3,I3,r3,k,e,q3⟩=>?_) hm
 subst e;cases r3;exact wpAny_truthy_bool ⟨H3,I3,q3⟩
theorem oB:(sizeLine:Nat)<2^63:=by rw[sizeLine_eq];decide
theorem yz:bG X (binaryOp .Add) (fun x y H Q=>∃i j,x= .str i/\y= .str j/\i.length+j.length<=sizeLine/\Q (.str (i++j)) H):=by
 intro pins s σ H x y v u Q I rx ry h;obtain⟨i,j,rfl,rfl,hz,q⟩:=h;obtain⟨t,rfl⟩:=rx;obtain⟨t',rfl⟩:=ry;exact add_str (fun t' tk=>⟨.str (i++j),H,I.tok _,⟨_,rfl⟩,q⟩) hz
theorem vals1{x:V}{us:List Value}(r:Vals [x] us):∃u,us=[u]/\RelV x u:=by
 cases r with
 |cons r1 r2=>cases r2;exact⟨_,rfl,r1⟩
theorem vals2{x y:V}{us:List Value}(r:Vals [x,y] us):∃u w',us=[u,w']/\RelV x u/\RelV y w':=by
 cases r with
 |cons r1 r2=>
  cases r2 with
  |cons r3 r4=>cases r4;exact⟨_,_,rfl,r1,r3⟩
theorem BH:bc X (.builtin "abs") (fun xs H Q=>∃i,xs=[.int i]/\Q (.int (if i<0 then-i else i)) H):=by
 intro pins s σ H xs us Q I r h;obtain⟨i,rfl,q⟩:=h;obtain⟨u,rfl,t,rfl⟩:=vals1 r;exact call_abs_int fun u tk=>⟨.int (if i<0 then-i else i),H,I.tok _,⟨_,rfl⟩,q⟩
theorem zC(hc:X.calm=true):bc X (.builtin "max") (fun xs H Q=>∃i j,xs=[.int i,.int j]/\Q (.int (if j>i then j else i)) H):=by
 intro pins s σ H xs us Q I r h;obtain⟨i,j,rfl,q⟩:=h;obtain⟨u,w',rfl,⟨t,rfl⟩,⟨t',rfl⟩⟩:=vals2 r;refine max_two_ints (I.ok.hd hc) fun h' tk k=>⟨_,H,I.kept k,?_,q⟩
 by_cases hj:j>i
 . rw[if_pos hj,if_pos hj];exact⟨_,rfl⟩
 . rw[if_neg hj,if_neg hj];exact⟨_,rfl⟩
theorem Bc(hc:X.calm=true):bc X (.builtin "min") (fun xs H Q=>∃i j,xs=[.int i,.int j]/\Q (.int (if j<i then j else i)) H):=by
 intro pins s σ H xs us Q I r h;obtain⟨i,j,rfl,q⟩:=h;obtain⟨u,w',rfl,⟨t,rfl⟩,⟨t',rfl⟩⟩:=vals2 r;refine min_two_ints (I.ok.hd hc) fun h' tk k=>⟨_,H,I.kept k,?_,q⟩
 by_cases hj:j<i
 . rw[if_pos hj,if_pos hj];exact⟨_,rfl⟩
 . rw[if_neg hj,if_neg hj];exact⟨_,rfl⟩
theorem zM:bc X (.type "int") (fun xs H Q=>(∃i,xs=[.int i]/\Q (.int i) H)\/∃k,xs=[.bl k]/\Q (.int (if k then 1 else 0)) H):=by
 intro pins s σ H xs us Q I r h;rcases h with⟨i,rfl,q⟩|⟨k,rfl,q⟩
 . obtain⟨u,rfl,t,rfl⟩:=vals1 r;exact call_int_int ⟨.int i,H,I,⟨_,rfl⟩,q⟩
 . obtain⟨u,rfl,r1⟩:=vals1 r;cases r1;exact call_int_bool ⟨.int (if k then 1 else 0),H,I.tok _,⟨_,rfl⟩,q⟩
end
structure qm(h:Heap)(x dx C:Addr)(mA:Str->Option Value):Prop where
 obj:h.get? x=some (PySem.W.instObj C dx)
 ns:h.Ns1 dx mA
 ne:dx≠x
theorem zX{h:Heap}{dx:Addr}{mA:Str->Option Value}(n:h.Ns1 dx mA):∃od,h.get? dx=some od/\∀name,PySem.W.lookIn name od=some (mA name):=by
 obtain⟨o,es,ep,ho,hd,hk,_,hm⟩:=n;refine⟨o,ho,fun name=>?_⟩;have e:=hm name;unfold nsFind findBy at e;rw[<-Array.find?_toList]at e;unfold PySem.W.lookIn;rw[hd];dsimp only;split
 . rename_i y q;rw[q]at e;exact congrArg some e
 . rename_i q;rw[q]at e
   have a:es.toList.any (·.refKey)=false:=by
    rw[List.any_eq_false];intro y hy;obtain⟨z,t,hkey⟩:=hk y (Array.mem_toList_iff.mp hy);simp[DictEntry.refKey,hkey]
   have a':¬es.toList.any (·.refKey)=true:=by rw[a];exact Bool.false_ne_true
   rw[if_neg a'];exact congrArg some e
theorem qm.look{h:Heap}{x dx C:Addr}{mA:Str->Option Value}(I:qm h x dx C mA):∃od,PySem.W.InstAt h x (PySem.W.instObj C dx) C (some od)/\∀name,PySem.W.lookIn name od=some (mA name):=
 let⟨od,ho,hl⟩:=zX I.ns
 ⟨od,⟨I.obj,rfl,rfl,ho⟩,hl⟩
section
variable {prog:Program}{w:World}{A:Around}{E:Value->Shared->Prop}{s:Shared}{K:PySem.W.Frag}{x dx C f:Addr}{mA:Str->Option Value}{name:Str}{v:Value}
theorem get_map{expr:Bool}{Q:Value->Shared->Prop}(X:K.In s.heap)(I:qm s.heap x dx C mA)(hg:PySem.W.plainGet K C name=true)(hh:PySem.W.hasDictIn K C=true)
 (ha:PySem.W.findIn K (.ref C) name=some none) (hv:mA name=some v) (hv':PySem.W.handedIn v=true) (h:Q v {s with toks:=s.toks+1}):
 wpAny (model prog w) A (getAttr (.ref x) name expr) Q E s:=by
 obtain⟨od,J,hl⟩:=I.look;exact PySem.W.get_value X J (PySem.W.plainGet_of hg).1 (PySem.W.findObj_own hh ha rfl (by rw[hl,hv])) hv' h
theorem BX{pl:Sem Bool}{Q:Value×List Value->Shared->Prop}(X:K.In s.heap)(I:qm s.heap x dx C mA)(hg:PySem.W.plainGet K C name=true)
 (hf:PySem.W.findIn K (.ref C) name=some (some (.ref f))) (ht:PySem.W.isFn K (.ref f)=true) (hv:mA name=none) (h:Q (.ref f,[.ref x]) s):
 wpAny (model prog w) A (getMethod (.ref x) name pl) Q E s:=by
 obtain⟨od,J,hl⟩:=I.look;exact PySem.W.method_fn X J (PySem.W.plainGet_of hg).1 (PySem.W.plainGet_of hg).2 hf (beq_iff_eq.mp ht) (by show(PySem.W.lookIn name od).map (·.isSome)=some false;rw[hl,hv];rfl) h
theorem fR{ns:List Str}{Q:Unit->Shared->Prop}(X:K.In s.heap)(I:qm s.heap x dx C mA)
 (hs:PySem.W.findIn K (.ref C) "__setattr__"=some (some (.builtin "object.__setattr__"))) (hp:PySem.W.plainOver K C=true) (ht:PySem.W.takerIn K C name=some none) (hh:PySem.W.hasDictIn K C=true)
 (hw:PySem.Within mA ns) (hsz:ns.length<=sizeLine)
 (h:∀h',qm h' x dx C (fun y=>if y=name then some v else mA y)->Heap.SameBut dx s.heap h'->Q () {s with heap:=h',toks:=s.toks+2}):
 wpAny (model prog w) A (setAttr (.ref x) name v) Q E s:=by
 obtain⟨od,J,hl⟩:=I.look;refine PySem.W.set_plain X J hs (PySem.W.osa_open (s:={s with toks:=s.toks+1}) (r:=none) X J hp ht fun b=>?_);obtain⟨cd,hc,hd'⟩:=PySem.W.any_some hh;have hx:s.heap.get? x=some ⟨.ref C,some dx,.plain,#[]⟩:=I.obj;refine wpAny_bind (wpAny_pure (wpAny_bind (wpAny_bind (wpAny_loadPart hx (wpAny_bind (PySem.W.Looks.here (s:={s with toks:=s.toks+1}) (PySem.W.looks_clsIn X hc) ?_))))));rw[hd'];refine wpAny_pure (a:=some dx) (wpAny_bind (wpAny_pure (wpAny_bind ?_)));refine wpAny_nsSet1 (s:={s with toks:=s.toks+1}) I.ns fun h' hn2 hs2=>?_;obtain⟨oD,esD,epD,hoD,hdD,hcD⟩:=hn2.count (PySem.Within.cons name v hw);refine wpAny_bind (wpAny_lookBehind hoD (by rw[hdD];exact pastItsLine_dict (Nat.le_trans hcD (by rw[List.length_cons];omega))) ?_);exact wpAny_pure (h _ ⟨(hs2.2 _ (Ne.symm I.ne)).trans I.obj,hn2,I.ne⟩ hs2)
theorem BM{R:Result->Shared->Prop}{vs:List Value}{kw:List (Str×Value)}(X:K.In s.heap)(hm:PySem.W.makesIn K C=true)
 (hi:PySem.W.findIn K (.ref C) "__init__"=some (some (.ref f))) (hf:PySem.W.typeIn K (.ref f)=some (.type "function"))
 (h:codeAny (model prog w) (A.under (.builtin "type.__call__" ⟨.ref C::vs,kw⟩)) (.call (.ref f) ⟨.ref (s.heap.objs.size+1)::vs,kw⟩) (PySem.W.InitBack (s.heap.objs.size+1) R)
   {s with heap:=(s.heap.push PySem.W.emptyDict).push (PySem.W.instObj C s.heap.objs.size)}):
 codeAny (model prog w) A (.call (.ref C) ⟨vs,kw⟩) R s:=by
 obtain⟨hh,g,d,t,os⟩:=s;exact PySem.W.make_core (PySem.W.makes_of X hm) (PySem.W.looks_findIn X hi) (fun self=>PySem.W.bind_fn X self hf) (.inl rfl) h
end
def fz(f:Str)(v:V):List (Str×V)->List (Str×V)
 | []=>[(f,v)]
 |(g,x)::r=>if g=f then(g,v)::r else(g,x)::fz f v r
theorem pM(f g:Str)(v:V):∀fs:List (Str×V),(fz f v fs).lookup g=if g=f then some v else fs.lookup g
 | []=>by
   show List.lookup g [(f,v)]=_;by_cases h:g=f
   . have hb:(g==f)=true:=beq_iff_eq.mpr h;simp only[List.lookup,hb,if_pos h]
   . have hb:(g==f)=false:=beq_eq_false_iff_ne.mpr h;simp only[List.lookup,hb,if_neg h]
 |(k,x)::r=>by
  have ih:=pM f g v r;rw[show fz f v ((k,x)::r)=(if k=f then(k,v)::r else(k,x)::fz f v r)from rfl];by_cases hk:k=f
  . rw[if_pos hk];by_cases h:g=k
    . have hb:(g==k)=true:=beq_iff_eq.mpr h;simp only[List.lookup,hb,if_pos (h.trans hk)]
    . have hb:(g==k)=false:=beq_eq_false_iff_ne.mpr h;simp only[List.lookup,hb,if_neg (fun e:g=f=>h (e.trans hk.symm))]
  . rw[if_neg hk];by_cases h:g=k
    . have hb:(g==k)=true:=beq_iff_eq.mpr h;simp only[List.lookup,hb,if_neg (fun e:g=f=>hk (h.symm.trans e))]
    . have hb:(g==k)=false:=beq_eq_false_iff_ne.mpr h;simp only[List.lookup,hb];exact ih
theorem oE(f:Str)(v:V):∀fs:List (Str×V),f∈(fz f v fs).map (·.1)/\∀g,g∈fs.map (·.1)->g∈(fz f v fs).map (·.1)
 | []=>⟨by simp[fz],fun g h=>by simp at h⟩
 |(k,x)::r=>by
  obtain⟨i1,i2⟩:=oE f v r;rw[show fz f v ((k,x)::r)=(if k=f then(k,v)::r else(k,x)::fz f v r)from rfl];by_cases hk:k=f
  . rw[if_pos hk];subst hk;exact⟨by simp,fun g h=>by simpa using h⟩
  . rw[if_neg hk];refine⟨?_,fun g h=>?_⟩
    . rw[List.map_cons];exact List.mem_cons_of_mem _ i1
    . rw[List.map_cons]at h⊢;rcases List.mem_cons.mp h with e|e
      . exact List.mem_cons.mpr (.inl e)
      . exact List.mem_cons_of_mem _ (i2 g e)
theorem pL(f:Str)(v:V):∀fs:List (Str×V),(fz f v fs).length<=fs.length+1
 | []=>by simp[fz]
 |(k,x)::r=>by
  have ih:=pL f v r;rw[show fz f v ((k,x)::r)=(if k=f then(k,v)::r else(k,x)::fz f v r)from rfl];by_cases hk:k=f
  . rw[if_pos hk,List.length_cons,List.length_cons];omega
  . rw[if_neg hk,List.length_cons,List.length_cons];omega
theorem lK.some_of{v:V}{o:Option Value}(r:lK (some v) o):∃u,o=some u/\RelV v u:=by
 cases o with
 |none=>exact(show False from r).elim
 |some u=>exact⟨u,rfl,r⟩
theorem lK.none_of{o:Option Value}(r:lK none o):o=none:=by
 cases o with
 |none=>rfl
 |some u=>exact(show False from r).elim
theorem Aa{v:V}{u:Value}(r:RelV v u):PySem.W.handedIn u=true:=by
 cases v with
 |aC=>cases (show u=Value.none from r);rfl
 |bl b=>cases (show u=Value.bool b from r);rfl
 |int i=>obtain⟨t,e⟩:=(show∃t,u=Value.int i t from r);cases e;rfl
 |str x=>obtain⟨t,e⟩:=(show∃t,u=Value.str x t from r);cases e;rfl
 |nI b=>obtain⟨t,e⟩:=(show∃t,u=Value.bytes b t from r);cases e;rfl
 |oq b=>obtain⟨t,e⟩:=(show∃t,u=Value.float b t from r);cases e;rfl
 |ref a=>cases (show u=Value.ref a from r);rfl
 |ty n=>cases (show u=Value.type n from r);rfl
section
variable {P:Program}{w:World}{H H':Hp}{h h':Heap}{a C dx:Addr}{fs fs':List (Str×V)}
theorem l8(aB:eA P w H h)(e:H a=some (.ins C dx fs)):∃mA,qm h a dx C mA/\(∀f,lK (fs.lookup f) (mA f))/\PySem.Within mA (fs.map (·.1))/\fs.length<=1000/\H dx=some (.own a):=by
 obtain⟨d,z,ne,ob,mA,n,r,q⟩:=(show cu P w H h a (.ins C dx fs)from aB a _ e)
 exact⟨mA,⟨ob,n,ne⟩,r,q,z,d⟩
end
structure kR(K:PySem.W.Frag)(C:Addr):Prop where
 pg:PySem.W.plainGet K C Str.empty=true
 hd:PySem.W.hasDictIn K C=true
 po:PySem.W.plainOver K C=true
 sa:PySem.W.findIn K (.ref C) "__setattr__"=some (some (.builtin "object.__setattr__"))
theorem kR.get{K:PySem.W.Frag}{C:Addr}(c:kR K C)(f:Str):PySem.W.plainGet K C f=true:=c.pg
def eW(K:PySem.W.Frag)(C:Addr)(f:Str):Prop:=PySem.W.findIn K (.ref C) f=some none
theorem eW.IX{K:PySem.W.Frag}{C:Addr}{f:Str}(n:eW K C f):PySem.W.takerIn K C f=some none:=by
 unfold PySem.W.takerIn;rw[show PySem.W.findIn K (.ref C) f=some none from n];rfl
structure Meth(K:PySem.W.Frag)(C:Addr)(m:Str)(f:Addr):Prop where
 at_:PySem.W.findIn K (.ref C) m=some (some (.ref f))
 fn:PySem.W.isFn K (.ref f)=true
 kp:PySem.W.keepIn K (.ref f)=true
section
variable {X:Cx}{pins:List (Addr×Obj)}{σ:St}{H:Hp}{s:Shared}{a C dx:Addr}{fs:List (Str×V)}{f:Str}{v:V}{A:Around}{E:Value->Shared->Prop}
theorem xX{b:Bool}{Q:Value->Shared->Prop}(I:Inv X pins σ H s)(e:H a=some (.ins C dx fs))(c:kR X.K C)(n:eW X.K C f)(l:fs.lookup f=some v)
 (h:∀u s',Inv X pins σ H s'->RelV v u->Q u s'):wpAny (model X.prog X.w) A (getAttr (.ref a) f b) Q E s:=by
 obtain⟨mA,O,r,_,_,_⟩:=l8 I.aB e;obtain⟨u,hu,ru⟩:=lK.some_of (v:=v) (o:=mA f) (by rw[<-l];exact r f);exact get_map I.d5 O (c.get f) c.hd n hu (Aa ru) (h u _ (I.tok _) ru)
theorem yk{m:Str}{g:Addr}{pl:Sem Bool}{Q:Value×List Value->Shared->Prop}(I:Inv X pins σ H s)(e:H a=some (.ins C dx fs))(c:kR X.K C)(k:Meth X.K C m g)(l:fs.lookup m=none)
 (h:Q (.ref g,[.ref a]) s):wpAny (model X.prog X.w) A (getMethod (.ref a) m pl) Q E s:=by
 obtain⟨mA,O,r,_,_,_⟩:=l8 I.aB e;have hn:mA m=none:=lK.none_of (by rw[<-l];exact r m);exact BX I.d5 O (c.get m) k.at_ k.fn hn h
theorem yt{y:V}{u:Value}{Q:Unit->Shared->Prop}(I:Inv X pins σ H s)(e:H a=some (.ins C dx fs))(c:kR X.K C)(n:eW X.K C f)(hl:fs.length<1000)(ry:RelV y u)
 (h:∀s',Inv X pins σ (upd H a (.ins C dx (fz f y fs))) s'->Q () s'):wpAny (model X.prog X.w) A (setAttr (.ref a) f u) Q E s:=by
 obtain⟨mA,O,r,wi,_,ho⟩:=l8 I.aB e;have hz:(fs.map (·.1)).length<=sizeLine:=by rw[List.length_map,sizeLine_eq];omega
 refine fR I.d5 O c.sa c.po n.IX c.hd wi hz fun h' O' sb=>h _ ?_;have hd:∃o,h'.get? dx=some o:=let⟨o,_,_,e',_⟩:=O'.ns;⟨o,e'⟩
 refine I.write (x:=a) (e:=dx) (by rw[e];exact True.intro) (.inr ho) (fun b q hb z=>(sb.2 b hb).trans z) hd ?_;refine⟨by rw[az O.ne];exact ho,?_,O.ne,O'.obj,_,O'.ns,fun g=>?_,fun g hg=>?_⟩
 . have:=pL f y fs;omega
 . show lK ((fz f y fs).lookup g) (if g=f then some u else mA g);rw[pM];by_cases q:g=f
   . rw[if_pos q,if_pos q];exact ry
   . rw[if_neg q,if_neg q];exact r g
 . by_cases q:g=f
   . rw[q];exact(oE f y fs).1
   . refine(oE f y fs).2 g (wi g fun z=>hg ?_);show(if g=f then some u else mA g)=none;rw[if_neg q];exact z
theorem Inv.made(I:Inv X pins σ H s):Inv X pins σ (upd (upd H s.heap.objs.size (.own (s.heap.objs.size+1))) (s.heap.objs.size+1) (.ins C s.heap.objs.size []))
 {s with heap:=(s.heap.push PySem.W.emptyDict).push (PySem.W.instObj C s.heap.objs.size)}:=by
 have e1:(s.heap.push PySem.W.emptyDict).get? s.heap.objs.size=some PySem.W.emptyDict:=Heap.get?_push_size s.heap rfl
 have e2:((s.heap.push PySem.W.emptyDict).push (PySem.W.instObj C s.heap.objs.size)).get? (s.heap.objs.size+1)=some (PySem.W.instObj C s.heap.objs.size):=by
  have:=Heap.get?_push_size (s.heap.push PySem.W.emptyDict) (o:=PySem.W.instObj C s.heap.objs.size) rfl;rwa [Heap.size_push]at this
 have e3:(s.heap.push PySem.W.emptyDict).Ns s.heap.objs.size (fun _=>none):=⟨PySem.W.emptyDict,#[],_,e1,rfl,(fun e he=>absurd he (by simp)),fun _=>rfl⟩
 have I1:=I.laid (a:=s.heap.objs.size) (o:= .own (s.heap.objs.size+1)) (h':=s.heap.push PySem.W.emptyDict) (t':=s.toks) (fun b u q=>Heap.get?_push_of_some _ q) (Nat.le_refl _) ⟨_,e1⟩;refine I1.laid (a:=s.heap.objs.size+1) (o:= .ins C s.heap.objs.size []) (t':=s.toks) (fun b u q=>Heap.get?_push_of_some _ q) (Nat.le_of_eq (Heap.size_push _ _)) ?_;have ne:s.heap.objs.size≠s.heap.objs.size+1:=Nat.ne_of_lt (Nat.lt_succ_self _);refine⟨by rw[az ne,aK],Nat.zero_le _,ne,e2,fun _=>none,(Heap.Ns1.of_empty e3).at fun o q=>Heap.get?_push_of_some _ q,fun _=>True.intro,fun y hy=>absurd rfl hy⟩
theorem Eg{prog:Program}{w:World}{env:Env}{e:Expr}{f:Str}{pos:Pos}{s:Shared}{Q:Value->Shared->Prop}(hb:attributeBase e f env (eval e env)=eval e env)
 (h:wpAny (model prog w) A (eval e env) (fun o s₁=>wpAny (model prog w) A (getAttr o f true) Q E s₁) E s):wpAny (model prog w) A (eval (.Attribute e f pos) env) Q E s:=
 Attribute_any_ h (by rw[arm_eval_Attribute,hb])
end
def KY(K:PySem.W.Frag)(ta:TE)(f:Str):TE:=fun σ H Q=>ta σ H fun x H1=>∃a C dx fs v,x= .ref a/\H1 a=some (.ins C dx fs)/\kR K C/\eW K C f/\fs.lookup f=some v/\Q v H1
def Lg(K:PySem.W.Frag)(ta tv:TE)(f:Str):TS:=fun D σ H=>tv σ H fun y H1=>ta σ H1 fun x H2=>∃a C dx fs,x= .ref a/\H2 a=some (.ins C dx fs)/\kR K C/\eW K C f/\fs.length<1000/\
 D.nx σ (upd H2 a (.ins C dx (fz f y fs)))
section
variable {X:Cx}{o e value:Expr}{f:Str}{pos pos' tpos:Pos}{ta tv:TE}
theorem Gb(he:PE X e ta)(hb:attributeBase e f X.env (eval e X.env)=eval e X.env):PE X (.Attribute e f pos) (KY X.K ta f):=by
 intro pins s σ H Q I h;refine Eg hb (bp (he pins s σ H _ I h) fun u s1 ⟨x,H1,I1,rx,a,C,dx,fs,v,ex,ea,c,n,l,q⟩=>?_);subst ex;obtain rfl:u=Value.ref a:=rx;exact xX I1 ea c n l fun u' s2 I2 ru=>⟨v,H1,I2,ru,q⟩
theorem GQ(ha:PE X o ta)(hv:PE X value tv)(hs:swapsWith value (some (.Attribute o f pos')) pos.line X.env=pure false):PS X (.Assign [.Attribute o f pos'] value pos) (Lg X.K ta tv f):=by
 intro pins s σ H D I h;refine plainObj_wpAny_Assign_Attribute (bp (hv pins s σ H _ I h) fun u s1 ⟨y,H1,I1,ry,q⟩=>bp (ha pins s1 σ H1 _ I1 q) fun ov s2 ⟨x,H2,I2,rx,a,C,dx,fs,ex,ea,c,n,l,q2⟩=>?_) hs;subst ex;obtain rfl:ov=Value.ref a:=rx;exact yt I2 ea c n l ry fun s3 I3=>⟨σ,_,I3,q2⟩
end
section
variable {X:Cx}{pins:List (Addr×Obj)}{σ:St}{H:Hp}{s:Shared}{A:Around}{E:Value->Shared->Prop}{Q:Value->Shared->Prop}{c:Value}{b:Bool}
inductive gR(K:PySem.W.Frag)(H:Hp):V->Value->Prop where
 |aC:gR K H .aC (.type "NoneType")
 |bl (x:Bool):gR K H (.bl x) (.type "bool")
 |int (i:Int):gR K H (.int i) (.type "int")
 |str (x:Str):gR K H (.str x) (.type "str")
 |oq (x:UInt64):gR K H (.oq x) (.type "float")
 |lst {a:Addr} {xs:List V} (e:H a=some (.lst xs)):gR K H (.ref a) (.type "list")
 |e9 {a:Addr} {o:Obj} {xs:List V} (e:H a=some (.e9 o (.lst xs))):gR K H (.ref a) (.type "list")
 |tup {a:Addr} {xs:List V} (e:H a=some (.tup xs)):gR K H (.ref a) (.type "tuple")
 |dK {a:Addr} {kvs:List (Key×V)} (e:H a=some (.dK kvs)):gR K H (.ref a) (.type "dict")
 |dT {a:Addr} {kvs:List (List Key×V)} (e:H a=some (.dT kvs)):gR K H (.ref a) (.type "dict")
 |ins {a C dx:Addr} {fs:List (Str×V)} (e:H a=some (.ins C dx fs)) (cl:kR K C) (ha:PySem.W.findIn K (.ref C) "__class__"=some (some (.builtin "object.__class__")))
   (hn:PySem.W.specialIn K (.builtin "object.__class__") "__get__"=some (some (.builtin "getset_descriptor.__get__"))) (htk:PySem.W.takesIn K (.builtin "object.__class__")=some true)
   (hm:PySem.W.mroIn K C (.type "object")=some true):gR K H (.ref a) (.ref C)
theorem AN{x:V}{u t:Value}(I:Inv X pins σ H s)(rx:RelV x u)(ty:gR X.K H x t)(e:PySem.W.kitOne X.K t c=some b)(h:∀tk,Q (.bool b) {s with toks:=tk}):
 wpAny (model X.prog X.w) A (call (.builtin "isinstance") [u,c]) Q E s:=by
 cases ty with
 |aC=>cases (show u=Value.none from rx);exact PySem.W.kia_one PySem.W.kitx_none I.d5 True.intro e (fun z=>nomatch z) h
 |bl y=>cases (show u=Value.bool y from rx);exact PySem.W.kia_one PySem.W.kitx_bool I.d5 True.intro e (fun z=>nomatch z) h
 |int i=>obtain⟨t,q⟩:=(show∃t,u=Value.int i t from rx);cases q;exact PySem.W.kia_one PySem.W.kitx_int I.d5 True.intro e (fun z=>nomatch z) h
 |str y=>obtain⟨t,q⟩:=(show∃t,u=Value.str y t from rx);cases q;exact PySem.W.kia_one PySem.W.kitx_str I.d5 True.intro e (fun z=>nomatch z) h
 |oq y=>obtain⟨t,q⟩:=(show∃t,u=Value.float y t from rx);cases q;exact PySem.W.kia_one PySem.W.kitx_float I.d5 True.intro e (fun z=>nomatch z) h
 | @lst a xs ea=>
   cases (show u=Value.ref a from rx);obtain⟨_,_,n,_,h1⟩:=(show cu X.prog X.w H s.heap a (.lst xs)from I.aB a _ ea)
   exact PySem.W.kia_one PySem.W.kitx_list I.d5 ⟨_,h1,rfl⟩ e (fun z=>nomatch z) h
 | @e9 a ob xs ea=>
   cases (show u=Value.ref a from rx);obtain⟨_,_,_,n,_,h1⟩:=(show cu X.prog X.w H s.heap a (.e9 ob (.lst xs))from I.aB a _ ea)
   exact PySem.W.kia_one PySem.W.kitx_list I.d5 ⟨_,h1,rfl⟩ e (fun z=>nomatch z) h
 | @tup a xs ea=>
   cases (show u=Value.ref a from rx);obtain⟨_,_,_,p⟩:=(show cu X.prog X.w H s.heap a (.tup xs)from I.aB a _ ea)
   obtain⟨o,h1,h2,_⟩:=p;exact PySem.W.kia_one PySem.W.kitx_tuple I.d5 ⟨o,h1,h2⟩ e (fun z=>nomatch z) h
 | @dK a kvs ea=>
   cases (show u=Value.ref a from rx);obtain⟨_,_,vs,_,p⟩:=(show cu X.prog X.w H s.heap a (.dK kvs)from I.aB a _ ea)
   obtain⟨o,es,ep,h1,h2,_⟩:=p;exact PySem.W.kia_one PySem.W.kitx_dict I.d5 ⟨o,h1,h2.1⟩ e (fun z=>nomatch z) h
 | @dT a kvs ea=>
   cases (show u=Value.ref a from rx);obtain⟨_,_,xs,_,o,es,ep,h1,h2,_⟩:=(show cu X.prog X.w H s.heap a (.dT kvs)from I.aB a _ ea)
   exact PySem.W.kia_one PySem.W.kitx_dict I.d5 ⟨o,h1,h2.1⟩ e (fun z=>nomatch z) h
 | @ins a C dx fs ea cl ha hn htk hm=>
   cases (show u=Value.ref a from rx);obtain⟨mA,O,_⟩:=l8 I.aB ea;obtain⟨od,J,_⟩:=O.look;exact PySem.W.kia_one (PySem.W.kitx_own (cl.get _) cl.hd ha hn htk hm) I.d5 J e (fun z=>nomatch z) h
end
structure bO(k:Nat)(A:Around):Prop where
 hd:A.handled=none
 dp:A.depth+3*k+105<recursionLimit
 un:A.units+16*k+200<cLine
theorem bO.mono{j k:Nat}{A:Around}(r:bO k A)(h:j<=k):bO j A:=⟨r.hd,by have:=r.dp;omega,by have:=r.un;omega⟩
theorem bO.deeper{k:Nat}{A:Around}(r:bO (k+1) A)(env:Env):bO k (A.deeper env):=
 ⟨r.hd,by have:=r.dp;show A.depth+1+3*k+105<_;omega,by have:=r.un;show A.units+3+16*k+200<_;omega⟩
theorem y8{A:Around}{C:Addr}{us:List Value}{kw:List (Str×Value)}:(A.under (.builtin "type.__call__" ⟨.ref C::us,kw⟩)).depth=A.depth+1:=by
 first|rfl|simp[Around.under,Code.weight,Code.isCreation,Code.isGuard,Code.isCaller,Code.frames,Code.isFrame,guardIds]
theorem yM{A:Around}{C:Addr}{us:List Value}{kw:List (Str×Value)}:(A.under (.builtin "type.__call__" ⟨.ref C::us,kw⟩)).units=A.units+1:=by
 first|rfl|simp[Around.under,Code.cUnits,Code.frames,Code.isFrame]
theorem bO.make{k:Nat}{A:Around}(r:bO (k+1) A)(C:Addr)(us:List Value)(kw:List (Str×Value)):bO k (A.under (.builtin "type.__call__" ⟨.ref C::us,kw⟩)):=
 ⟨r.hd,by have:=r.dp;rw[y8];omega,by have:=r.un;rw[yM];omega⟩
theorem bO.depth{k:Nat}{A:Around}(r:bO k A):A.depth<recursionLimit:=by have:=r.dp;omega
theorem bO.units{k:Nat}{A:Around}(r:bO k A):A.units+64<cLine:=by have:=r.un;omega
def sh:TA:=fun _ H Q=>Q [] H
def jh(ta:TE)(tr:TA):TA:=fun σ H Q=>ta σ H fun x H1=>tr σ H1 fun xs H2=>Q (x::xs) H2
section
variable {X:Cx}{e:Expr}{es:List Expr}{te:TE}{t:TA}{pos:Pos}
theorem md:PA X [] sh:=fun _ _ _ _ H Q I h=>Calls.spliced_nil ⟨[],H,I,.nil,h⟩
theorem fU(ha:PE X e te)(hr:PA X es t)(hs:starEach (e::es) X.env=(false,eval e X.env)::starEach es X.env:=by rfl):PA X (e::es) (jh te t):=by
 intro pos pins s σ H Q I h;rw[hs];show wpAny _ _ (spliced ((false,eval e X.env)::backTo pos (starEach es X.env))) _ _ s;refine Calls.spliced_cons (bp (ha pins s σ H _ I h) fun u s1 ⟨x,H1,I1,r1,q1⟩=>?_);exact bp (hr pos pins s1 σ H1 _ I1 q1) fun us s2 ⟨xs,H2,I2,r2,q2⟩=>⟨x::xs,H2,I2,.cons r1 r2,q2⟩
def HV(t:TA):TE:=fun σ H Q=>t σ H fun xs H1=>xs.length<=sizeLine/\∀p,H1 p=none->Q (.ref p) (upd H1 p (.tup xs))
def Lb(t:TA):TE:=fun σ H Q=>t σ H fun xs H1=>xs.length<=sizeLine/\∀p,H1 p=none->Q (.ref p) (upd H1 p (.lst xs))
theorem A3{x1}(h:PA X es t):PE X (.Tuple es x1 pos) (HV t):=by
 intro pins s σ H Q I hq;refine wpAny_Tuple_spliced (bp (h pos pins s σ H _ I hq) fun us s1 ⟨xs,H1,I1,r,z,q⟩=>⟨by rw[<-r.length];exact z,?_⟩);have hf:H1 s1.heap.objs.size=none:=I1.aB.fresh (Nat.le_refl _);refine⟨.ref s1.heap.objs.size,upd H1 s1.heap.objs.size (.tup xs),I1.laid (t':=s1.toks) (fun b u e=>Heap.get?_push_of_some _ e) (Nat.le_refl _) ?_,rfl,q _ hf⟩;exact⟨z,us,r,⟨_,Heap.get?_push_size _ rfl,rfl,_,rfl⟩⟩
theorem AL(h:PA X es t):PE X (.List es pos) (Lb t):=by
 intro pins s σ H Q I hq;refine wpAny_List_spliced (bp (h pos pins s σ H _ I hq) fun us s1 ⟨xs,H1,I1,r,z,q⟩=>⟨by rw[<-r.length];exact z,?_⟩);have hf:H1 s1.heap.objs.size=none:=I1.aB.fresh (Nat.le_refl _);refine⟨.ref s1.heap.objs.size,upd H1 s1.heap.objs.size (.lst xs),I1.laid (t':=s1.toks) (fun b u e=>Heap.get?_push_of_some _ e) (Nat.le_refl _) ?_,rfl,q _ hf⟩;exact⟨z,us,0,r,Heap.get?_push_size _ rfl⟩
end
abbrev Sp:=List V->Hp->VK->XK->Prop
abbrev lD:=List Env->Hp->Shared->XK->Value->Shared->Prop
structure qb(P:Program)(w:World)(K:PySem.W.Frag)(mg:Str->Option Value)(base:Heap)(A:Around)(outer:List Env)(s:Shared)(H:Hp):Prop where
 frames:A.frames=some outer
 mod:Mod K mg base
 bs:∀b o,base.get? b=some o->s.heap.get? b=some o/\H b=none
 nq:base.objs.size<=s.heap.objs.size
 gX:s.heap.FunFrames base outer
 oo:∀b∈fF outer,H b=none
 aB:eA P w H s.heap
 bare:AllBare s.gens
 gt:P.given.tree=none
def CE(outer:List Env)(P:Program)(w:World)(H:Hp)(s:Shared)(Q:VK)(u:Value)(s':Shared):Prop:=
 ∃v H',s'.os=s.os/\AllBare s'.gens/\Un (fF outer) [] H H' s.heap s'.heap/\eA P w H' s'.heap/\RelV v u/\Q v H'
def CR(CX:lD)(outer:List Env)(P:Program)(w:World)(H:Hp)(s:Shared)(Q:VK)(E:XK)(r:Result)(s':Shared):Prop:=
 match r with
 | .ok (.ret u)=>CE outer P w H s Q u s'
 | .ok _=>False
 | .error e=>CX outer H s E e s'
structure bf(P:Program)(w:World)(K:PySem.W.Frag)(mg:Str->Option Value)(base:Heap)(CX:lD)(k:Nat)(f:Addr)(fd:FuncData)(ps:List Str)(sp:Sp):Prop where
 len:∀vs H Q E,sp vs H Q E->vs.length=ps.length
 run:∀(A:Around) (outer:List Env) (s:Shared) (H:Hp) (args:Args) (us:List Value) (vs:List V) (Q:VK) (E:XK),bO k A->qb P w K mg base A outer s H->BindsTo s fd args (ps.zip us)->Vals vs us->sp vs H Q E->
  codeAny (model P w) A (.call (.ref f) args) (CR CX outer P w H s Q E) s
theorem bf.imp{P:Program}{w:World}{K:PySem.W.Frag}{mg:Str->Option Value}{base:Heap}{CX:lD}{k:Nat}{f:Addr}{fd:FuncData}{ps:List Str}{sp sp':Sp}(F:bf P w K mg base CX k f fd ps sp)
 (h:∀vs H Q E,sp' vs H Q E->sp vs H Q E):bf P w K mg base CX k f fd ps sp':=
 ⟨fun vs H Q E q=>F.len vs H Q E (h _ _ _ _ q),fun A outer s H args us vs Q E hr he hb hv hs=>F.run A outer s H args us vs Q E hr he hb hv (h _ _ _ _ hs)⟩
theorem qb.make{P:Program}{w:World}{K:PySem.W.Frag}{mg:Str->Option Value}{base:Heap}{A:Around}{outer:List Env}{s:Shared}{H:Hp}(e:qb P w K mg base A outer s H)(C:Addr)(us:List Value)(kw:List (Str×Value)):
 qb P w K mg base (A.under (.builtin "type.__call__" ⟨.ref C::us,kw⟩)) outer s H:=⟨by first|exact e.frames|(simpa[Around.under,Code.envs,Code.isFrame,pushEnvs]using e.frames),e.mod,e.bs,e.nq,e.gX,e.oo,e.aB,e.bare,e.gt⟩
section
variable {X:Cx}{pins:List (Addr×Obj)}{σ:St}{H:Hp}{s s':Shared}
theorem Inv.Cd(I:Inv X pins σ H s):qb X.prog X.w X.K X.mg X.base X.A X.stack s H:=
 ⟨I.ok.frames,I.ok.mod,I.bs,Nat.le_trans I.ok.nq I.sz,I.stack,I.mx,I.aB,I.bare,I.ok.gt⟩
theorem Inv.after{Q:VK}{u:Value}(I:Inv X pins σ H s)(h:CE X.stack X.prog X.w H s Q u s'):EP X pins σ Q u s':=by
 obtain⟨v,H',os,bare,un,aB,r,q⟩:=h;obtain⟨hh,g,d,t,os'⟩:=s';obtain rfl:os'=s.os:=os;exact⟨v,H',I.call (h':=hh) (g':=g) (d':=d) (t':=t) (ch:=[]) un aB bare (fun b z=>absurd z (by simp)),r,q⟩
end
def uz(sp:Sp)(dvs:List V)(E:XK)(t:TA):TE:=fun σ H Q=>t σ H fun vs H1=>sp (vs++dvs) H1 Q E
def CJ(C:Addr)(m:Str)(sp:Sp)(dvs:List V)(E:XK)(ta:TE)(t:TA):TE:=fun σ H Q=>ta σ H fun x H1=>∃a dx fs,x= .ref a/\H1 a=some (.ins C dx fs)/\fs.lookup m=none/\
 t σ H1 fun vs H2=>sp (x::(vs++dvs)) H2 Q E
def Dm(C:Addr)(sp:Sp)(dvs:List V)(E:XK)(t:TA):TE:=fun σ H Q=>t σ H fun vs H1=>∀x dx,H1 x=none->H1 dx=none->dx≠x->
 sp (.ref x::(vs++dvs)) (upd (upd H1 dx (.own x)) x (.ins C dx [])) (fun v H2=>v= .aC/\Q (.ref x) H2) E
def Binds(K:PySem.W.Frag)(fd:FuncData)(ps:List Str)(ds:List Value):Prop:=
 ∀(s:Shared) (us:List Value),K.In s.heap->(us++ds).length=ps.length->BindsTo s fd ⟨us,[]⟩ (ps.zip (us++ds))
theorem Binds.all{K:PySem.W.Frag}{fd:FuncData}{ps:List Str}(h:∀us:List Value,us.length=ps.length->bindArgs fd ⟨us,[]⟩=pure (ps.zip us)):Binds K fd ps []:=fun s us _ hl=>by
 rw[List.append_nil]at hl⊢;exact .of_eq (h us hl)
def Passes(CX:lD)(X:Cx)(E:XK):Prop:=∀(pins:List (Addr×Obj)) (σ:St) (H:Hp) (s:Shared) (e:Value) (s':Shared),Inv X pins σ H s->CX X.stack H s E e s'->X.xe e s'
section
variable {X:Cx}{CX:lD}{k:Nat}{f C:Addr}{fd:FuncData}{ps:List Str}{sp:Sp}{dvs:List V}{ds:List Value}{E:XK}{x m:Str}{p pos apos:Pos}{e o:Expr}{es:List Expr}{ta:TE}{t:TA}
theorem AY{pins:List (Addr×Obj)}{σ:St}{H:Hp}{s:Shared}{Q:VK}{us:List Value}{vs:List V}(F:bf X.prog X.w X.K X.mg X.base CX k f fd ps sp)(hr:bO k X.A)(hb:Binds X.K fd ps ds)(hd:Vals dvs ds)(hx:Passes CX X E)
 (I:Inv X pins σ H s) (r:Vals vs us) (h:sp (vs++dvs) H Q E):wpAny (model X.prog X.w) X.A (call (.ref f) us) (EP X pins σ Q) X.xe s:=by
 have r2:Vals (vs++dvs) (us++ds):=r.append hd;have hl:(us++ds).length=ps.length:=by rw[<-r2.length];exact F.len _ _ _ _ h
 refine wpAny_call (codeAny_mono (F.run X.A X.stack s H ⟨us,[]⟩ (us++ds) (vs++dvs) Q E hr I.Cd (hb s us I.d5 hl) r2 h) fun r s' hq=>?_);cases r with
 |error e=>exact hx pins σ H s e s' I hq
 |ok fl=>
  cases fl with
  |ret u=>exact I.after hq
  |next=>exact False.elim hq
  |brk=>exact False.elim hq
  |cont=>exact False.elim hq
theorem EY(F:bf X.prog X.w X.K X.mg X.base CX k f fd ps sp)(hr:bO k X.A)(hg:Gl X x)(hm:X.mg x=some (.ref f))(hk:PySem.W.keepIn X.K (.ref f)=true)(hb:Binds X.K fd ps ds)(hd:Vals dvs ds)(hx:Passes CX X E)
 (ha:PA X (e::es) t) (hdb:(x==("__debug__":Str))=false:=by decide) (he:starEach (e::es) X.env=(false,eval e X.env)::starEach es X.env:=by rfl) (hpl:(backTo pos (starEach es X.env)).any (·.1)=false:=by rfl):
 PE X (.Call (.Name x p) (e::es) [] pos) (uz sp dvs E t):=by
 intro pins s σ H Q I h;refine wpAny_Call_Name_kw (kj I hg hm ?_ hdb);refine PySem.W.callWith_K (h₀:=X.base) I.ok.mod.uS hk (bp (ha pos pins s σ H _ I h) fun us s1 ⟨vs,H1,I1,r,q⟩=>⟨I1.d5,?_⟩) he hpl;exact AY F hr hb hd hx I1 r q
theorem Ff{pl:Sem Bool}(he:PE X o ta)(c:kR X.K C)(hm:Meth X.K C m f)(F:bf X.prog X.w X.K X.mg X.base CX k f fd ps sp)(hr:bO k X.A)(hb:Binds X.K fd ps ds)(hd:Vals dvs ds)(hx:Passes CX X E)(ha:PA X (e::es) t)
 (hst:starEach (e::es) X.env=(false,eval e X.env)::starEach es X.env:=by rfl) (hpl:(backTo pos (starEach es X.env)).any (·.1)=false:=by rfl)
 (ht:eval (.Call (.Attribute o m apos) (e::es) [] pos) X.env=(do
   let ov <-eval o X.env
   standAt apos.atName
   let(f,first) <-holding [ov] (getMethod ov m pl)
   callWith pos f first (backTo pos (starEach (e::es) X.env)) (backToKw pos (keywordEach [] X.env))):=by rfl):
 PE X (.Call (.Attribute o m apos) (e::es) [] pos) (CJ C m sp dvs E ta t):=by
 intro pins s σ H Q I h;refine PySem.W.methodCall_KW (pl:=pl) (bp (he pins s σ H _ I h) fun u s1 ⟨x,H1,I1,rx,a,dx,fs,ex,ea,l,q⟩=>?_) ht;subst ex;obtain rfl:u=Value.ref a:=rx;refine yk I1 ea c hm l ?_;refine PySem.W.callWith_K (first:=[.ref a]) (h₀:=X.base) I.ok.mod.uS hm.kp (bp (ha pos pins s1 σ H1 _ I1 q) fun us s2 ⟨vs,H2,I2,r,q2⟩=>⟨I2.d5,?_⟩) hst hpl;exact AY (us:= .ref a::us) (vs:= .ref a::vs) F hr hb hd hx I2 (.cons rfl r) q2
structure Mk(K:PySem.W.Frag)(C f:Addr):Prop where
 makes:PySem.W.makesIn K C=true
 init:PySem.W.findIn K (.ref C) "__init__"=some (some (.ref f))
 fn:PySem.W.isFn K (.ref f)=true
 kp:PySem.W.keepIn K (.ref C)=true
theorem BJ{pins:List (Addr×Obj)}{σ:St}{H:Hp}{s:Shared}{Q:VK}{us:List Value}{vs:List V}(M:Mk X.K C f)(F:bf X.prog X.w X.K X.mg X.base CX k f fd ps sp)(hr:bO (k+1) X.A)(hb:Binds X.K fd ps ds)(hd:Vals dvs ds)
 (hx:Passes CX X E) (I:Inv X pins σ H s) (r:Vals vs us)
 (h:∀x dx,H x=none->H dx=none->dx≠x->sp (.ref x::(vs++dvs)) (upd (upd H dx (.own x)) x (.ins C dx [])) (fun v H2=>v= .aC/\Q (.ref x) H2) E):
 wpAny (model X.prog X.w) X.A (call (.ref C) us) (EP X pins σ Q) X.xe s:=by
 have hq:=h (s.heap.objs.size+1) s.heap.objs.size (I.aB.fresh (Nat.le_succ _)) (I.aB.fresh (Nat.le_refl _)) (Nat.ne_of_lt (Nat.lt_succ_self _));have I2:=Inv.made (C:=C) I;have r2:Vals (V.ref (s.heap.objs.size+1)::(vs++dvs)) (Value.ref (s.heap.objs.size+1)::(us++ds)):= .cons rfl (r.append hd)
 have hl:(Value.ref (s.heap.objs.size+1)::us++ds).length=ps.length:=by
  have e:=r2.length;rw[F.len _ _ _ _ hq]at e;exact e.symm
 refine wpAny_call (BM (f:=f) I.d5 M.makes M.init (beq_iff_eq.mp M.fn) (codeAny_mono (F.run _ X.stack _ _ ⟨Value.ref (s.heap.objs.size+1)::us,[]⟩ (Value.ref (s.heap.objs.size+1)::(us++ds)) _ _ E (hr.make C us [])
  (I2.Cd.make C us []) (hb _ (Value.ref (s.heap.objs.size+1)::us) I2.d5 hl) r2 hq) fun r s' hq'=>?_))
 cases r with
 |error e=>exact hx pins σ _ _ e s' I2 hq'
 |ok fl=>
  cases fl with
  |ret u=>
   obtain⟨v,H',I3,rv,ev,q3⟩:=I2.after hq';subst ev;exact⟨rv,⟨V.ref (s.heap.objs.size+1),H',I3,rfl,q3⟩⟩
  |next=>exact False.elim hq'
  |brk=>exact False.elim hq'
  |cont=>exact False.elim hq'
theorem En(M:Mk X.K C f)(F:bf X.prog X.w X.K X.mg X.base CX k f fd ps sp)(hr:bO (k+1) X.A)(hg:Gl X x)(hm:X.mg x=some (.ref C))(hb:Binds X.K fd ps ds)(hd:Vals dvs ds)(hx:Passes CX X E)
 (ha:PA X (e::es) t) (hdb:(x==("__debug__":Str))=false:=by decide) (he:starEach (e::es) X.env=(false,eval e X.env)::starEach es X.env:=by rfl) (hpl:(backTo pos (starEach es X.env)).any (·.1)=false:=by rfl):
 PE X (.Call (.Name x p) (e::es) [] pos) (Dm C sp dvs E t):=by
 intro pins s σ H Q I h;refine wpAny_Call_Name_kw (kj I hg hm ?_ hdb);refine PySem.W.callWith_K (h₀:=X.base) I.ok.mod.uS M.kp (bp (ha pos pins s σ H _ I h) fun us s1 ⟨vs,H1,I1,r,q⟩=>⟨I1.d5,?_⟩) he hpl;exact BJ M F hr hb hd hx I1 r q
end
section
variable {X:Cx}{CX:lD}{k:Nat}{f C:Addr}{fd:FuncData}{ps ks:List Str}{sp:Sp}{E:XK}{x m:Str}{p pos apos kpos:Pos}{e o:Expr}{es:List Expr}{kws:List Keyword}{te ta:TE}{t tk:TA}{nm:Option Str}
variable {g:List Value->List Value->List Value}{gV:List V->List V->List V}
end
structure aY(N P:List Str)(sc:Scope):Prop where
 kind:sc.kind= .function
 co:sc.isCoroutine=false
 gen:sc.isGenerator=false
 nd:N.Nodup
 pre:N.take P.length=P
 par:∀x∈P,sc.names.lookup x=some .local\/sc.names.lookup x=some .cell
 Fx:∀y∈sc.names,y.2≠ .free
theorem tX{kindOf:Str->Option NameKind}{x:Str}:∀ {binds:List (Str×Value)} {m:Str->Option Value},(∀v,(x,v)∉binds)->bindL kindOf binds m x=m x
 | [],_,_=>rfl
 |(n,v)::r,m,h=>by
  unfold bindL;rw[tX fun w hw=>h w (List.mem_cons_of_mem _ hw)];split
  . have:x≠n:=by rintro rfl;exact h v List.mem_cons_self
    simp[this]
  . rfl
theorem tO{kindOf:Str->Option NameKind}{x:Str}:∀ {binds:List (Str×Value)} {m:Str->Option Value},(∀v,(x,v)∉binds)->bindC kindOf binds m x=m x
 | [],_,_=>rfl
 |(n,v)::r,m,h=>by
  unfold bindC;rw[tO fun w hw=>h w (List.mem_cons_of_mem _ hw)];split
  . rfl
  . have:x≠n:=by rintro rfl;exact h v List.mem_cons_self
    simp[this]
theorem tQ{kindOf:Str->Option NameKind}{x:Str}{v:Value}:∀ {P:List Str} {vs:List Value} {i:Nat} {m:Str->Option Value},P.Nodup->P[i]?=some x->vs[i]?=some v->kindOf x=some .local->
 bindL kindOf (P.zip vs) m x=some v
 | [],_,_,_,_,h,_,_=>by simp at h
 |_::_,[],_,_,_,_,h,_=>by simp at h
 |p::P,w::vs,0,m,nd,h1,h2,hk=>by
  simp at h1 h2;subst h1;subst h2;show bindL kindOf ((p,w)::P.zip vs) m p=_;unfold bindL;rw[tX fun v hv=>(List.nodup_cons.mp nd).1 (List.of_mem_zip hv).1,if_pos hk];simp
 |p::P,w::vs,i+1,m,nd,h1,h2,hk=>by
  show bindL kindOf ((p,w)::P.zip vs) m x=_;unfold bindL;exact tQ (i:=i) (List.nodup_cons.mp nd).2 (by simpa using h1) (by simpa using h2) hk
theorem tE{kindOf:Str->Option NameKind}{x:Str}{v:Value}:∀ {P:List Str} {vs:List Value} {i:Nat} {m:Str->Option Value},P.Nodup->P[i]?=some x->vs[i]?=some v->kindOf x≠some .local->
 bindC kindOf (P.zip vs) m x=some v
 | [],_,_,_,_,h,_,_=>by simp at h
 |_::_,[],_,_,_,_,h,_=>by simp at h
 |p::P,w::vs,0,m,nd,h1,h2,hk=>by
  simp at h1 h2;subst h1;subst h2;show bindC kindOf ((p,w)::P.zip vs) m p=_;unfold bindC;rw[tO fun v hv=>(List.nodup_cons.mp nd).1 (List.of_mem_zip hv).1,if_neg hk];simp
 |p::P,w::vs,i+1,m,nd,h1,h2,hk=>by
  show bindC kindOf ((p,w)::P.zip vs) m x=_;unfold bindC;exact tE (i:=i) (List.nodup_cons.mp nd).2 (by simpa using h1) (by simpa using h2) hk
def start(N:List Str)(vs:List V):St:=vs.map some++List.replicate (N.length-vs.length) none
def eE(CX:lD)(P:Program)(w:World)(K:PySem.W.Frag)(mg:Str->Option Value)(base:Heap)(N:List Str)(qual:Str)(scope:Scope)(f:Addr)(cd:Value)(A:Around)(outer:List Env)(s:Shared)(H:Hp)(E:XK):Cx where
 prog:=P
 w:=w
 K:=K
 mg:=mg
 base:=base
 A:=A.deeper (envOfC qual scope s.heap.objs.size f cd)
 N:=N
 s₀:=s
 H₀:=H
 env:=envOfC qual scope s.heap.objs.size f cd
 outer:=outer
 stack:=envOfC qual scope s.heap.objs.size f cd::outer
 ex:=[]
 calm:=true
 fn:=fun _=>true
 pn:=[]
 xe:=fun e s'=>wpAny (model P w) (A.deeper (envOfC qual scope s.heap.objs.size f cd)) (leaving (envOfC qual scope s.heap.objs.size f cd) e) (fun _ s''=>CX outer H s E e s'') (fun e' s''=>CX outer H s E e' s'') s'
theorem we{sc:Scope}{n:Nat}{x:Str}(h:sc.names.lookup x=some .cell):∃c,(cellsFrom n sc.names []).lookup x=some c:=by
 have q:=PySem.W.cellsFrom_some sc.names n [] (.inl h);exact Option.isSome_iff_exists.mp q
theorem Ak{CX:lD}{P:Program}{w:World}{K:PySem.W.Frag}{mg:Str->Option Value}{base:Heap}{N ps:List Str}{qual:Str}{scope:Scope}{f:Addr}{cd:Value}{A:Around}{outer:List Env}{s s1:Shared}{H:Hp}{E:XK}{us:List Value}{vs:List V}
 (S:aY N ps scope) (hd:A.handled=none) (e0:qb P w K mg base A outer s H) (hl:vs.length=ps.length) (r:Vals vs us)
 (x:InCallC s s.heap.objs.size (bindL (envOfC qual scope s.heap.objs.size f cd).kindOf (ps.zip us) fun _=>none) (cellsFrom (s.heap.objs.size+1) scope.names []) (bindC (envOfC qual scope s.heap.objs.size f cd).kindOf (ps.zip us) fun _=>none) s1):
 Inv (eE CX P w K mg base N qual scope f cd A outer s H E) [] (start N vs) H s1:=by
 have hpl:ps.length<=N.length:=by have:=congrArg List.length S.pre;rw[List.length_take]at this;omega
 obtain⟨h1,tk,rfl,hk⟩:=x.done;have noA:∀b:Addr,b∉(eE CX P w K mg base N qual scope f cd A outer s H E).ex:=fun b z=>absurd (show b∈([]:List Addr)from z) (by simp)
 refine⟨⟨e0.mod,S.kind,rfl,rfl,Nat.le_refl _,fun y z c h1 h2=>?_,fun y hy=>?_,fun y c _ h=>?_,fun _=>hd,Around.frames_deeper e0.frames,.inr ⟨rfl,rfl⟩,fun b z=>absurd z (noA b),e0.bs,e0.nq,fun b _ _=>noA b,fun b z=>absurd z (noA b),e0.gX,e0.oo,e0.gt⟩,
  rfl,e0.bare,Un.kept hk,⟨_,x.toInCall.ns,fun i y v h1 h2 h3=>?_⟩,fun y c h=>⟨_,x.cell y c h⟩,e0.aB.fresh (Nat.le_refl _),fun y c h=>?_,fun p hp=>absurd (show p∈([]:List (Addr×Obj))from hp) (by simp),e0.aB.kept hk,?_⟩
 . exact name_of_addr x.apart (PySem.mem_of_lookup h1) (PySem.mem_of_lookup h2)
 . have hy:scope.names.lookup y=some .cell\/scope.names.lookup y=some .free:=hy;rcases hy with hy|hy
   . exact we hy
   . exact absurd rfl (S.Fx _ (PySem.mem_of_lookup hy))
 . exact Nat.le_of_lt (x.above y c (PySem.mem_of_lookup h))
 . have hi:i<vs.length:=by
    unfold start at h2;by_cases hi:i<vs.length
    . exact hi
    . rw[List.getElem?_append_right (by simpa using hi)]at h2;rw[List.getElem?_replicate]at h2;split at h2<;>cases h2
   have ha:vs[i]?=some v:=by
    unfold start at h2;rw[List.getElem?_append_left (by simpa using hi),List.getElem?_map]at h2;cases e:vs[i]? with
    |none=>rw[e]at h2;cases h2
    |some a=>rw[e]at h2;cases h2;rfl
   obtain⟨u,hu,rv⟩:=r.get ha
   have hp:ps[i]?=some y:=by
    rw[<-S.pre,List.getElem?_take_of_lt (by omega)];exact h1
   have ndP:ps.Nodup:=by rw[<-S.pre];exact S.nd.sublist (List.take_sublist _ _)
   refine⟨u,rv,?_⟩;rcases S.par y (List.mem_of_getElem? hp)with k|k
   . exact .inl ⟨k,tQ ndP hp hu k⟩
   . obtain⟨c,e⟩:=we (n:=s.heap.objs.size+1) k;refine .inr ⟨.inl k,c,e,?_⟩;have q:=x.cell y c e;rw[tE ndP hp hu (by show scope.names.lookup y≠_;rw[k];decide)]at q;exact q
 . exact e0.aB.fresh (Nat.le_of_lt (x.above y c (PySem.mem_of_lookup h)))
 . unfold start;show _=N.length;rw[List.length_append,List.length_map,List.length_replicate];omega
theorem zm{CX:lD}{P:Program}{w:World}{K:PySem.W.Frag}{mg:Str->Option Value}{base:Heap}{k:Nat}{f:Addr}{name qual:Str}{params:Arguments}{body:List Stmt}{scope:Scope}{dV kV doc pm cdv ct oc:Value}{an od:Option Addr}
 {osl:Array (Option Value)} {N ps:List Str} {sp:Sp} (lk:K.lookup f=some ⟨oc,od,.func (PySem.W.fnOf name qual params body scope dV kV doc pm an cdv ct),osl⟩) (hcd:PySem.W.codeIn K cdv qual=true) (S:aY N ps scope)
 (len:∀vs H Q E,sp vs H Q E->vs.length=ps.length)
 (hbody:∀(A:Around) (outer:List Env) (s:Shared) (H:Hp) (vs:List V) (Q:VK) (E:XK),bO k (A.deeper (envOfC qual scope s.heap.objs.size f cdv))->sp vs H Q E->
   ∃t,c9 (eE CX P w K mg base N qual scope f cdv A outer s H E) body t/\t {nx:=fun _ H'=>Q .aC H',rt:=Q} (start N vs) H):
 bf P w K mg base CX (k+1) f (PySem.W.fnOf name qual params body scope dV kV doc pm an cdv ct) ps sp:=by
 refine⟨len,fun A outer s H args us vs Q E hr e0 hb r hsp=>?_⟩;have hl:=len _ _ _ _ hsp;have KX:K.In s.heap:=e0.mod.uS.keeps fun b o e=>(e0.bs b o e).1;have lim:s.heap.NoLimit:=e0.mod.nolimit.keeps fun b o e=>(e0.bs b o e).1
 have hkind:∀y∈ps.zip us,scope.names.lookup y.1=some .local\/(scope.names.lookup y.1=some .cell/\((cellsFrom (s.heap.objs.size+1) scope.names []).lookup y.1).isSome=true):=fun⟨n,v⟩ hy=>by
  rcases S.par n (List.of_mem_zip hy).1 with q|q
  . exact .inl q
  . exact .inr ⟨q,PySem.W.cellsFrom_some _ _ _ (.inl q)⟩
 refine codeAny_call_function hr.depth (KX _ _ lk) rfl S.co S.gen rfl (PySem.W.codeRec_of KX hcd) (hb _ _ _ _ ?_);refine wpAny_newFunctionEnv_cells S.kind hkind fun env he s1 x=>?_;subst he;refine⟨lim.keeps x.toInCall.keep,codeAny_func ?_⟩;obtain⟨t,ht,hq⟩:=hbody A outer s H vs Q E (hr.deeper _) hsp;have I:Inv (eE CX P w K mg base N qual scope f cdv A outer s H E) [] (start N vs) H s1:=Ak S hr.hd e0 hl r x;refine wpAny_mono (ht [] s1 (start N vs) H _ I hq) (fun fl s' hs=>?_) fun e s' hs=>hs
 have fin:∀ {σ':St} {H':Hp} {v:V} {u:Value},Inv (eE CX P w K mg base N qual scope f cdv A outer s H E) [] σ' H' s'->RelV v u->Q v H'->CE outer P w H s Q u s':=
  fun{σ' H' v u} J rv q=>⟨v,H',J.os,J.bare,J.base,J.aB,rv,q⟩
 cases fl with
 |ret u=>
  obtain⟨v,σ',H',J,rv,q⟩:=hs;exact fin J rv q
 |next=>
  obtain⟨σ',H',J,q⟩:=hs;exact fin (v:=V.aC) (u:=Value.none) J rfl q
 |brk=>
  obtain⟨_,_,_,q⟩:=hs;exact False.elim q
 |cont=>
  obtain⟨_,_,_,q⟩:=hs;exact False.elim q
section
variable {X:Cx}{x:Str}{p pos:Pos}{e:Expr}{es:List Expr}{t:TA}{id T:String}{r:List V->Hp->VK->Prop}
def xv(r:List V->Hp->VK->Prop)(t:TA):TE:=fun σ H Q=>t σ H fun vs H1=>r vs H1 Q
theorem m_(hc:bc X (.builtin id) r)(hg:Gl X x)(hm:X.mg x=none)(hv:bootBuiltins x=some (.builtin id))(ha:PA X (e::es) t)(hn:x≠"__name__":=by decide)(hdb:(x==("__debug__":Str))=false:=by decide)
 (he:starEach (e::es) X.env=(false,eval e X.env)::starEach es X.env:=by rfl) (hpl:(backTo pos (starEach es X.env)).any (·.1)=false:=by rfl):PE X (.Call (.Name x p) (e::es) [] pos) (xv r t):=by
 intro pins s σ H Q I h;refine wpAny_Call_Name_kw (jH I hg hm hv ?_ hn hdb);exact PyProof.Rows.callWith_builtin1 (bp (ha pos pins s σ H _ I h) fun us s1 ⟨vs,H1,I1,r1,q1⟩=>hc pins s1 σ H1 vs us Q I1 r1 q1) he hpl
theorem zS(hc:bc X (.type T) r)(hg:Gl X x)(hm:X.mg x=none)(hv:bootBuiltins x=some (.type T))(ha:PA X (e::es) t)(hn:x≠"__name__":=by decide)(hdb:(x==("__debug__":Str))=false:=by decide)
 (he:starEach (e::es) X.env=(false,eval e X.env)::starEach es X.env:=by rfl) (hpl:(backTo pos (starEach es X.env)).any (·.1)=false:=by rfl):PE X (.Call (.Name x p) (e::es) [] pos) (xv r t):=by
 intro pins s σ H Q I h;refine wpAny_Call_Name_kw (jH I hg hm hv ?_ hn hdb);exact PyProof.Rows.callWith_type1 (bp (ha pos pins s σ H _ I h) fun us s1 ⟨vs,H1,I1,r1,q1⟩=>hc pins s1 σ H1 vs us Q I1 r1 q1) he hpl
end
end L2
namespace HT
open PySem PyProof.Rows
section
open PySem.SeqAt
open PySem.AutoSeq1 (wpAny_loadPart')
open PySem.MeetsSeq PySem.MeetsSeq2 PySem.MeetsSeq3
end
section
variable {prog:Program}{w:World}{A:Around}{E:Value->Shared->Prop}{s:Shared}
theorem D6{t b:Addr}{vs ws:List Value}{Q:Value->Shared->Prop}(ht:IsTup s.heap t vs.toArray)(hb:IsTup s.heap b ws.toArray)(hv:vs≠ [])
 (h1:ws=[]->Q (.ref t) s) (h2:ws≠ []->Q (.ref s.heap.objs.size) {s with heap:=s.heap.push {cls:= .type "tuple",data:= .seq (vs++ws).toArray}})
 (hsz:vs.length+ws.length<=sizeLine):wpAny (model prog w) A (binaryOp .Add (.ref t) (.ref b)) Q E s:=by
 obtain⟨⟨cls,dd,data,sl⟩,ho,hc,n,hd⟩:=id ht;obtain⟨⟨cls2,dd2,data2,sl2⟩,ho2,hc2,n2,hd2⟩:=id hb;simp only at hc hd hc2 hd2;subst hc hd hc2 hd2;have e:vs.toArray++ws.toArray=(vs++ws).toArray:=by simp
 by_cases hw:ws=[]
 . exact concat_meets ⟨_,ho,rfl⟩ ⟨_,ho2,rfl⟩ noFill_tuple_add seq_tuple_add PySem.F.slot_tuple_add PySem.F.entry_tuple_add (PySem.F.args_tuple_add_2 _ _)
    (tuple_addW1 t b vs.toArray ws.toArray n n2 dd dd2 sl sl2 (by simpa using hv) (by simp[hw])) ⟨ho,ho2,h1 hw⟩
 . refine concat_meets ⟨_,ho,rfl⟩ ⟨_,ho2,rfl⟩ noFill_tuple_add seq_tuple_add PySem.F.slot_tuple_add PySem.F.entry_tuple_add (PySem.F.args_tuple_add_2 _ _)
    (tuple_addW2 t b vs.toArray ws.toArray n n2 dd dd2 sl sl2 (by simpa using hv) (by simpa using hw) (by rw[List.size_toArray,List.size_toArray];exact hsz)) ⟨ho,ho2,?_⟩
   rw[e];exact h2 hw
def bz(n d:Nat):Option Int->Nat
 |none=>d
 |some v=>if v<0 then(v+(n:Int)).toNat else min v.toNat n
theorem BW(n d:Nat):bz n d none=d:=rfl
theorem Fc(n d k:Nat):bz n d (some (k:Int))=min k n:=by
 show(if(k:Int)<0 then((k:Int)+(n:Int)).toNat else min (k:Int).toNat n)=min k n;rw[if_neg (by omega),Int.toNat_natCast]
theorem FI(n d:Nat)(hd:d<=n)(o:Option Int):bz n d o<=n:=by
 cases o with
 |none=>exact hd
 |some v=>
  show(if v<0 then(v+(n:Int)).toNat else min v.toNat n)<=n;by_cases hv:v<0
  . rw[if_pos hv];omega
  . rw[if_neg hv];exact Nat.min_le_right _ _
theorem xa(v:Int)(n d:Nat):(if v<0 then max (v+(n:Int)) 0 else min v (n:Int))=((bz n d (some v):Nat):Int):=by
 show(if v<0 then max (v+(n:Int)) 0 else min v (n:Int))=(((if v<0 then(v+(n:Int)).toNat else min v.toNat n):Nat):Int)
 by_cases hv:v<0
 . simp only[if_pos hv];omega
 . simp only[if_neg hv];omega
theorem x5(lo hi:Option Int)(n:Nat):Builtin.Slice.sliceAdjust lo hi 1 (n:Int)=(((bz n 0 lo:Nat):Int),((bz n n hi:Nat):Int)):=by
 have h1:¬((1:Int)<0):=by omega
 unfold Builtin.Slice.sliceAdjust;simp only[h1,if_false];refine Prod.ext ?_ ?_
 . cases lo with
   |none=>rfl
   |some v=>exact xa v n 0
 . cases hi with
   |none=>rfl
   |some v=>exact xa v n n
theorem yg(i j:Nat):Builtin.Slice.slicePlaces (i:Int) (j:Int) 1=j-i:=by
 unfold Builtin.Slice.slicePlaces;have h1:(1:Int)>0:=by omega
 simp only[h1,if_true,Int.ediv_one];split<;>omega
theorem qP{v:Value}{o:Option Int}{Q:Option Int->Shared->Prop}(p:IsPart v o)(h:Q o s):wpAny (model prog w) A (Builtin.Slice.slicePartIndex v) Q E s:=by
 cases p with
 |none=>exact slicePart_none h
 |int i t=>exact slicePart_int h
theorem ku{sl:Addr}{vl vu:Value}{lo hi:Option Int}{n:Nat}{Q:Int×Int×Nat->Shared->Prop}(hs:s.heap.IsSliceOf sl vl vu .none)(pl:IsPart vl lo)(pu:IsPart vu hi)
 (h:Q (((bz n 0 lo:Nat):Int),1,bz n n hi-bz n 0 lo) s):wpAny (model prog w) A (Builtin.Slice.sliceApplied (.ref sl) (pure (n:Int))) Q E s:=by
 obtain⟨os,hos,hcs,hds⟩:=id hs;unfold Builtin.Slice.sliceApplied Builtin.Slice.sliceFields;refine wpAny_bind (wpAny_bind (wpAny_field hos hds (x:=vl) rfl (wpAny_bind (wpAny_field hos hds (x:=vu) rfl (wpAny_bind (wpAny_field hos hds (x:= .none) rfl (wpAny_pure ?_)))))));refine wpAny_bind (slicePart_none ?_);show wpAny _ _ (if((1:Int)==0)=true then _ else _) _ _ s;rw[if_neg (by decide)];refine wpAny_bind (qP pl (wpAny_bind (qP pu (wpAny_bind (wpAny_pure ?_)))));show wpAny _ _ (match Builtin.Slice.sliceAdjust lo hi 1 (n:Int)with|(lo,hi)=>pure (lo,(1:Int),Builtin.Slice.slicePlaces lo hi 1)) _ _ s;rw[x5 lo hi n];show wpAny _ _ (pure (((bz n 0 lo:Nat):Int),(1:Int),Builtin.Slice.slicePlaces ((bz n 0 lo:Nat):Int) ((bz n n hi:Nat):Int) 1)) _ _ s;rw[yg];exact wpAny_pure h
theorem BL(xs:Array Value)(i k:Nat):((List.range k).filterMap fun(m:Nat)=>xs[((i:Int)+(m:Int)*1).toNat]?).toArray=((xs.toList.drop i).take k).toArray:=by
 have e:(fun(m:Nat)=>xs[((i:Int)+(m:Int)*1).toNat]?)=fun m=>xs[i+m]?:=by
  funext m;have:((i:Int)+(m:Int)*1).toNat=i+m:=by omega
  rw[this]
 rw[e];have:=pick_run xs i k;rw[List.filterMap_map]at this;have e2:((fun x=>xs[x]?)∘fun x=>i+x)=fun m=>xs[i+m]?:=rfl;rw[e2]at this;rw[this]
theorem pB{t sl:Addr}{items:Array Value}{vl vu:Value}{lo hi:Option Int}{Q:Value->Shared->Prop}(ht:IsTup s.heap t items)(hs:s.heap.IsSliceOf sl vl vu .none)(pl:IsPart vl lo)(pu:IsPart vu hi)
 (hw:¬(bz items.size 0 lo=0/\bz items.size items.size hi=items.size))
 (h:Q (.ref s.heap.objs.size) {s with heap:=s.heap.push {cls:= .type "tuple",data:= .seq ((items.toList.drop (bz items.size 0 lo)).take (bz items.size items.size hi-bz items.size 0 lo)).toArray}})
 (hsz:items.size<=sizeLine):wpAny (model prog w) A (getItem (.ref t) (.ref sl)) Q E s:=by
 have htake:sizeOk (.seq ((items.toList.drop (bz items.size 0 lo)).take (bz items.size items.size hi-bz items.size 0 lo)).toArray):=by
  show((items.toList.drop (bz items.size 0 lo)).take (bz items.size items.size hi-bz items.size 0 lo)).toArray.size<=sizeLine;rw[List.size_toArray,List.length_take,List.length_drop,Array.length_toList];omega
 have hj:bz items.size items.size hi<=items.size:=FI _ _ (Nat.le_refl _) hi;obtain⟨os,hos,hcs,hds⟩:=id hs;have hTs:s.TypeIs (.ref sl) "slice":=⟨os,hos,hcs⟩
 unfold getItem;try with_reducible refine wpAny_holding ?_
 first|refine wpAny_bind (wpAny_pure ?_)|skip
 refine wpAny_bind (wpAny_sequenceKey ht.typeIs (by decide) ?_)
 refine wpAny_bind (wpAny_callSpecial?_slot (name:=Str.ofString "__getitem__") ht.typeIs PyProof.Rows.slot_tuple_getitem
  (wpAny_call_entry PyProof.Rows.slot_tuple_getitem ht.typeIs entry_tuple_getitem ?_ (args_tuple_getitem _ _)))
 show wpAny _ _ (Builtin.Tuple.tupleItemsOf (.ref t) >>= _) _ _ s;refine wpAny_bind (tupleItemsOf_ ht ?_);refine wpAny_bind (wpAny_typeOf hTs ?_);rw[if_pos (by decide)];refine wpAny_bind (ku hs pl pu ?_)
 have hno:¬((((bz items.size 0 lo:Nat):Int)==0&&(1:Int)==1&&(bz items.size items.size hi-bz items.size 0 lo)==items.size)=true):=by
  intro q;rw[Bool.and_eq_true,Bool.and_eq_true]at q;have q1:((bz items.size 0 lo:Nat):Int)=0:=eq_of_beq q.1.1;have q2:bz items.size items.size hi-bz items.size 0 lo=items.size:=eq_of_beq q.2;exact hw ⟨by omega,by omega⟩
 show wpAny _ _ (if(((bz items.size 0 lo:Nat):Int)==0&&(1:Int)==1&&(bz items.size items.size hi-bz items.size 0 lo)==items.size)=true then _ else _) _ _ s;rw[if_neg hno,BL]
 first
  |exact wpAny_bind (m:=Builtin.Tuple.tupleExact _) (wpAny_newObj_type (wpAny_pure ⟨_,rfl,wpAny_pure h⟩) htake)
  |exact wpAny_bind (m:=Builtin.Tuple.tupleExact _) (wpAny_newObj_type (wpAny_bind (wpAny_pure (wpAny_pure ⟨_,rfl,wpAny_pure h⟩))) htake)
  |exact wpAny_bind (wpAny_bind (m:=Builtin.Tuple.tupleExact _) (wpAny_newObj_type (wpAny_pure (wpAny_pure ⟨_,rfl,wpAny_pure h⟩)) htake))
  |exact wpAny_bind (wpAny_bind (m:=Builtin.Tuple.tupleExact _) (wpAny_newObj_type (wpAny_pure ⟨_,rfl,wpAny_pure h⟩) htake))
end
end HT
namespace L2
open PySem PySem.Spec PyProof.Rows
abbrev TO:=St->Hp->(Option Int->Hp->Prop)->Prop
def PO(X:Cx)(e:Option Expr)(t:TO):Prop:=
 ∀(pins:List (Addr×Obj)) (s:Shared) (σ:St) (H:Hp) (Q:Option Int->Hp->Prop),Inv X pins σ H s->t σ H Q->
  wpAny (model X.prog X.w) X.A (evalPart e X.env) (fun u s'=>∃o H',Inv X pins σ H' s'/\IsPart u o/\Q o H') X.xe s
def D_:TO:=fun _ H Q=>Q none H
def IL(t:TE):TO:=fun σ H Q=>t σ H fun x H1=>∃i,x= .int i/\Q (some i) H1
section
variable {X:Cx}{e:Expr}{te:TE}{lo hi:Option Expr}{tl th:TO}{pos p2:Pos}
theorem DU:PO X none D_:=by
 intro pins s σ H Q I h;rw[evalPart_none];exact wpAny_pure ⟨none,H,I,.none,h⟩
theorem E_(h:PE X e te):PO X (some e) (IL te):=by
 intro pins s σ H Q I hw;rw[evalPart_some];refine bp (h pins s σ H _ I hw) fun u s1 ⟨x,H1,I1,r1,q1⟩=>?_;obtain⟨i,rfl,q⟩:=q1;obtain⟨t,rfl⟩:=r1;exact⟨some i,H1,I1,.int i t,q⟩
def AO(X:Cx)(r:V->Option Int->Option Int->Hp->VK->Prop):Prop:=
 ∀(pins:List (Addr×Obj)) (s:Shared) (σ:St) (H:Hp) (x:V) (v vl vu:Value) (lo hi:Option Int) (sl:Addr) (Q:VK),Inv X pins σ H s->RelV x v->s.heap.IsSliceOf sl vl vu .none->IsPart vl lo->IsPart vu hi->r x lo hi H Q->
  ∃T id,typeLookup (.type T) "__getitem__"=pure (some (.builtin id))/\s.TypeIs v T/\wpAny (model X.prog X.w) X.A (getItem v (.ref sl)) (EP X pins σ Q) X.xe s
def Lm(r:V->Option Int->Option Int->Hp->VK->Prop)(te:TE)(tl th:TO):TE:=fun σ H Q=>te σ H fun x H1=>tl σ H1 fun l H2=>th σ H2 fun u H3=>r x l u H3 Q
theorem CI{r:V->Option Int->Option Int->Hp->VK->Prop}(hr:AO X r)(he:PE X e te)(hl:PO X lo tl)(hu:PO X hi th):PE X (.Subscript e (.Slice lo hi none p2) pos) (Lm r te tl th):=by
 intro pins s σ H Q I h;refine Subscript_ (bp (he pins s σ H _ I h) fun v s1 ⟨x,H1,I1,r1,q1⟩=>?_);refine wpAny_Slice (bp (hl pins s1 σ H1 _ I1 q1) fun vl s2 ⟨l,H2,I2,pl,q2⟩=>bp (hu pins s2 σ H2 _ I2 q2) fun vu s3 ⟨u,H3,I3,pu,q3⟩=>?_);rw[evalPart_none];refine wpAny_pure ?_;have I4:Inv X pins σ H3 {s3 with heap:=s3.heap.push {cls:= .type "slice",data:= .fields #[vl,vu,.none]}}:=I3.kept (t':=s3.toks) fun b ob q=>Heap.get?_push_of_some _ q;obtain⟨T,id,hT,ht,hg⟩:=hr pins {s3 with heap:=s3.heap.push {cls:= .type "slice",data:= .fields #[vl,vu,.none]}} σ H3 x v vl vu l u s3.heap.objs.size Q I4 r1 (Heap.IsSliceOf.new ..) pl pu q3;show wpAny (model X.prog X.w) X.A (subscriptTail e (.Slice lo hi none p2) v (.ref s3.heap.objs.size)) (EP X pins σ Q) X.xe {s3 with heap:=s3.heap.push {cls:= .type "slice",data:= .fields #[vl,vu,.none]}};exact tail_any (ops:=[.ref s3.heap.objs.size,v]) ht hT hg (by with_unfolding_all rfl)
def mO(xs:List V)(lo hi:Option Int):List V:=(xs.drop (HT.bz xs.length 0 lo)).take (HT.bz xs.length xs.length hi-HT.bz xs.length 0 lo)
theorem pN(xs:List V)(lo hi:Option Int):(mO xs lo hi).length<=xs.length:=by
 unfold mO;rw[List.length_take,List.length_drop];omega
def K2(K:PySem.W.Frag):V->Option Int->Option Int->Hp->VK->Prop:=fun x lo hi H Q=>∃a xs,x= .ref a/\gn K H a xs/\
 ¬(HT.bz xs.length 0 lo=0/\HT.bz xs.length xs.length hi=xs.length)/\∀p,H p=none->Q (.ref p) (upd H p (.tup (mO xs lo hi)))
theorem Gz:AO X (K2 X.K):=by
 intro pins s σ H x v vl vu lo hi sl Q I rx hs pl pu h;obtain⟨a,xs,rfl,hx,hw,q⟩:=h;cases rx;obtain⟨its,r,ht,hz⟩:=I.tuple hx;have hlen:its.toArray.size=xs.length:=by rw[List.size_toArray];exact r.length.symm
 refine⟨"tuple",_,PyProof.Rows.slot_tuple_getitem.lookup,ht.typeIs,?_⟩;refine HT.pB ht hs pl pu (by rw[hlen];exact hw) ?_ (by rw[hlen];exact hz);rw[hlen];refine⟨.ref s.heap.objs.size,_,I.laid (t':=s.toks) (o:= .tup (mO xs lo hi)) (fun b ob q=>Heap.get?_push_of_some _ q) (Nat.le_refl _) ?_,rfl,q _ (I.aB.fresh (Nat.le_refl _))⟩;exact⟨Nat.le_trans (pN xs lo hi) hz,_,(r.drop (HT.bz xs.length 0 lo)).take (HT.bz xs.length xs.length hi-HT.bz xs.length 0 lo),IsTup.new _ _⟩
def Iz(K:PySem.W.Frag):R2:=fun x y H Q=>∃a b xs ys,x= .ref a/\y= .ref b/\gn K H a xs/\gn K H b ys/\xs≠ []/\xs.length+ys.length<=sizeLine/\
 (ys=[]->Q (.ref a) H)/\(ys≠ []->∀p,H p=none->Q (.ref p) (upd H p (.tup (xs++ys))))
theorem Vals.oS{xs:List V}{us:List Value}(r:Vals xs us):us=[]↔xs=[]:=by
 cases r with
 |nil=>simp
 |cons _ _=>simp
theorem E8:bG X (binaryOp .Add) (Iz X.K):=by
 intro pins s σ H x y v u Q I rx ry h;obtain⟨a,b,xs,ys,rfl,rfl,ha,hb,hx,hz,q1,q2⟩:=h;cases rx;cases ry;obtain⟨its,r1,p1,_⟩:=I.tuple ha;obtain⟨its2,r2,p2,_⟩:=I.tuple hb;refine HT.D6 p1 p2 (fun z=>hx (r1.oS.mp z)) (fun z=>⟨.ref a,H,I,rfl,q1 (r2.oS.mp z)⟩) (fun z=>?_) (by rw[<-r1.length,<-r2.length];exact hz);refine⟨.ref s.heap.objs.size,_,I.laid (t':=s.toks) (o:= .tup (xs++ys)) (fun b ob q=>Heap.get?_push_of_some _ q) (Nat.le_refl _) ?_,rfl,q2 (fun w=>z (r2.oS.mpr w)) _ (I.aB.fresh (Nat.le_refl _))⟩;exact⟨by rw[List.length_append];exact hz,_,r1.append r2,IsTup.new _ _⟩
end
def jG(n:Nat)(i:Int):Option Nat:=if 0<=i then(if i<n then some i.toNat else none)else if-(n:Int)<=i then some (i+n).toNat else none
def c_{α:Type}(xs:List α)(i:Int):Option α:=(jG xs.length i).bind fun j=>xs[j]?
theorem sQ{n:Nat}{i:Int}{j:Nat}(h:jG n i=some j):seqIndex? i n=some j/\j<n/\ -(n:Int)<=i/\i<n:=by
 unfold jG at h;by_cases h0:0<=i
 . rw[if_pos h0]at h;by_cases h1:i<n
   . rw[if_pos h1]at h;have e:i.toNat=j:=Option.some.inj h;exact⟨by rw[seqIndex_of h0 h1,e],by omega,by omega,h1⟩
   . rw[if_neg h1]at h;cases h
 . rw[if_neg h0]at h;by_cases h1: -(n:Int)<=i
   . rw[if_pos h1]at h;have e:(i+n).toNat=j:=Option.some.inj h;exact⟨by rw[seqIndex_neg (by omega) h1,e],by omega,h1,by omega⟩
   . rw[if_neg h1]at h;cases h
theorem sO{α:Type}{xs:List α}{i:Int}{v:α}(h:c_ xs i=some v):∃j,seqIndex? i xs.length=some j/\xs[j]?=some v/\j<xs.length/\ -(xs.length:Int)<=i/\i<xs.length:=by
 unfold c_ at h;cases e:jG xs.length i with
 |none=>rw[e]at h;cases h
 |some j=>
  rw[e]at h;obtain⟨h1,h2,h3,h4⟩:=sQ e;exact⟨j,h1,h,h2,h3,h4⟩
theorem fS{α:Type}{xs:List α}{j:Nat}{v:α}(h:xs[j]?=some v):c_ xs (j:Int)=some v:=by
 have hj:j<xs.length:=(List.getElem?_eq_some_iff.mp h).1
 have e:jG xs.length (j:Int)=some j:=by
  unfold jG;rw[if_pos (by omega),if_pos (by omega)];simp
 unfold c_;rw[e];exact h
def o_(b:Expr):Prop:=∀o i,subscripted b false o i=operate [o,i] (getItem o i)
def Dr(X:Cx)(r:R2):Prop:=
 ∀(value slice:Expr) (pins:List (Addr×Obj)) (s:Shared) (σ:St) (H:Hp) (x y:V) (v u:Value) (Q:VK),Inv X pins σ H s->RelV x v->RelV y u->r x y H Q->
  subscripted slice false v u=operate [v,u] (getItem v u)->wpAny (model X.prog X.w) X.A (subscriptTail value slice v u) (EP X pins σ Q) X.xe s
def HQ(X:Cx)(id:String)(r:V->List V->Hp->VK->Prop):Prop:=
 ∀(pins:List (Addr×Obj)) (s:Shared) (σ:St) (H:Hp) (x:V) (xs:List V) (v:Value) (us:List Value) (Q:VK),Inv X pins σ H s->RelV x v->Vals xs us->r x xs H Q->
  wpAny (model X.prog X.w) X.A (call (.builtin id) (v::us)) (EP X pins σ Q) X.xe s
section
variable {X:Cx}{a b:Expr}{ta tb:TE}{pos:Pos}
theorem Ib{r:R2}(hr:Dr X r)(ha:PE X a ta)(hb:PE X b tb)(hs:o_ b):PE X (.Subscript a b pos) (Aj r ta tb):=by
 intro pins s σ H Q I h;exact Subscript_ (Cw ha hb I h fun v u s2 x y H2 I2 rx ry q=>hr a b pins s2 σ H2 x y v u Q I2 rx ry q (hs _ _))
def K6(K:PySem.W.Frag):R2:=fun x y H Q=>∃p xs i v,x= .ref p/\y= .int i/\jz K H p xs/\c_ xs i=some v/\Q v H
def Lf(K:PySem.W.Frag):R2:=fun x y H Q=>∃p xs i v,x= .ref p/\y= .int i/\gn K H p xs/\c_ xs i=some v/\Q v H
theorem xq:Dr X (K6 X.K):=by
 intro value slice pins s σ H x y v u Q I rx ry h hs;obtain⟨p,xs,i,z,rfl,rfl,hq,he,q⟩:=h;cases rx;obtain⟨t,rfl⟩:=ry;obtain⟨its,r,pl,hz⟩:=I.list hq;obtain⟨j,h1,h2,h3,h4,h5⟩:=sO he;obtain⟨w,ew,rw'⟩:=r.get h2;have hl:=r.length;have hn:=oB;have fin:EP X pins σ Q w s:=⟨z,H,I,rw',q⟩
 by_cases h0:0<=i
 . have hj:i.toNat=j:=by
    rw[seqIndex_of h0 h5]at h1;exact Option.some.inj h1
   exact item_listR pl.isList h0 (by omega) (by rw[hj];simpa using ew) fin hs
 . have hj:(i+(its.toArray.size:Int)).toNat=j:=by
    rw[seqIndex_neg (by omega) h4]at h1;rw[List.size_toArray,<-hl];exact Option.some.inj h1
   exact subscriptTail_builtinR (x:=w) pl.isList.typeIs slot_list_getitem.lookup
    (wpAny_getItem_list_neg (Q:=fun r s'=>r=w/\EP X pins σ Q r s') pl.isList (by omega) (by rw[List.size_toArray]<;>omega) (by omega) (by rw[hj];simpa using ew) ⟨rfl,fin⟩) hs
theorem FX:Dr X (Lf X.K):=by
 intro value slice pins s σ H x y v u Q I rx ry h hs;obtain⟨p,xs,i,z,rfl,rfl,hq,he,q⟩:=h;cases rx;obtain⟨t,rfl⟩:=ry;obtain⟨its,r,pl,hz⟩:=I.tuple hq;obtain⟨j,h1,h2,h3,h4,h5⟩:=sO he;obtain⟨w,ew,rw'⟩:=r.get h2;have hl:=r.length;have hn:=oB;have fin:EP X pins σ Q w s:=⟨z,H,I,rw',q⟩
 exact subscriptTail_builtinR (x:=w) pl.typeIs slot_tuple_getitem.lookup
  (getItem_tuple (j:=j) (Q:=fun r s'=>r=w/\EP X pins σ Q r s') pl (by omega) (by omega) (by rw[List.size_toArray,<-hl];exact h1) (by simpa using ew) ⟨rfl,fin⟩) hs
theorem yo(its:List Value)(n j:Nat)(u:Value):Obj.mapSeq (·.setIfInBounds j u) {cls:= .type "list",data:= .seq its.toArray n}= {cls:= .type "list",data:= .seq (its.set j u).toArray n}:=by
 simp[Obj.mapSeq]
theorem Inv.lst{pins:List (Addr×Obj)}{σ:St}{H:Hp}{s:Shared}{p:Addr}{xs:List V}(I:Inv X pins σ H s)(h:H p=some (.lst xs)):
 ∃(its:List Value) (n:Nat),Vals xs its/\s.heap.get? p=some {cls:= .type "list",data:= .seq its.toArray n}/\xs.length<=sizeLine:=by
 obtain⟨z,its,n,r,e⟩:=I.aB p _ h;exact⟨its,n,r,e,z⟩
theorem Inv.He{pins:List (Addr×Obj)}{σ:St}{H:Hp}{s:Shared}{p:Addr}{xs ys:List V}{its its':List Value}{n n':Nat}{f:Obj->Obj}(I:Inv X pins σ H s)(h:H p=some (.lst xs))
 (ho:s.heap.get? p=some {cls:= .type "list",data:= .seq its.toArray n}) (hf:f {cls:= .type "list",data:= .seq its.toArray n}= {cls:= .type "list",data:= .seq its'.toArray n'}) (r:Vals ys its') (hz:ys.length<=sizeLine) (t:Nat):
 Inv X pins σ (upd H p (.lst ys)) {s with heap:=s.heap.update p f,toks:=t}:=by
 have e:(s.heap.update p f).get? p=some {cls:= .type "list",data:= .seq its'.toArray n'}:=by
  rw[Heap.get?_update_self f ho (by rw[hf]<;>rfl),hf]
 refine I.write (x:=p) (e:=p) (by rw[h];trivial) (.inl rfl) (fun b u hb q=>(Heap.get?_update_other _ _ (Ne.symm hb)).trans q) ⟨_,e⟩ ?_;exact⟨hz,its',n',r,e⟩
def oM:V->V->V->Hp->(Hp->Prop)->Prop:=fun o i v H Q=>∃p xs k j,o= .ref p/\i= .int k/\H p=some (.lst xs)/\jG xs.length k=some j/\Q (upd H p (.lst (xs.set j v)))
theorem set_list:G_ X oM:=by
 intro pins s σ H o i v ov iv u Q I ro ri rv h;obtain⟨p,xs,k,j,rfl,rfl,hp,hj,q⟩:=h;cases ro;obtain⟨t,rfl⟩:=ri;obtain⟨its,n,r,ho,hz⟩:=I.lst hp;obtain⟨h1,h2,h3,h4⟩:=sQ hj;have hl:=r.length;have hn:=oB
 have I':Inv X pins σ (upd H p (.lst (xs.set j v))) {s with heap:=s.heap.update p (Obj.mapSeq (·.setIfInBounds j u))}:=
  I.He hp ho (yo its n j u) (r.set rv j) (by rw[List.length_set];exact hz) s.toks
 by_cases h0:0<=k
 . have hk:k.toNat=j:=by
    rw[seqIndex_of h0 h4]at h1;exact Option.some.inj h1
   exact PySem.W.ki_setAt ho h0 (by omega) (by rw[List.size_toArray,<-hl];exact h4) (by rw[hk];exact⟨_,I',q⟩)
 . have hk:(k+(its.toArray.size:Int)).toNat=j:=by
    rw[seqIndex_neg (by omega) h3]at h1;rw[List.size_toArray,<-hl];exact Option.some.inj h1
   exact PySem.W.ki_setBack ho (by omega) (by rw[List.size_toArray,<-hl];exact h3) (by omega) (by rw[hk];exact⟨_,I',q⟩)
theorem vj(lo hi:Option Int)(n:Nat):(sliceBounds lo hi none n).1=((HT.bz n 0 lo:Nat):Int)/\(sliceBounds lo hi none n).2.1=((HT.bz n n hi:Nat):Int)/\(sliceBounds lo hi none n).2.2=1:=by
 refine⟨?_,?_,rfl⟩
 . cases lo with
   |none=>simp[sliceBounds,HT.bz]
   |some i=>
    simp only[sliceBounds,HT.bz,Option.getD_none,show(1:Int)>0 by decide,if_true];by_cases h:i<0
    . simp only[h,if_true]<;>omega
    . simp only[h,if_false]<;>omega
 . cases hi with
   |none=>simp[sliceBounds,HT.bz]
   |some i=>
    simp only[sliceBounds,HT.bz,Option.getD_none,show(1:Int)>0 by decide,if_true];by_cases h:i<0
    . simp only[h,if_true]<;>omega
    . simp only[h,if_false]<;>omega
theorem t_(its:List Value)(lo hi:Option Int):slicePick its.toArray lo hi none=((its.drop (HT.bz its.length 0 lo)).take (HT.bz its.length its.length hi-HT.bz its.length 0 lo)).toArray:=by
 obtain⟨h1,h2,h3⟩:=vj lo hi its.toArray.size;unfold slicePick;rw[h1,h2,h3];simp only[sliceRange_one,pick_run,List.size_toArray]<;>rfl
def KD(K:PySem.W.Frag):V->Option Int->Option Int->Hp->VK->Prop:=fun x lo hi H Q=>∃a xs,x= .ref a/\jz K H a xs/\∀p,H p=none->Q (.ref p) (upd H p (.lst (mO xs lo hi)))
theorem xI:AO X (KD X.K):=by
 intro pins s σ H x v vl vu lo hi sl Q I rx hs pl pu h;obtain⟨a,xs,rfl,hx,q⟩:=h;cases rx;obtain⟨its,r,ht,hz⟩:=I.list hx;have hlen:=r.length;refine⟨"list",_,slot_list_getitem.lookup,ht.isList.typeIs,?_⟩;refine wpAny_getItem_list_slice ht.isList hs pl pu .none (by simp) ?_ (by rw[List.size_toArray]<;>omega);rw[t_,<-hlen];refine⟨.ref s.heap.objs.size,_,I.laid (t':=s.toks) (o:= .lst (mO xs lo hi)) (fun b ob q=>Heap.get?_push_of_some _ q) (Nat.le_refl _) ?_,rfl,q _ (I.aB.fresh (Nat.le_refl _))⟩;exact⟨Nat.le_trans (pN xs lo hi) hz,_,0,(r.drop (HT.bz xs.length 0 lo)).take (HT.bz xs.length xs.length hi-HT.bz xs.length 0 lo),Heap.get?_push_size _ rfl⟩
theorem uX:bc X (.builtin "len") (fun xs H Q=>∃p ys,xs=[.ref p]/\(jz X.K H p ys\/gn X.K H p ys)/\Q (.int ys.length) H):=by
 intro pins s σ H xs us Q I r h;obtain⟨p,ys,rfl,hq,q⟩:=h;obtain⟨u,rfl,rx⟩:=vals1 r;cases rx;have hn:=oB;rcases hq with hq|hq
 . obtain⟨its,r',pl,hz⟩:=I.list hq;have hlen:=r'.length;exact Calls.call_len_list pl.isList (by simp only[List.size_toArray]<;>omega) ⟨.int ys.length,H,I.tok _,⟨s.toks+1,by rw[List.size_toArray,hlen]⟩,q⟩
 . obtain⟨its,r',pl,hz⟩:=I.tuple hq;have hlen:=r'.length;exact len_tuple pl (by simp only[List.size_toArray]<;>omega) ⟨.int ys.length,H,I.tok _,⟨s.toks+1,by rw[List.size_toArray,hlen]⟩,q⟩
theorem vV:bc X (.builtin "len") (fun xs H Q=>∃z,xs=[.str z]/\z.length<=sizeLine/\Q (.int z.length) H):=by
 intro pins s σ H xs us Q I r h;obtain⟨z,rfl,hz,q⟩:=h;obtain⟨u,rfl,t,rfl⟩:=vals1 r;have hn:=oB;exact len_str (by omega) ⟨.int z.length,H,I.tok _,⟨_,rfl⟩,q⟩
theorem ow:bc X (.type "list") (fun xs H Q=>∃p ys,xs=[.ref p]/\(jz X.K H p ys\/gn X.K H p ys)/\∀l,H l=none->Q (.ref l) (upd H l (.lst ys))):=by
 intro pins s σ H xs us Q I r h;obtain⟨p,ys,rfl,hq,q⟩:=h;obtain⟨u,rfl,rx⟩:=vals1 r;cases rx
 have fin:∀(its:List Value),Vals ys its->ys.length<=sizeLine->∀(h':Heap) (c':Nat),(∀b o',s.heap.get? b=some o'->h'.get? b=some o')->
  h'.get? s.heap.objs.size=some {cls:= .type "list",dict:=none,data:= .seq its.toArray c',slots:= #[]}->EP X pins σ Q (.ref s.heap.objs.size) {s with heap:=h'}:=fun its r' hz h' c' kp e=>
  ⟨.ref s.heap.objs.size,_,I.laid (t':=s.toks) kp (Nat.le_refl _) (show cu X.prog X.w _ h' _ (.lst ys)from⟨hz,its,c',r',e⟩),rfl,q _ (I.aB.fresh (Nat.le_refl _))⟩
 rcases hq with hq|hq
 . obtain⟨its,r',pl,hz⟩:=I.list hq;have hlen:=r'.length;obtain⟨o,ho,hc,n,hd⟩:=pl.isList;exact call_list_seq p (.inl rfl) ho hc hd (fun h' c' kp e=>fin its r' hz h' c' kp e) (by simp only[List.size_toArray]<;>omega)
 . obtain⟨its,r',pl,hz⟩:=I.tuple hq;have hlen:=r'.length;obtain⟨o,ho,hc,n,hd⟩:=pl;exact call_list_seq p (.inr rfl) ho hc hd (fun h' c' kp e=>fin its r' hz h' c' kp e) (by simp only[List.size_toArray]<;>omega)
theorem uj:bc X (.type "tuple") (fun xs H Q=>∃p ys,xs=[.ref p]/\((jz X.K H p ys/\∀l,H l=none->Q (.ref l) (upd H l (.tup ys)))\/(gn X.K H p ys/\Q (.ref p) H))):=by
 intro pins s σ H xs us Q I r h;obtain⟨p,ys,rfl,h⟩:=h;obtain⟨u,rfl,rx⟩:=vals1 r;cases rx;rcases h with⟨hq,q⟩|⟨hq,q⟩
 . obtain⟨its,r',pl,hz⟩:=I.list hq;have hlen:=r'.length;refine call_tuple_list pl.isList (fun h' kp=>?_) (by simp only[List.size_toArray]<;>omega);have I1:Inv X pins σ H {s with heap:=h'}:=I.kept (t':=s.toks) kp
   have I2:Inv X pins σ (upd H h'.objs.size (.tup ys)) {s with heap:=h'.push {cls:= .type "tuple",data:= .seq its.toArray}}:=
    I1.laid (t':=s.toks) (fun b o e=>Heap.get?_push_of_some _ e) (Nat.le_refl _) (show cu X.prog X.w _ _ _ (.tup ys)from⟨hz,its,r',IsTup.new _ _⟩)
   exact⟨.ref h'.objs.size,_,I2,rfl,q _ (I1.aB.fresh (Nat.le_refl _))⟩
 . obtain⟨its,r',pl,hz⟩:=I.tuple hq;exact call_tuple_same pl ⟨.ref p,H,I,rfl,q⟩
def Kh(K:PySem.W.Frag)(T:String)(x:V)(H:Hp):Prop:=match x with
 | .str _=>T="str"
 | .int _=>T="int"
 | .ref p=>(T="list"/\∃xs,jz K H p xs)\/(T="tuple"/\∃o,K.lookup p=some o/\o.cls= .type "tuple"/\o.dict=none)\/
    (T="dict"/\((∃kvs,H p=some (.dK kvs))\/∃kvs,H p=some (.dT kvs)))\/(T="set"/\∃S n,H p=some (.set S n))
 |_=>False
theorem FA{pins:List (Addr×Obj)}{σ:St}{H:Hp}{s:Shared}{T:String}{x:V}{v:Value}(I:Inv X pins σ H s)(r:RelV x v)(ty:Kh X.K T x H):
 s.TypeIs v T/\∀a,v= .ref a->∃ob,s.heap.get? a=some ob/\ob.dict=none:=by
 cases x with
 |str z=>
  obtain⟨t,rfl⟩:=r;cases (show T="str" from ty);exact⟨typeIs_str s z t,fun _ e=>nomatch e⟩
 |int i=>
  obtain⟨t,rfl⟩:=r;cases (show T="int" from ty);exact⟨typeIs_int s i t,fun _ e=>nomatch e⟩
 |ref p=>
  cases r;rcases ty with⟨rfl,xs,hq⟩|⟨rfl,o,hk,hc,hd⟩|⟨rfl,hk⟩|⟨rfl,S,n,hk⟩
  . obtain⟨its,_,pl,_⟩:=I.list hq;refine⟨pl.isList.typeIs,fun a e=>?_⟩;cases e;obtain⟨o,n,e,c,hd,_⟩:=pl;exact⟨o,e,hd⟩
  . refine⟨⟨o,I.d5 p o hk,hc⟩,fun a e=>?_⟩;cases e;exact⟨o,I.d5 _ o hk,hd⟩
  . have z:∃o,s.heap.get? p=some o/\o.ExactDict:=by
     rcases hk with⟨kvs,hk⟩|⟨kvs,hk⟩
     . obtain⟨_,_,_,_,o,_,_,e,ex,_⟩:=I.aB p _ hk;exact⟨o,e,ex⟩
     . obtain⟨_,_,_,_,o,_,_,e,ex,_⟩:=I.aB p _ hk;exact⟨o,e,ex⟩
    obtain⟨o,e,ex⟩:=z;refine⟨⟨o,e,ex.1⟩,fun a e2=>?_⟩;cases e2;exact⟨o,e,ex.2.1⟩
  . obtain⟨o,_,_,_,e,ex,_⟩:=I.aB p _ hk;refine⟨⟨o,e,ex.1⟩,fun a e2=>?_⟩;cases e2;exact⟨o,e,ex.2.1⟩
 |_=>exact False.elim ty
def FC(K:PySem.W.Frag)(T:String)(r:V->List V->Hp->VK->Prop)(to:TE)(t:TA):TE:=fun σ H Q=>to σ H fun x H1=>Kh K T x H1/\t σ H1 fun xs H2=>r x xs H2 Q
variable {o e:Expr}{es:List Expr}{to:TE}{t:TA}{name:Str}{apos cpos:Pos}{T id:String}{r:V->List V->Hp->VK->Prop}
theorem Dx(pa:PlainAttrs T)(slot:Slot T name id)(hty:typeOf (.builtin id)=pure (.type "method_descriptor"))(hm:HQ X id r)(ho:PE X o to)(ha:PA X (e::es) t)
 (hbase:attributeBase o name X.env (eval o X.env)=eval o X.env:=by rfl)
 (hfew:((backTo cpos (starEach (e::es) X.env)).all (fun x=> !x.1)&&(backToKw cpos (keywordEach [] X.env)).all (fun x=>x.1.isSome)
   &&decide ((e::es).length+([]:List Keyword).length+(if([]:List Keyword).isEmpty then 0 else 1)<30))=true:=by rfl)
 (hline:(apos.endLine==cpos.line)=true:=by rfl) (hs:starEach (e::es) X.env=(false,eval e X.env)::starEach es X.env:=by rfl) (hplain:(backTo cpos (starEach es X.env)).any (·.1)=false:=by rfl):
 PE X (.Call (.Attribute o name apos) (e::es) [] cpos) (FC X.K T r to t):=by
 intro pins s σ H Q I h;refine wpAny_Call_method_late hbase hfew hline rfl (bp (ho pins s σ H _ I h) fun v s1 ⟨x,H1,I1,r1,ty,q1⟩=>?_);obtain⟨h1,h2⟩:=FA I1 r1 ty;refine⟨T,id,pa,slot,hty,h1,h2,?_⟩;have hA:=ha cpos pins s1 σ H1 _ I1 q1;rw[hs]at hA⊢;refine Calls.callWith_builtin (by show(false||(backTo cpos (starEach es X.env)).any (·.1))=false;rw[hplain]<;>rfl) (Calls.evalArgs_plain ?_);exact bp hA fun us s2 ⟨vs,H2,I2,r2,q2⟩=>hm pins s2 σ H2 x vs v us Q I2 r1 r2 q2
/-xs.append(e),list.index on a module's tuple .. are HQ facts of 06m-/
end
def HS(X:Cx)(id:String)(r:V->List V->Hp->VK->Prop):Prop:=
 ∀(pins:List (Addr×Obj)) (s:Shared) (σ:St) (H:Hp) (x:V) (xs:List V) (v:Value) (us:List Value) (Q:VK),Inv X pins σ H s->RelV x v->Vals xs us->r x xs H Q->
  wpAny (model X.prog X.w) X.A (call (.builtin id) (v::us)) (EP X pins σ Q) X.xe s
theorem Vals.one:∀ {x:V} {us:List Value},Vals [x] us->∃u,us=[u]/\RelV x u
 |_,_,.cons r .nil=>⟨_,rfl,r⟩
theorem Vals.eraseIdx:∀ {xs:List V} {us:List Value} (i:Nat),Vals xs us->Vals (xs.eraseIdx i) (us.eraseIdx i)
 |_,_,_,.nil=> .nil
 |_,_,0,.cons _ t=>t
 |_,_,i+1,.cons r t=> .cons r (Vals.eraseIdx i t)
theorem Vals.rep{xs:List V}{us:List Value}(h:Vals xs us):∀k:Nat,Vals (List.replicate k xs).flatten (List.replicate k us).flatten
 |0=> .nil
 |k+1=>by
  rw[List.replicate_succ,List.replicate_succ,List.flatten_cons,List.flatten_cons];exact Vals.append h (Vals.rep h k)
theorem sV{α:Type}:∀(l:List α) (i:Nat),(l.eraseIdx i).length<=l.length
 | [],_=>Nat.le_refl _
 |_::_,0=>Nat.le_succ _
 |_::r,i+1=>Nat.succ_le_succ (sV r i)
theorem foldl_rep(its:List Value):∀(k:Nat) (acc:List Value),
 List.foldl (fun x1 x2=>x1++x2) acc.toArray (List.replicate k its.toArray)=(acc++(List.replicate k its).flatten).toArray
 |0,acc=>by simp
 |k+1,acc=>by
  have e:acc.toArray++its.toArray=(acc++its).toArray:=by simp
  have e2:(acc++its)++(List.replicate k its).flatten=acc++(List.replicate (k+1) its).flatten:=by
   rw[List.replicate_succ,List.flatten_cons,List.append_assoc]
  rw[<-e2,<-foldl_rep its k (acc++its),<-e,List.replicate_succ,List.foldl_cons]
section
variable {X:Cx}{pins:List (Addr×Obj)}{σ:St}{H:Hp}{s:Shared}{l b:Addr}{xs ys zs:List V}
theorem Inv.BI{its its':List Value}{n:Nat}{f:Array Value->Array Value}{t':Nat}(I:Inv X pins σ H s)(hH:H l=some (.lst xs))
 (e:s.heap.get? l=some {cls:= .type "list",data:= .seq its.toArray n}) (hf:f its.toArray=its'.toArray) (hv:Vals ys its') (hz:ys.length<=sizeLine):
 Inv X pins σ (upd H l (.lst ys)) {s with heap:=s.heap.update l (Obj.mapSeq f),toks:=t'}:=by
 have q:=PySem.IsL.update e f;rw[hf]at q;refine I.write (x:=l) (e:=l) (by rw[hH];exact trivial) (.inl rfl) (fun b' u hb hu=>(Heap.get?_update_other s.heap (Obj.mapSeq f) (Ne.symm hb)).trans hu) ⟨_,q⟩ ?_;exact⟨hz,its',_,hv,q⟩
theorem Inv.BS{its:List Value}{t':Nat}(I:Inv X pins σ H s)(hv:Vals ys its)(hz:ys.length<=sizeLine):
 Inv X pins σ (upd H s.heap.objs.size (.lst ys)) {s with heap:=s.heap.push {cls:= .type "list",data:= .seq its.toArray},toks:=t'}:=
 I.laid (fun _ _ q=>Heap.get?_push_of_some _ q) (Nat.le_refl _) ⟨hz,its,0,hv,Heap.get?_push_size _ rfl⟩
theorem Inv.fresh(I:Inv X pins σ H s):H s.heap.objs.size=none:=I.aB.fresh (Nat.le_refl _)
theorem Inv.BN(I:Inv X pins σ H s)(hH:H l=some (.lst xs)):xs.length<=sizeLine/\∃(its:List Value) (n:Nat),Vals xs its/\xs.length=its.length/\s.heap.get? l=some {cls:= .type "list",data:= .seq its.toArray n}:=by
 obtain⟨z,its,n,r,e⟩:=I.aB l _ hH;exact⟨z,its,n,r,r.length,e⟩
theorem Bg{n:Nat}(h:n<=sizeLine):Builtin.List.listTooLong n=false:=by
 unfold Builtin.List.listTooLong;exact decide_eq_false (by omega)
end
section
variable {X:Cx}
def xl:V->List V->Hp->VK->Prop:=fun x vs H Q=>∃l xs y,x= .ref l/\vs=[y]/\H l=some (.lst xs)/\xs.length<sizeLine/\Q .aC (upd H l (.lst (xs++[y])))
theorem tf:HS X "list.append" xl:=by
 intro pins s σ H x vs v us Q I rx rv h;obtain⟨l,xs,y,rfl,rfl,hH,hz,q⟩:=h;cases rx;obtain⟨u,rfl,ru⟩:=rv.one;obtain⟨z,its,n,r,hl,e⟩:=I.BN hH;refine call_meets F.slot_list_append ⟨_,e,rfl⟩ F.entry_list_append (F.args_list_append_2 _ _) (PySem.list_append l its.toArray n u (by rw[List.size_toArray];omega)) ⟨e,?_⟩;refine⟨.aC,_,I.BI (its':=its++[u]) hH e (by simp) (r.append (.cons ru .nil)) ?_,rfl,q⟩;rw[List.length_append,List.length_singleton];omega
def Ba:V->List V->Hp->VK->Prop:=fun x vs H Q=>∃l xs i k y,x= .ref l/\vs=[.int i]/\H l=some (.lst xs)/\ -(2^63)<=i/\i<2^63/\seqIndex? i xs.length=some k/\xs[k]?=some y/\Q y (upd H l (.lst (xs.eraseIdx k)))
theorem Cy:HS X "list.pop" Ba:=by
 intro pins s σ H x vs v us Q I rx rv h;obtain⟨l,xs,i,k,y,rfl,rfl,hH,h1,h2,hk,hy,q⟩:=h;cases rx;obtain⟨u,rfl,ru⟩:=rv.one;obtain⟨t,rfl⟩:=ru;obtain⟨z,its,n,r,hl,e⟩:=I.BN hH;obtain⟨w,hw,rw'⟩:=r.get hy
 refine call_meets F.slot_list_pop ⟨_,e,rfl⟩ F.entry_list_pop (F.args_list_pop_2 _ _)
  (MeetsSeq.list_pop_at l its.toArray n i t k w (fitsIndex_both h1 h2) (by rw[List.size_toArray,<-hl];exact hk) (by rw[<-Array.getElem?_toList];exact hw) (by rw[List.size_toArray];omega)) ⟨e,?_⟩
 refine⟨y,_,I.BI (its':=its.eraseIdx k) hH e ?_ (r.eraseIdx k) ?_,rw',q⟩
 . show its.toArray.eraseIdxIfInBounds k=(its.eraseIdx k).toArray;rw[List.eraseIdxIfInBounds_toArray]
 . have:=sV xs k;omega
theorem len_rep{α:Type}(xs:List α)(k:Nat):(List.replicate k xs).flatten.length=k*xs.length:=by
 induction k with
 |zero=>simp
 |succ k ih=>rw[List.replicate_succ,List.flatten_cons,List.length_append,ih,Nat.succ_mul,Nat.add_comm]
end
section
variable {prog:Program}{w:World}{A:Around}{E:Value->Shared->Prop}{s:Shared}
set_option maxRecDepth 100000 in
end
section
variable {X:Cx}
end
end L2
namespace Att
open PySem PySem.W PySem.Calls PyProof.Rows
theorem rQ{P:Params}{h:Heap}:∀(ns:List Int) (vs:List Value),WellAll P h vs (ns.map WData.int)->IntsAre vs ns:=by
 intro ns;induction ns with
 |nil=>
  intro vs w;rw[List.map_nil]at w;cases w;exact .nil
 |cons n ns ih=>
  intro vs w;rw[List.map_cons]at w;cases w with
  |cons a b=>
   cases a;exact .cons _ _ (ih _ b)
theorem zH{l:OpenLaw}{n:Nat}(hn:l.most=some n){P:Params}{h:Heap}{args:List WData}{vals:List Value}
 (hpre:l.row.toRowW.claim.pre args=true) (hwl:WellAll P h vals args):
 ∃a vs ns,vals=[Value.ref a]/\args=[WData.list (ns.map WData.int)]/\h.get? a=some {cls:= .type "list",data:= .seq vs.toArray}/\IntsAre vs ns/\ns.length<=n:=by
 have hsh:WShape.hasAll [] args [.list .int]=true:=(pre_splitW hpre).1;have hc:l.pre.holds [] {args:=args}=true:=(pre_splitW hpre).2;obtain⟨d,r,rfl,h1,h2⟩:=hasAllW_cons hsh;obtain rfl:=hasAllW_nil h2;obtain⟨xs,rfl,h3⟩:=hasW_list h1;obtain⟨ns,rfl⟩:=items_int h3
 have hlen:ns.length<=n:=by
  unfold OpenLaw.pre at hc
  have h4:(WTm.not (.lt (.lit (.int (n:Int))) (.len (.arg 0)))).holds [] {args:=[.list (ns.map .int)]}=true:=by
   have h4:=(holds_andW hc).1;rw[hn]at h4;exact h4
  have h5:=condW_of h4 (w_not (w_lt w_lit (w_len_list (w_arg rfl))));rw[List.length_map]at h5;refine Nat.le_of_not_lt fun q=>?_;have q':(n:Int)<((ns.length:Nat):Int):=by omega
  first
   |(rw[decide_eq_true q']at h5;exact absurd h5 (by decide))
   |(simp at h5;omega)
 cases hwl with
 |cons w1 w2=>
  cases w2;cases w1 with
  |list ho hall=>exact⟨_,_,ns,rfl,rfl,ho,rQ ns _ hall,hlen⟩
theorem A7(l:OpenLaw)(args:List WData):l.row.toRowW.claim.post args (.bool true) args=true:=
 postW_of (r:=l.row.toRowW) (X:=(true==true))
  (show WShape.has [] (.bool true) .bool=true by first|rfl|decide|simp[WShape.has,WShape.arms,WShape.armsAll])
  (show(WTm.eq .res (.lit (.bool true))).value [] {args:=args,res:=some (.bool true),after:=args}=some (.bool (true==true))from w_eq_bool (w_res rfl) w_lit) rfl
theorem wL{l:OpenLaw}{n:Nat}{q:Program}{loose:List Str}{XP:(Str->Option Value)->Heap->Prop}{YP:World->Heap->Prop}{d:DefRec}
 (hn:l.most=some n) (hdf:d.params.defaults=[])
 (call:∀(w:World) (s₀ s₁:Shared) (mg mb:Str->Option Value) (fa:Addr) (o:Obj) (pm cd doc:Value) (a:Addr) (vs:List Value) (ns:List Int),
   Ground q loose [] XP w s₀ mg mb s₁.heap->YP w s₁.heap->
   s₁.heap.get? fa=some o->o.data= .func (docDef d.name d.params d.body d.scope pm cd doc)->s₁.heap.CodeRec cd d.name->mg d.name=some (.ref fa)->
   s₁.heap.get? a=some {cls:= .type "list",data:= .seq vs.toArray}->IntsAre vs ns->ns.length<=n->s₁.gens= #[]->
   codeAny (model l.prog w) callerA (.call (.ref fa) ⟨[.ref a],[]⟩) (fun r s'=>r= .ok (.ret (.bool true))/\OldK s₁.heap s'.heap/\s'.os=s₁.os/\AllBare s'.gens) s₁):
 WalkO q loose XP YP l.row.toRowW d [] (fun f vs=>PySem.call f vs):=by
 intro w s₀ s₁ mg mb G Y fa o pm cd doc dV kV ho hd hcd hD hmg hg args vals as hpre hlay hrd hwl hlo;obtain rfl:dV= .none:=Dflts.none hD hdf;obtain rfl:kV= .none:=Dflts.noKw hD;obtain⟨a,vs,ns,rfl,rfl,hobj,hints,hlen⟩:=zH hn hpre hwl;refine enter_call (codeAny_mono (call w s₀ s₁ mg mb fa o pm cd doc a vs ns G Y ho (fd_plain hd) hcd hmg hobj hints hlen hg) fun r s' hq=>?_);obtain⟨rfl,h2,h3,h4⟩:=hq;exact⟨.inl ⟨.bool true,.bool true,[],rfl,fun _=>rfl,.bool true,A7 l _,fun _=>⟨List.Pairwise.nil,fun _ hm=>(nomatch hm)⟩⟩,h2,h3,h4⟩
section
variable {prog:Program}{w:World}{A:Around}{E:Value->Shared->Prop}{s:Shared}{K:Frag}
end
end Att
namespace L2
open PySem PySem.Spec PyProof.Rows
end L2
/-THE LAST THEOREM (shape;LID,My.*are yours):
 My.Adr:a structure of the addresses that your layer names (classes,functions);My.Txt K t:a structure (Prop) of the equations over K;
 My.txt_mk:{K} {implicit addresses ..} (e1:nsIn K mainGlobals "law"=some (some (.ref f))) (e2:K.lookup f=some ⟨oc,od,.func (fnOf "law" "law" params body scope dV kV doc pm an cdv ct),sl⟩) (e3:codeIn K cdv "law"=true) .. :∃t,My.Txt K t
set_option maxRecDepth 100000 in
set_option maxHeartbeats 0 in
(the tactic k_is has no namespace:write k_is)-/
namespace L2
open PySem PySem.Spec PyProof.Rows
def inClass(s:Stmt)(j:Nat):Stmt:=match s with
 | .ClassDef _ _ _ body _ _ _ _ _ _ _=>body.getD j (.Pass ⟨0,0,0,0⟩)
 |_=> .Pass ⟨0,0,0,0⟩
def iC(s:Stmt):Arguments:=match s with
 | .FunctionDef _ a _ _ _ _ _ _ _ _=>a
 |_=>{posonlyargs:=[],args:=[],vararg:=none,kwonlyargs:=[],kw_defaults:=[],kwarg:=none,defaults:=[]}
def d_(s:Stmt):List Stmt:=match s with
 | .FunctionDef _ _ b _ _ _ _ _ _ _=>b
 |_=>[]
def ai(s:Stmt):Scope:=match s with
 | .FunctionDef _ _ _ _ _ _ sc _ _ _=>sc
 |_=>{kind:= .function,names:=[],isGenerator:=false,isCoroutine:=false}
abbrev cz:lD:=fun _ _ _ _ _ _=>False
abbrev E0:XK:=fun _ _ _=>False
theorem yD{X:Cx}:Passes cz X E0:=fun _ _ _ _ _ _ _ h=>h.elim
structure jy(K:PySem.W.Frag)(x qual:Str)(st:Stmt)(f:Addr)(fd:FuncData):Prop where
 ex:∃(oc:Value) (od:Option Addr) (kV doc pm:Value) (an:Option Addr) (cdv ct:Value) (osl:Array (Option Value)),
  fd=PySem.W.fnOf x qual (iC st) (d_ st) (ai st) .none kV doc pm an cdv ct/\K.lookup f=some ⟨oc,od,.func fd,osl⟩/\PySem.W.codeIn K cdv qual=true
 kp:PySem.W.keepIn K (.ref f)=true
section
variable {P:Program}{w:World}{K:PySem.W.Frag}{mg:Str->Option Value}{base:Heap}
theorem jy.ok{x qual:Str}{st:Stmt}{f:Addr}{fd:FuncData}{N ps:List Str}{k:Nat}{sp:Sp}(F:jy K x qual st f fd)(S:aY N ps (ai st))(len:∀vs H Q E,sp vs H Q E->vs.length=ps.length)
 (hbody:∀(cdv:Value) (A:Around) (outer:List Env) (s:Shared) (H:Hp) (vs:List V) (Q:VK) (E:XK),bO k (A.deeper (envOfC qual (ai st) s.heap.objs.size f cdv))->sp vs H Q E->
   ∃t,c9 (eE cz P w K mg base N qual (ai st) f cdv A outer s H E).gb (d_ st) t/\t {nx:=fun _ H'=>Q .aC H',rt:=Q} (start N vs) H):bf P w K mg base cz (k+1) f fd ps sp:=by
 obtain⟨oc,od,kV,doc,pm,an,cdv,ct,osl,rfl,lk,hcd⟩:=F.ex;refine zm lk hcd S len fun A outer s H vs Q E hr hsp=>?_;obtain⟨t,h,q⟩:=hbody cdv A outer s H vs Q E hr hsp;exact⟨t,h.gb,q⟩
theorem jy.binds{x qual:Str}{st:Stmt}{f:Addr}{fd:FuncData}{ps:List Str}(F:jy K x qual st f fd)
 (h:∀(kV doc pm:Value) (an:Option Addr) (cdv ct:Value) (us:List Value),us.length=ps.length->bindArgs (PySem.W.fnOf x qual (iC st) (d_ st) (ai st) .none kV doc pm an cdv ct) ⟨us,[]⟩=pure (ps.zip us)):Binds K fd ps []:=by
 obtain⟨oc,od,kV,doc,pm,an,cdv,ct,osl,rfl,lk,hcd⟩:=F.ex;exact .all (h kV doc pm an cdv ct)
theorem Ao{x qual:Str}{st:Stmt}{f:Addr}{oc:Value}{od an:Option Addr}{osl:Array (Option Value)}{kV doc pm cdv ct:Value}(l:K.lookup f=some ⟨oc,od,.func (PySem.W.fnOf x qual (iC st) (d_ st) (ai st) .none kV doc pm an cdv ct),osl⟩)
 (c:PySem.W.codeIn K cdv qual=true) (k:PySem.W.keepIn K (.ref f)=true):jy K x qual st f (PySem.W.fnOf x qual (iC st) (d_ st) (ai st) .none kV doc pm an cdv ct):=⟨⟨oc,od,kV,doc,pm,an,cdv,ct,osl,rfl,l,c⟩,k⟩
end
theorem Ay{n:Nat}(h:n<=1000):n<sizeLine:=Nat.lt_of_le_of_lt h (by decide)
section
variable {X:Cx}
theorem pv(i:Nat){x:Str}{pos:Pos}(hN:X.N[i]?=some x:=by rfl)(hv:tL X.env.scope x:=by first|exact Or.inl rfl|exact Or.inr (Or.inl rfl)|exact Or.inr (Or.inr rfl))(hd:(x==("__debug__":Str))=false:=by decide)
 (hcd:(x==("__classdict__":Str))=false:=by decide):PE X (.Name x pos) (lL i):=vc hN hv hd hcd
end
theorem ib{A B:Prop}(h:A):if true=true then A else B:=by
 rw[if_pos rfl];exact h
def CH(H H':Hp):Prop:=∀b o,H b=some o->H' b=some o
end L2
set_option maxHeartbeats 4000000
namespace Hd
open PySem PySem.W PySem.Calls PyProof.Rows
noncomputable def bt (P:Params):BT:=(.node (boot_o_0 P) (.node (boot_o_1 P) (.node (boot_o_3 P) (.node (boot_o_7 P) .nil .nil) .nil) (.node (boot_o_5 P) (.node (boot_o_9 P) .nil .nil) .nil)) (.node (boot_o_2 P) (.node (boot_o_4 P) (.node (boot_o_8 P) .nil .nil) .nil) (.node (boot_o_6 P) (.node (boot_o_10 P) .nil .nil) .nil)))
theorem Gv(P:Params):absHeap (bt P) 11 (boot_heap P).life=boot_heap P:=by kernel_rfl
noncomputable def run (p:Program) (w:World) (n:Nat) (ann:Option Value):Nat->SharedT->Thread->Option SharedT
 |0,_,_=>none
 |k+1,s,t=>match through t with
  |true=>some s
  |false=>match Fast.tw6613529449190102663 n ann t with
   |false=>none
   |true=>match Fast.tw10156331382660048174 (Fast.tw11892475500146522536 Fast.tw14364793385576792824) p w s t with
    |some (s',t')=>run p w n ann k s' t'
    |none=>none
theorem zy{p:Program}{w:World}{n:Nat}{ann:Option Value}:∀ {k:Nat} {s s':SharedT} {t:Thread},run p w n ann k s t=some s'->topRun treeTable p w n ann k s.abs t=some s'.abs
 |0,_,_,_,h=>by cases h
 |k+1,s,s',t,h=>by
  unfold run at h;unfold topRun;cases he:through t with
  |true=>rw[he]at h;cases h;rfl
  |false=>
   rw[he]at h;rw[<-Fast.te6613529449190102663,<-Fast.te10156331382660048174,<-Fast.te11892475500146522536,<-Fast.te14364793385576792824]at h;cases hk:stepOk n ann t with
   |false=>simp only[hk]at h;cases h
   |true=>
    simp only[hk]at h;cases hs:stepT (denote treeTable) p w s t with
    |none=>rw[hs]at h;cases h
    |some r=>obtain⟨s2,t2⟩:=r;rw[hs]at h;rw[stepT_spec hs];exact zy h
noncomputable def b0 (w:World) (os:OsState):SharedT:=⟨bt w.params,11,(boot_heap w.params).life,⟨[]⟩,boot_drawn,boot_toks,os⟩
theorem FW(w:World)(os:OsState):(b0 w os).abs=⟨boot_heap w.params,⟨[]⟩,boot_drawn,boot_toks,os⟩:=by
 unfold b0 SharedT.abs;dsimp only;rw[Gv]
theorem left{p q:Program}{loose:List Str}{α:Type}{Yf:Shared->α}{Ya:World->α}{N:Nat}
 (e:opening p=plainProg p.main.scope.names) (f:∀s,fenceModules? p s=some s) (hN:Nat.ble 600 N=true)
 (h:∀(w:World) (os:OsState),(run p w 11 (some (.ref 6)) N (b0 w os) (topStub p)).bind (fun s=>match staticsOk (importedModules p.main.body) (boot_heap w.params) s.abs.heap&&namesBound p s.abs.heap&&gensDone s.abs&&laidKept (boot_heap w.params) s.abs.heap with
   |true=>some (Fast.tw4187177175401517315 q loose (importedModules p.main.body) (fun _=>true) true s.abs,Yf s.abs)
   |false=>none)=some (openGood q loose,Ya w)):LeftO p q loose (fun _=>true) Yf Ya N:=fun w=>by
 obtain⟨⟨hp,gs,d,k,os⟩,e1,e2⟩:=Option.map_eq_some_iff.mp (boot_open e hN f w);obtain⟨rfl,rfl,rfl,rfl⟩:hp=boot_heap w.params/\gs=⟨[]⟩/\d=boot_drawn/\k=boot_toks:=by simpa using e2
 obtain⟨s,r1,r2⟩:=Option.bind_eq_some_iff.mp (h w os);have r3:=zy r1;rw[FW]at r3;rw[<-Fast.te4187177175401517315]at r2;unfold openEnds;rw[e1];show(topFrom treeTable p w N _).map _=_;unfold topFrom;rw[show((boot_heap w.params).isNs mainGlobals&&(⟨[]⟩:Array GenState).size==0)=true from by kernel_rfl];dsimp only;rw[show(boot_heap w.params).objs.size=11 from by kernel_rfl,show(boot_heap w.params).nsMap mainGlobals "__annotations__"=some (.ref 6)from by kernel_rfl,r3];show((match staticsOk (importedModules p.main.body) (boot_heap w.params) s.abs.heap&&namesBound p s.abs.heap&&gensDone s.abs&&laidKept (boot_heap w.params) s.abs.heap with|true=>some s.abs|false=>none):Option Shared).map _=_;cases z:(staticsOk (importedModules p.main.body) (boot_heap w.params) s.abs.heap&&namesBound p s.abs.heap&&gensDone s.abs&&laidKept (boot_heap w.params) s.abs.heap)with
 |false=>rw[z]at r2;cases r2
 |true=>rw[z]at r2;exact r2
abbrev e(x:Str)(t:Nat)(v:Value):Str×Nat×Value:=(x,t,v)
abbrev k(a:Addr)(o:Obj):Addr×Obj:=(a,o)
def no(P:Params)(n:Nat)(l:List (Str×Nat×Value)):Obj:=⟨.type "dict",none,.dict (l.map fun e=>⟨PyData.keyHash P e.1,.str e.1 e.2.1,e.2.2⟩).toArray n,#[]⟩
def fd(st:Stmt)(x q:Str)(pm:Value)(c:Addr):FuncData:=fnOf x q (L2.iC st) (L2.d_ st) (L2.ai st) .none .none .none pm none (.ref c) .none
def fq(st:Stmt)(x q:Str)(pm:Value)(c:Addr):Obj:=⟨.type "function",none,.func (fd st x q pm c),#[]⟩
def co(x q:Str)(t:Nat)(line argc:Int)(a b:Addr)(u v:Value)(d:Addr)(i:Int)(z:Nat):Obj:=⟨.type "code",none,.fields #[.str x t,.str q (t+1),.str "/claim/cut.py" (t+2),.int line 0,.int argc 0,.int 0 0,.int 0 0,.int 3 0,.ref a,.bool true,.int 181 0,.ref b,.none,u,v,.ref d,.int i 0,.int line 0,.str "/claim/cut.py" z],#[]⟩
end Hd
namespace Row
open PySem L2
open PySem.Spec hiding items?
open PyProof.Rows hiding St
def top(i:Nat):Stmt:=PySem.Challenge.pw_latticeworks_k26_all_the_rests.main.body.getD i (.Pass ⟨0,0,0,0⟩)
abbrev PW:Program:=PySem.Challenge.pw_latticeworks_k26_all_the_rests
abbrev gu:Stmt:=top 1
abbrev i_:Stmt:=top 2
abbrev hO:Stmt:=top 3
abbrev dH:Stmt:=top 4
abbrev fL:Stmt:=top 5
abbrev fe:Stmt:=top 6
abbrev cO:Stmt:=top 8
abbrev fV:Stmt:=top 9
abbrev gv:Stmt:=top 10
abbrev bY:Stmt:=inClass (top 11) 0
abbrev fw:Stmt:=inClass (top 11) 1
abbrev dc:Stmt:=inClass (top 11) 2
abbrev cF:Stmt:=inClass (top 11) 3
abbrev cg:Stmt:=inClass (top 11) 4
abbrev d9:Stmt:=inClass (top 11) 5
abbrev cE:Stmt:=inClass (top 11) 6
abbrev gQ:Stmt:=top 12
abbrev iB:Stmt:=top 20
abbrev cT:Stmt:=top 21
abbrev fi:Stmt:=top 22
abbrev fv:Stmt:=top 24
abbrev gD:Stmt:=top 25
abbrev cJ:Stmt:=top 26
abbrev gO:Stmt:=top 27
abbrev fQ:Stmt:=top 28
abbrev de:Stmt:=top 29
abbrev gd:Stmt:=top 30
abbrev gN:Stmt:=top 31
abbrev fM:Stmt:=top 32
abbrev gK:Stmt:=top 33
def iX:Value:=(.str "latticeworks.rows" 187)
def dQ:Value:=(.str "latticeworks.standing" 225)
def qZ:Value:=(.str "latticeworks.rests" 423)
def eC:Value:=(.str "law_latticeworks_k26_all_the_rests" 446)
def KX(P:Params):PySem.W.Frag:=[Hd.k 3 (Hd.no P 38 [Hd.e "__name__" 165 (.str "law_latticeworks_k26_all_the_rests" 446),Hd.e "__doc__" 166 .none,Hd.e "__package__" 167 .none,Hd.e "__loader__" 168 (.builtin "__main__.__loader__#opaque"),Hd.e "__spec__" 169 .none,Hd.e "__annotations__" 170 (.ref 6),Hd.e "__builtins__" 171 (.ref 4),Hd.e "__file__" 173 (.str "/claim/cut.py" 172),Hd.e "__cached__" 174 .none,Hd.e "as_rows" 194 (.ref 19),Hd.e "added" 200 (.ref 24),Hd.e "column" 206 (.ref 29),Hd.e "turned_over" 212 (.ref 34),Hd.e "unit_row" 218 (.ref 39),Hd.e "unit_rows" 224 (.ref 44),Hd.e "nearest_quotient" 234 (.ref 51),Hd.e "exchanged" 244 (.ref 58),Hd.e "negated" 250 (.ref 63),Hd.e "Bench" 334 (.ref 118),Hd.e "standing" 345 (.ref 129),Hd.e "LatticeError" 365 (.ref 139),Hd.e "NoSteps" 381 (.ref 152),Hd.e "TooMany" 397 (.ref 164),Hd.e "NoSheet" 422 (.ref 183),Hd.e "MOST_RESTS" 426 (.int (300) 425),Hd.e "form_of" 433 (.ref 192),Hd.e "longer_by_one" 439 (.ref 197),Hd.e "all_rests" 445 (.ref 202),Hd.e "_law_source" 456 (.ref 209),Hd.e "_law_take" 466 (.ref 216),Hd.e "_law_turned" 472 (.ref 221),Hd.e "_law_form" 484 (.ref 228),Hd.e "_law_leads" 499 (.ref 235),Hd.e "_law_some_leads" 508 (.ref 242),Hd.e "_law_due" 514 (.ref 247),Hd.e "_law_told" 524 (.ref 254),Hd.e "_law_same" 530 (.ref 259),Hd.e "law" 536 (.ref 264)]),
 Hd.k 18 (Hd.co "as_rows" "as_rows" 189 2 1 15 16 .none .none 17 192 193),
 Hd.k 19 (Hd.fq gu "as_rows" "as_rows" iX 18),
 Hd.k 23 (Hd.co "added" "added" 195 4 3 20 21 .none .none 22 198 199),
 Hd.k 24 (Hd.fq i_ "added" "added" iX 23),
 Hd.k 28 (Hd.co "column" "column" 201 6 2 25 26 .none .none 27 204 205),
 Hd.k 29 (Hd.fq hO "column" "column" iX 28),
 Hd.k 33 (Hd.co "turned_over" "turned_over" 207 8 2 30 31 .none .none 32 210 211),
 Hd.k 34 (Hd.fq dH "turned_over" "turned_over" iX 33),
 Hd.k 38 (Hd.co "unit_row" "unit_row" 213 10 2 35 36 .none .none 37 216 217),
 Hd.k 39 (Hd.fq fL "unit_row" "unit_row" iX 38),
 Hd.k 43 (Hd.co "unit_rows" "unit_rows" 219 12 1 40 41 .none .none 42 222 223),
 Hd.k 44 (Hd.fq fe "unit_rows" "unit_rows" iX 43),
 Hd.k 50 (Hd.co "nearest_quotient" "nearest_quotient" 227 15 2 45 46 (.ref 47) (.ref 48) 49 232 233),
 Hd.k 51 (Hd.fq cO "nearest_quotient" "nearest_quotient" dQ 50),
 Hd.k 57 (Hd.co "exchanged" "exchanged" 235 17 3 52 53 (.ref 54) (.ref 55) 56 242 243),
 Hd.k 58 (Hd.fq fV "exchanged" "exchanged" dQ 57),
 Hd.k 62 (Hd.co "negated" "negated" 245 22 1 59 60 .none .none 61 248 249),
 Hd.k 63 (Hd.fq gv "negated" "negated" dQ 62),
 Hd.k 74 (Hd.co "__init__" "Bench.__init__" 263 26 2 71 72 .none .none 73 266 267),
 Hd.k 75 (Hd.fq bY "__init__" "Bench.__init__" dQ 74),
 Hd.k 81 (Hd.co "take" "Bench.take" 269 31 4 76 77 (.ref 78) (.ref 79) 80 276 277),
 Hd.k 82 (Hd.fq fw "take" "Bench.take" dQ 81),
 Hd.k 88 (Hd.co "exchange" "Bench.exchange" 279 36 3 83 84 (.ref 85) (.ref 86) 87 285 286),
 Hd.k 89 (Hd.fq dc "exchange" "Bench.exchange" dQ 88),
 Hd.k 95 (Hd.co "change_sign" "Bench.change_sign" 288 41 2 90 91 (.ref 92) (.ref 93) 94 293 294),
 Hd.k 96 (Hd.fq cF "change_sign" "Bench.change_sign" dQ 95),
 Hd.k 100 (Hd.co "live_rows" "Bench.live_rows" 296 46 3 97 98 .none .none 99 299 300),
 Hd.k 101 (Hd.fq cg "live_rows" "Bench.live_rows" dQ 100),
 Hd.k 107 (Hd.co "gather" "Bench.gather" 302 50 3 102 103 (.ref 104) (.ref 105) 106 311 312),
 Hd.k 108 (Hd.fq d9 "gather" "Bench.gather" dQ 107),
 Hd.k 114 (Hd.co "lower_above" "Bench.lower_above" 314 64 3 109 110 (.ref 111) (.ref 112) 113 321 322),
 Hd.k 115 (Hd.fq cE "lower_above" "Bench.lower_above" dQ 114),
 Hd.k 117 (Hd.no P 4 [Hd.e "__module__" 258 (.str "latticeworks.standing" 225),Hd.e "__firstlineno__" 262 (.int (24) 261),Hd.e "__init__" 268 (.ref 75),Hd.e "take" 278 (.ref 82),Hd.e "exchange" 287 (.ref 89),Hd.e "change_sign" 295 (.ref 96),Hd.e "live_rows" 301 (.ref 101),Hd.e "gather" 313 (.ref 108),Hd.e "lower_above" 323 (.ref 115),Hd.e "__static_attributes__" 327 (.ref 116),Hd.e "__dict__" 329 (.ref 119),Hd.e "__weakref__" 331 (.ref 120),Hd.e "__doc__" 332 .none]),
 Hd.k 118 (⟨(.type "type"),none,.cls {name:="Bench",bases:=[(.type "object")],mro:=[(.ref 118),(.type "object")],ns:=117,qualname:="Bench",hasDict:=true,subclasses:=[],abstract:=false,hasDel:=false},#[none,none,(some (.str "Bench" 251)),(some (.str "Bench" 259)),(some (.builtin "object.__new__")),(some (.bool true))]⟩),
 Hd.k 128 (Hd.co "standing" "standing" 335 67 1 123 124 (.ref 125) (.ref 126) 127 343 344),
 Hd.k 129 (Hd.fq gQ "standing" "standing" dQ 128),
 Hd.k 138 (Hd.no P 3 [Hd.e "__module__" 355 (.str "latticeworks.errors" 346),Hd.e "__firstlineno__" 359 (.int (77) 358),Hd.e "__static_attributes__" 360 (.ref 137),Hd.e "__weakref__" 362 (.ref 140),Hd.e "__doc__" 363 .none]),
 Hd.k 139 (⟨(.type "type"),none,.cls {name:="LatticeError",bases:=[(.type "ValueError")],mro:=[(.ref 139),(.type "ValueError"),(.type "Exception"),(.type "BaseException"),(.type "object")],ns:=138,qualname:="LatticeError",hasDict:=true,subclasses:=[(.ref 152),(.ref 164),(.ref 183)],abstract:=false,hasDel:=false},#[(some (.ref 130)),none,(some (.str "LatticeError" 348)),(some (.str "LatticeError" 356)),(some (.builtin "ValueError.__new__")),(some (.bool true))]⟩),
 Hd.k 151 (Hd.no P 2 [Hd.e "__module__" 373 (.str "latticeworks.errors" 346),Hd.e "__firstlineno__" 377 (.int (79) 376),Hd.e "__static_attributes__" 378 (.ref 150),Hd.e "__doc__" 379 .none]),
 Hd.k 152 (⟨(.type "type"),none,.cls {name:="NoSteps",bases:=[(.ref 139)],mro:=[(.ref 152),(.ref 139),(.type "ValueError"),(.type "Exception"),(.type "BaseException"),(.type "object")],ns:=151,qualname:="NoSteps",hasDict:=true,subclasses:=[],abstract:=false,hasDel:=false},#[(some (.ref 143)),none,(some (.str "NoSteps" 366)),(some (.str "NoSteps" 374)),(some (.builtin "ValueError.__new__")),(some (.bool true))]⟩),
 Hd.k 163 (Hd.no P 2 [Hd.e "__module__" 389 (.str "latticeworks.errors" 346),Hd.e "__firstlineno__" 393 (.int (81) 392),Hd.e "__static_attributes__" 394 (.ref 162),Hd.e "__doc__" 395 .none]),
 Hd.k 164 (⟨(.type "type"),none,.cls {name:="TooMany",bases:=[(.ref 139)],mro:=[(.ref 164),(.ref 139),(.type "ValueError"),(.type "Exception"),(.type "BaseException"),(.type "object")],ns:=163,qualname:="TooMany",hasDict:=true,subclasses:=[],abstract:=false,hasDel:=false},#[(some (.ref 155)),none,(some (.str "TooMany" 382)),(some (.str "TooMany" 390)),(some (.builtin "ValueError.__new__")),(some (.bool true))]⟩),
 Hd.k 182 (Hd.no P 2 [Hd.e "__module__" 405 (.str "latticeworks.errors" 346),Hd.e "__firstlineno__" 409 (.int (83) 408),Hd.e "__init__" 417 (.ref 180),Hd.e "__static_attributes__" 419 (.ref 181),Hd.e "__doc__" 420 .none]),
 Hd.k 183 (⟨(.type "type"),none,.cls {name:="NoSheet",bases:=[(.ref 139)],mro:=[(.ref 183),(.ref 139),(.type "ValueError"),(.type "Exception"),(.type "BaseException"),(.type "object")],ns:=182,qualname:="NoSheet",hasDict:=true,subclasses:=[],abstract:=false,hasDel:=false},#[(some (.ref 167)),none,(some (.str "NoSheet" 398)),(some (.str "NoSheet" 406)),(some (.builtin "ValueError.__new__")),(some (.bool true))]⟩),
 Hd.k 191 (Hd.co "form_of" "form_of" 427 90 1 186 187 (.ref 188) (.ref 189) 190 431 432),
 Hd.k 192 (Hd.fq iB "form_of" "form_of" qZ 191),
 Hd.k 196 (Hd.co "longer_by_one" "longer_by_one" 434 92 2 193 194 .none .none 195 437 438),
 Hd.k 197 (Hd.fq cT "longer_by_one" "longer_by_one" qZ 196),
 Hd.k 201 (Hd.co "all_rests" "all_rests" 440 97 1 198 199 .none .none 200 443 444),
 Hd.k 202 (Hd.fq fi "all_rests" "all_rests" qZ 201),
 Hd.k 208 (Hd.co "_law_source" "_law_source" 448 112 2 203 204 (.ref 205) (.ref 206) 207 454 455),
 Hd.k 209 (Hd.fq fv "_law_source" "_law_source" eC 208),
 Hd.k 215 (Hd.co "_law_take" "_law_take" 457 117 2 210 211 (.ref 212) (.ref 213) 214 464 465),
 Hd.k 216 (Hd.fq gD "_law_take" "_law_take" eC 215),
 Hd.k 220 (Hd.co "_law_turned" "_law_turned" 467 126 2 217 218 .none .none 219 470 471),
 Hd.k 221 (Hd.fq cJ "_law_turned" "_law_turned" eC 220),
 Hd.k 227 (Hd.co "_law_form" "_law_form" 473 140 2 222 223 (.ref 224) (.ref 225) 226 482 483),
 Hd.k 228 (Hd.fq gO "_law_form" "_law_form" eC 227),
 Hd.k 234 (Hd.co "_law_leads" "_law_leads" 485 148 2 229 230 (.ref 231) (.ref 232) 233 497 498),
 Hd.k 235 (Hd.fq fQ "_law_leads" "_law_leads" eC 234),
 Hd.k 241 (Hd.co "_law_some_leads" "_law_some_leads" 500 161 1 236 237 (.ref 238) (.ref 239) 240 506 507),
 Hd.k 242 (Hd.fq de "_law_some_leads" "_law_some_leads" eC 241),
 Hd.k 246 (Hd.co "_law_due" "_law_due" 509 170 1 243 244 .none .none 245 512 513),
 Hd.k 247 (Hd.fq gd "_law_due" "_law_due" eC 246),
 Hd.k 253 (Hd.co "_law_told" "_law_told" 515 178 1 248 249 (.ref 250) (.ref 251) 252 522 523),
 Hd.k 254 (Hd.fq gN "_law_told" "_law_told" eC 253),
 Hd.k 258 (Hd.co "_law_same" "_law_same" 525 190 2 255 256 .none .none 257 528 529),
 Hd.k 259 (Hd.fq fM "_law_same" "_law_same" eC 258),
 Hd.k 263 (Hd.co "law" "law" 531 194 1 260 261 .none .none 262 534 535),
 Hd.k 264 (Hd.fq gK "law" "law" eC 263)]
def KA:List Addr:=[3,18,19,23,24,28,29,33,34,38,39,43,44,50,51,57,58,62,63,74,75,81,82,88,89,95,96,100,101,107,108,114,115,117,118,128,129,138,139,151,152,163,164,182,183,191,192,196,197,201,202,208,209,215,216,220,221,227,228,234,235,241,242,246,247,253,254,258,259,263,264]
set_option maxHeartbeats 0 in
theorem left:PySem.W.LeftO PW (PySem.W.view PW [1,2,3,4,5,6,8,9,10,11,12,14,15,16,17,19,20,21,22,24,25,26,27,28,29,30,31,32,33]) [] (fun _=>true) (PySem.W.kmHook Row.KX Row.KA (fun _=>rfl) [98]).obs (PySem.W.kmHook Row.KX Row.KA (fun _=>rfl) [98]).val 4100:=
 Hd.left (by kernel_rfl) (fun s=>by kernel_rfl) rfl fun w os=>by kernel_rfl
end Row
namespace L3
open PySem PySem.Spec PyProof.Rows L2
section
variable {prog:Program}{w:World}{A:Around}{R:Result->Shared->Prop}{s:Shared}
theorem wR{elt target iter:Expr}{ifs:List Expr}{scope:Scope}{pos:Pos}{it acc:Value}{env:Env}(I:Nat->Shared->Prop)
 (turn:∀n s,I n s->wpAny (model prog w) A (pyNext it) (fun r s₁=>match r with
   |none=>R (.ok .next) s₁
   |some v=>wpAny (model prog w) A (letOwnedTupleGo target it v) (fun _ s₀=>wpAny (model prog w) A (assign target env v) (fun _ s₂=>
     wpAny (model prog w) A (forIn ifs true fun c r=>if r=true then do let ok <-isTrue c env (eval c env);pure (ForInStep.yield ok)else pure (ForInStep.yield r)) (fun ok s₃=>
      if ok=true then wpAny (model prog w) A (eval elt env) (fun x s₄=>
       wpAny (model prog w) A (call (.builtin "list.append") [acc,x]) (fun _ s₅=>∃m,m<n/\I m s₅) (fun _ _=>False) s₄) (fun _ _=>False) s₃
      else∃m,m<n/\I m s₃) (fun _ _=>False) s₂) (fun _ _=>False) s₀) (fun _ _=>False) s₁) (fun _ _=>False) s)
 (n:Nat) (h:I n s):
 codeAny (model prog w) A (.compLoop (.ListComp elt [⟨target,iter,ifs,0⟩] scope pos) 0 it acc env) R s:=by
 refine codeAny_loop rfl I (fun n s hI=>?_) n h;show wpAny _ A ((compTurn (.ListComp elt [⟨target,iter,ifs,0⟩] scope pos) 0 it acc env).onRaise (fun x=>do noteFrame x env;theTreesLotGoes x)) _ _ s;refine wpAny_noted ?_;rw[compTurn_list];refine wpAny_bind (wpAny_standAt (wpAny_bind (wpAny_mono (turn n s hI) (fun r s₁ h₁=>?_) fun _ _ h'=>h'.elim)));cases r with
 |none=>exact wpAny_pure h₁
 |some v=>
  refine wpAny_bind (wpAny_mono h₁ (fun _ s₀ h₀=>?_) fun _ _ h'=>h'.elim);refine wpAny_bind (wpAny_mono h₀ (fun _ s₂ h₂=>wpAny_bind (wpAny_mono h₂ (fun ok s₃ h₃=>?_) fun _ _ h'=>h'.elim)) fun _ _ h'=>h'.elim);cases ok with
  |false=>exact wpAny_pure ⟨rfl,h₃⟩
  |true=>
   exact wpAny_bind (wpAny_bind (wpAny_mono h₃ (fun x s₄ h₄=>wpAny_bind (wpAny_mono h₄ (fun _ s₅ h₅=>wpAny_pure (wpAny_pure ⟨rfl,h₅⟩)) fun _ _ h'=>h'.elim)) fun _ _ h'=>h'.elim))
end
def cp(cells:List (Str×Addr)):List (Str×NameKind)->List (Str×Addr)->List (Str×Addr)
 | [],acc=>acc
 |(n,k)::r,acc=>if k== .free then(match cells.lookup n with|some c=>cp cells r ((n,c)::acc)|none=>cp cells r acc)else cp cells r acc
theorem bW{cells:List (Str×Addr)}:∀(names:List (Str×NameKind)) (acc:List (Str×Addr)),(∀x c,acc.lookup x=some c->cells.lookup x=some c)->
 ∀x c,(cp cells names acc).lookup x=some c->cells.lookup x=some c
 | [],acc,h,x,c,e=>h x c e
 |(n,k)::r,acc,h,x,c,e=>by
  unfold cp at e;split at e
  . split at e
    . rename_i d q;refine bW r _ (fun y b e'=>?_) x c e;rw[List.lookup_cons]at e';split at e'
      . rename_i z;cases e';have z':y=n:=by simpa using z
        rw[z'];exact q
      . exact h y b e'
    . exact bW r _ h x c e
  . exact bW r _ h x c e
theorem gz{cells:List (Str×Addr)}{x:Str}:∀(names:List (Str×NameKind)) (acc:List (Str×Addr)),(∃c,cells.lookup x=some c)->((x,NameKind.free)∈names\/∃c,acc.lookup x=some c)->
 ∃c,(cp cells names acc).lookup x=some c
 | [],acc,_,h=>by
   rcases h with h|h
   . simp at h
   . exact h
 |(n,k)::r,acc,hc,h=>by
  unfold cp;split
  . rename_i hk;split
    . rename_i d q;refine gz r _ hc ?_;rcases h with h|⟨c,h⟩
      . rcases List.mem_cons.mp h with e|e
        . cases e;exact .inr ⟨d,by simp[List.lookup_cons]⟩
        . exact .inl e
      . refine .inr ?_;rw[List.lookup_cons];split
        . exact⟨_,rfl⟩
        . exact⟨c,h⟩
    . rename_i q;refine gz r _ hc ?_;rcases h with h|h
      . rcases List.mem_cons.mp h with e|e
        . cases e;obtain⟨c,hc⟩:=hc;rw[hc]at q;cases q
        . exact .inl e
      . exact .inr h
  . rename_i hk;refine gz r _ hc ?_;rcases h with h|h
    . rcases List.mem_cons.mp h with e|e
      . cases e;exact absurd rfl hk
      . exact .inl e
    . exact .inr h
theorem jT{scope:Scope}{env:Env}(h:∀x∈scope.names,x.2= .free->∃c,env.cells.lookup x.1=some c):closureFor scope env=pure (cp env.cells scope.names []):=by
 have key:∀(names:List (Str×NameKind)) (acc:List (Str×Addr)),(∀x∈names,x.2= .free->∃c,env.cells.lookup x.1=some c)->
  (forIn names acc (fun(x:Str×NameKind) (cs:List (Str×Addr))=>if(x.2==NameKind.free)=true then(do let a <-cellOf env x.1;pure (ForInStep.yield ((x.1,a)::cs)):Sem (ForInStep (List (Str×Addr))))else pure (ForInStep.yield cs)))=(pure (cp env.cells names acc):Sem (List (Str×Addr))):=by
  intro names;induction names with
  |nil=>intro acc _;rfl
  |cons p r ih=>
   intro acc hh;obtain⟨n,k⟩:=p;rw[List.forIn_cons];have ih':=ih;by_cases hk:(k==NameKind.free)=true
   . obtain⟨c,e⟩:=hh (n,k) List.mem_cons_self (by simpa using hk);simp only[hk,if_true]
     have e1:cellOf env n=pure c:=by
      unfold cellOf;rw[e]
     rw[e1];simp only[pure_bind];rw[ih _ fun x hx=>hh x (List.mem_cons_of_mem _ hx)];conv=>rhs;unfold cp
     simp only[hk,if_true];rw[show env.cells.lookup n=some c from e]
   . have hk':(k==NameKind.free)=false:=by simpa using hk
     simp only[hk',Bool.false_eq_true,if_false,pure_bind];rw[ih _ fun x hx=>hh x (List.mem_cons_of_mem _ hx)];conv=>rhs;unfold cp
     simp only[hk',Bool.false_eq_true,if_false]
 unfold closureFor;have:=key scope.names [] h;rw[bind_pure]
 first
  |exact this
  |(simp only[bind_pure]at this⊢;exact this)
end L3
namespace L3
open PySem PySem.Spec L2
open PyProof.Rows hiding St
theorem gJ(env:Env):∀(names:List (Str×NameKind)) (x:Str),
 (names.map fun(n,k)=>if(k==NameKind.free&&env.scope.kind== .function&&env.kindOf n==some .cell)then(n,NameKind.cell)else(n,k)).lookup x=
   (names.lookup x).map fun k=>if(k==NameKind.free&&env.scope.kind== .function&&env.kindOf x==some .cell)then NameKind.cell else k
 | [],_=>rfl
 |(n,k)::r,x=>by
  show List.lookup x ((if(k==NameKind.free&&env.scope.kind== .function&&env.kindOf n==some .cell)=true then(n,NameKind.cell)else(n,k))::_)=_;cases hx:x==n with
  |true=>
   have e:x=n:=by simpa using hx
   subst e;by_cases hc:(k==NameKind.free&&env.scope.kind== .function&&env.kindOf x==some .cell)=true
   . rw[if_pos hc];simp only[List.lookup_cons,beq_self_eq_true,Option.map_some];rw[if_pos hc]
   . rw[if_neg hc];simp only[List.lookup_cons,beq_self_eq_true,Option.map_some];rw[if_neg hc]
  |false=>
   by_cases hc:(k==NameKind.free&&env.scope.kind== .function&&env.kindOf n==some .cell)=true
   . rw[if_pos hc];simp only[List.lookup_cons,hx];exact gJ env r x
   . rw[if_neg hc];simp only[List.lookup_cons,hx];exact gJ env r x
theorem vf{env:Env}{scope:Scope}{x:Str}(h:scope.names.lookup x=some .free):(relabel scope env).names.lookup x=some .cell\/(relabel scope env).names.lookup x=some .free:=by
 have e:(relabel scope env).names.lookup x=_:=gJ env scope.names x;rw[e,h];simp only[Option.map_some];split
 . exact .inl rfl
 . exact .inr rfl
theorem uN{env:Env}{scope:Scope}{x:Str}(h:(relabel scope env).names.lookup x=some .cell\/(relabel scope env).names.lookup x=some .free):(x,NameKind.free)∈scope.names\/scope.names.lookup x=some .cell:=by
 have e:(relabel scope env).names.lookup x=_:=gJ env scope.names x;rw[e]at h;cases q:scope.names.lookup x with
 |none=>rw[q]at h;rcases h with h|h<;>cases h
 |some k=>
  rw[q]at h;simp only[Option.map_some]at h;have m:=PySem.mem_of_lookup q;by_cases hc:(k==NameKind.free&&env.scope.kind== .function&&env.kindOf x==some .cell)=true
  . have:k= .free:=by
     simp only[Bool.and_eq_true]at hc;simpa using hc.1.1
    subst this;exact .inl m
  . rw[if_neg hc]at h;rcases h with h|h
    . cases h;exact .inr rfl
    . cases h;exact .inl m
theorem eY:∀(names:List (Str×NameKind)) (L:Nat) (acc:List (Str×Addr)),cellsFrom L names acc=cellsFrom L names []++acc
 | [],_,_=>rfl
 |(n,k)::r,L,acc=>by
  unfold cellsFrom;by_cases hk:(k==NameKind.cell)=true
  . rw[if_pos hk,if_pos hk,eY r (L+1) ((n,L)::acc),eY r (L+1) [(n,L)],List.append_assoc];rfl
  . rw[if_neg hk,if_neg hk];exact eY r L acc
theorem ou:∀ {names:List (Str×NameKind)} {L:Nat} {x:Str} {c:Addr},(x,c)∈cellsFrom L names []->(x,NameKind.cell)∈names
 | [],_,_,_,h=>by unfold cellsFrom at h;cases h
 |(n,k)::r,L,x,c,h=>by
  unfold cellsFrom at h;by_cases hk:(k==NameKind.cell)=true
  . rw[if_pos hk,eY]at h;have hk':k= .cell:=by simpa using hk
    subst hk';rcases List.mem_append.mp h with h|h
    . exact List.mem_cons_of_mem _ (ou h)
    . have:(x,c)=(n,L):=by simpa using h
      cases this;exact List.mem_cons_self
  . rw[if_neg hk]at h;exact List.mem_cons_of_mem _ (ou h)
theorem mV:∀ {l1 l2:List (Str×Addr)} {x:Str} {c:Addr},(l1++l2).lookup x=some c->l1.lookup x=some c\/(l1.lookup x=none/\l2.lookup x=some c)
 | [],_,_,_,h=> .inr ⟨rfl,h⟩
 |(n,d)::l1,l2,x,c,h=>by
  rw[List.cons_append,List.lookup_cons]at h;rw[List.lookup_cons];cases hx:x==n with
  |true=>rw[hx]at h;exact .inl h
  |false=>rw[hx]at h;exact mV h
theorem pP:∀ {l1 l2:List (Str×Addr)} {x:Str},l1.lookup x=none->(l1++l2).lookup x=l2.lookup x
 | [],_,_,_=>rfl
 |(n,d)::l1,l2,x,h=>by
  rw[List.lookup_cons]at h;rw[List.cons_append,List.lookup_cons];cases hx:x==n with
  |true=>rw[hx]at h;cases h
  |false=>rw[hx]at h;exact pP h
def jI(scope:Scope)(C:Addr)(cl:List (Str×Addr)):List (Str×Addr):=cellsFrom (C+1) scope.names cl
theorem gp{scope:Scope}{C:Addr}{cl:List (Str×Addr)}{x:Str}{c:Addr}(h:(jI scope C cl).lookup x=some c):(x,c)∈cellsFrom (C+1) scope.names []\/cl.lookup x=some c:=by
 unfold jI at h;rw[eY]at h;rcases mV h with h|h
 . exact .inl (PySem.mem_of_lookup h)
 . exact .inr h.2
theorem GO(names:List (Str×NameKind))(h:Heap){C:Addr}(e:h.objs.size=C+1):CellsOk (pushCells h names) (C+1) (cellsFrom (C+1) names []):=by
 have:=cellsFrom_ok names h (C+1) [] ⟨fun _ _ hm=>(nomatch hm),List.Pairwise.nil⟩ (by rw[e];exact Nat.le_refl _);rw[e]at this;exact this
theorem kL{names:List (Str×NameKind)}{C:Addr}{x:Str}{c:Addr}:∀ {L:Nat},C<=L->(x,c)∈cellsFrom L names []->C<=c:=by
 induction names with
 |nil=>intro L _ h;unfold cellsFrom at h;cases h
 |cons p r ih=>
  obtain⟨n,k⟩:=p;intro L hL h;unfold cellsFrom at h;by_cases hk:(k==NameKind.cell)=true
  . rw[if_pos hk,eY]at h;rcases List.mem_append.mp h with h|h
    . exact ih (Nat.le_trans hL (Nat.le_succ L)) h
    . have:(x,c)=(n,L):=by simpa using h
      cases this;exact hL
  . rw[if_neg hk]at h;exact ih hL h
theorem own_apart{names:List (Str×NameKind)}{x y:Str}{c:Addr}:∀ {L:Nat},(x,c)∈cellsFrom L names []->(y,c)∈cellsFrom L names []->x=y:=by
 induction names with
 |nil=>intro L h;unfold cellsFrom at h;cases h
 |cons p r ih=>
  obtain⟨n,k⟩:=p;intro L h1 h2;unfold cellsFrom at h1 h2;by_cases hk:(k==NameKind.cell)=true
  . rw[if_pos hk,eY]at h1 h2;rcases List.mem_append.mp h1 with g1|g1<;>rcases List.mem_append.mp h2 with g2|g2
    . exact ih g1 g2
    . have e2:(y,c)=(n,L):=by simpa using g2
      have ec:c=L:=(Prod.mk.inj e2).2;have:=kL (C:=L+1) (Nat.le_refl _) g1;rw[ec]at this;exact absurd this (Nat.not_succ_le_self _)
    . have e1:(x,c)=(n,L):=by simpa using g1
      have ec:c=L:=(Prod.mk.inj e1).2;have:=kL (C:=L+1) (Nat.le_refl _) g2;rw[ec]at this;exact absurd this (Nat.not_succ_le_self _)
    . have e1:(x,c)=(n,L):=by simpa using g1
      have e2:(y,c)=(n,L):=by simpa using g2
      exact(Prod.mk.inj e1).1.trans (Prod.mk.inj e2).1.symm
  . rw[if_neg hk]at h1 h2;exact ih h1 h2
theorem qr{M:Model}{A:Around}{E:Value->Shared->Prop}{s:Shared}{scope:Scope}{globals:Addr}{cl:List (Str×Addr)}{qual:Str}{env:Env}{Q:Env->Shared->Prop}
 (hQ:Q (newEnv scope s.heap.objs.size globals (jI scope s.heap.objs.size cl) qual none .none (some env) builtinsNs) {s with heap:=pushCells (s.heap.push {cls:= .type "dict",data:= .dict #[]}) scope.names}):
 wpAny M A (newFunctionEnv scope globals cl [] qual none .none (some env)) Q E s:=by
 simp only[newFunctionEnv,Option.isSome_some,if_true];refine wpAny_bind (wpAny_alloc ?_);refine wpAny_bind (wpAny_layCells _ (fun name kind cells=>by cases hkc:kind==NameKind.cell<;>simp[hkc]) _ _ _ _ ?_);rw[show({s with heap:=s.heap.push {cls:= .type "dict",data:= .dict #[]}}:Shared).heap.objs.size=s.heap.objs.size+1 from Heap.size_push ..];rw[List.forIn_nil];exact wpAny_bind (wpAny_pure (wpAny_pure hQ))
structure a5(X:Cx)(scope:Scope)(Nc:List Str)(fr:List (Option Nat)):Prop where
 kind:scope.kind= .function
 cells:∀x∈scope.names,x.2= .cell->scope.names.lookup x.1=some .cell
 names:∀x∈scope.names,x.2= .local->scope.names.lookup x.1=some .local
 free:∀x∈scope.names,x.2= .free->X.env.kindOf x.1=some .cell\/X.env.kindOf x.1=some .free
 len:fr.length=Nc.length
 map:∀(i j:Nat) (x:Str),Nc[i]?=some x->fr[i]?=some (some j)->X.N[j]?=some x/\scope.names.lookup x=some .free/\(X.env.kindOf x=some .cell\/X.env.kindOf x=some .free)
def σC(fr:List (Option Nat))(σ:St):St:=fr.map fun o=>o.bind fun j=>(σ[j]?).join
def dv(X:Cx)(scope:Scope)(Nc:List Str)(C:Addr)(s:Shared)(H:Hp)(ex:List Addr):Cx:=
 {X with N:=Nc,s₀:=s,H₀:=H,env:=compEnvC scope (jI scope C (cp X.env.cells scope.names [])) C X.env,outer:=X.stack,stack:=X.stack,ex:=ex,fn:=fun x=>scope.names.lookup x==some .cell,pn:=[],xe:=fun _ _=>False}
def pd(wi:TI)(fr:List (Option Nat))(g:TG)(c:TT)(te:TE):TE:=fun σ H Q=>wi σ H fun J H1=>∀l,H1 l=none->
 ∃W:Nat->Nat->L2.St->Hp->Prop,(∃m,W 0 m (σC fr σ) (upd H1 l (.lst [])))/\∀i m σ H,W i m σ H->
  (J.stop i H/\Q (.ref l) H)\/(J.go i H/\∃N:L2.St->Hp->Prop,(∀σ' H',N σ' H'->∃m',m'<m/\W (i+1) m' σ' H')/\∀x H',J.mm i H x H'->
    g x σ H' fun σ2 H2=>c σ2 H2 fun b H3=>if b=true then te σ2 H3 fun y H4=>∃ys,H4 l=some (.lst ys)/\ys.length<sizeLine/\N σ2 (upd H4 l (.lst (ys++[y])))else N σ2 H3)
def nE(X:Cx)(ifs:List Expr)(t:TT):Prop:=
 ∀(pins:List (Addr×Obj)) (s:Shared) (σ:St) (H:Hp) (Q:Bool->Hp->Prop),Inv X pins σ H s->t σ H Q->
  wpAny (model X.prog X.w) X.A (forIn ifs true fun c r=>if r=true then do let ok <-isTrue c X.env (eval c X.env);pure (ForInStep.yield ok)else pure (ForInStep.yield r)) (TP X pins σ Q) X.xe s
def Jg:TT:=fun _ H Q=>Q true H
theorem ET{X:Cx}:nE X [] Jg:=fun _ _ _ H _ I h=>wpAny_tests_nil ⟨H,I,h⟩
theorem D0{X:Cx}{c:Expr}{t:TT}(h:PT X c t):nE X [c] t:=fun pins s σ H Q I q=>wpAny_tests_one (h pins s σ H Q I q)
section
variable {X:Cx}{scope:Scope}{Nc:List Str}{fr:List (Option Nat)}{pins:List (Addr×Obj)}{σ:St}{H:Hp}{s:Shared}
theorem FU{C:Addr}{fp:List Addr}(S:a5 X scope Nc fr)(I:Inv X pins σ H s)(hC:C=s.heap.objs.size)(hf:∀b∈fp,i3 X pins H b)(hlt:∀b∈fp,b<s.heap.objs.size)(hnc:∀b∈fp,∀x c,X.env.cells.lookup x=some c->c≠b):
 (dv X scope Nc C s H fp).Ok where
 mod:=I.ok.mod
 kind:=S.kind
 glob:=I.ok.glob
 blt:=I.ok.blt
 above:=Nat.le_of_eq hC.symm
 inj:=fun x y c h1 h2=>by
  have low:∀ {z},(cp X.env.cells scope.names []).lookup z=some c->c<s.heap.objs.size:=fun{z} hz=>by
   obtain⟨v,q⟩:=I.cell z c (bW _ [] (fun _ _ e=>by cases e) z c hz);exact q.lt
  rcases gp h1 with h1|h1<;>rcases gp h2 with h2|h2
  . exact own_apart h1 h2
  . have a:=kL (C:=C+1) (Nat.le_refl _) h1;have b:c<C:=by rw[hC];exact low h2
    exact absurd a (Nat.not_le_of_gt (Nat.lt_succ_of_lt b))
  . have a:=kL (C:=C+1) (Nat.le_refl _) h2;have b:c<C:=by rw[hC];exact low h1
    exact absurd a (Nat.not_le_of_gt (Nat.lt_succ_of_lt b))
  . exact I.ok.inj x y c (bW _ [] (fun _ _ e=>by cases e) x c h1) (bW _ [] (fun _ _ e=>by cases e) y c h2)
 has:=fun x hx=>by
  rcases uN hx with m|m
  . obtain⟨c,e⟩:=gz scope.names [] (I.ok.has x (S.free _ m rfl)) (.inl m);exact Option.isSome_iff_exists.mp (PySem.W.cellsFrom_some _ _ _ (.inr (by rw[e];rfl)))
  . exact Option.isSome_iff_exists.mp (PySem.W.cellsFrom_some _ _ _ (.inl m))
 tu:=fun x c hf h=>by
  have hl:scope.names.lookup x=some .cell:=by
   have:(scope.names.lookup x==some .cell)=true:=hf;simpa using this
  obtain⟨c',e⟩:=Option.isSome_iff_exists.mp (PySem.W.cellsFrom_some (x:=x) scope.names (C+1) [] (.inl hl))
  have h':(cellsFrom (C+1) scope.names []++cp X.env.cells scope.names []).lookup x=some c:=by
   rw[<-eY];exact h
  rcases mV h' with q|q
  . have:=kL (C:=C+1) (Nat.le_refl _) (PySem.mem_of_lookup q);show s.heap.objs.size<=c;rw[<-hC];exact Nat.le_of_succ_le this
  . rw[q.1]at e;cases e
 hd:=I.ok.hd
 frames:=I.ok.frames
 vJ:= .inl rfl
 xk:=fun b hb=>⟨by rw[show(dv X scope Nc C s H fp).env.locals=s.heap.objs.size from hC];exact Nat.ne_of_lt (hlt b hb),fun x c h=>by
  rcases gp h with h|h
  . have a:=kL (C:=C+1) (Nat.le_refl _) h;have b':b<C:=by rw[hC];exact hlt b hb
    exact Nat.ne_of_gt (Nat.lt_of_lt_of_le b' (Nat.le_of_succ_le a))
  . exact hnc b hb x c (bW _ [] (fun _ _ e=>by cases e) x c h)⟩
 bs:=I.bs
 nq:=Nat.le_trans I.ok.nq I.sz
 nQ:=fun b o e hb=>by
  have hn:=(hf b hb).2.2.2.1;rcases hn with hn|hn
  . exact I.ok.nQ b o e hn
  . exact absurd (Heap.lt_size (I.ok.bs b o e).1) (Nat.not_lt.mpr hn)
 oi:=fun b hb z=>by
  have q:=I.ve b z;rcases List.mem_cons.mp q with q|q
  . exact(hf b hb).2.1 q
  . exact(hf b hb).2.2.1 q
 gX:=I.stack
 oo:=fun b hb=>I.mx b hb
 gt:=I.ok.gt
theorem xy{i:Nat}{v:V}(h:(σC fr σ)[i]?=some (some v)):∃j,fr[i]?=some (some j)/\σ[j]?=some (some v):=by
 unfold σC at h;rw[List.getElem?_map]at h;cases q:fr[i]? with
 |none=>rw[q]at h;cases h
 |some o=>
  rw[q]at h;cases o with
  |none=>simp at h
  |some j=>
   simp only[Option.map_some,Option.some.injEq,Option.bind_some]at h;refine⟨j,rfl,?_⟩;cases r:σ[j]? with
   |none=>rw[r]at h;cases h
   |some u=>rw[r]at h;simp at h;rw[h]
theorem BV{s':Shared}{h':Heap}{C:Addr}{fp:List Addr}{t':Nat}(S:a5 X scope Nc fr)(I:Inv X pins σ H s)(hC:C=s.heap.objs.size)(ok:(dv X scope Nc C s H fp).Ok)(hfr:∀b∈fp,H b=none)
 (k:∀b o,s.heap.get? b=some o->h'.get? b=some o) (hn:h'.Ns C (fun _=>none)) (hcs:∀x c,(x,c)∈cellsFrom (C+1) scope.names []->h'.IsCell c none):Inv (dv X scope Nc C s H fp) [] (σC fr σ) H {s with heap:=h',toks:=t'} where
 ok:=ok
 os:=rfl
 bare:=I.bare
 base:=Un.kept k
 loc:=⟨_,hn,fun i x v h1 h2 h3=>by
  obtain⟨j,q1,q2⟩:=xy h2;obtain⟨n1,n2,n3⟩:=S.map i j x h1 q1;obtain⟨m,hm,hl⟩:=I.loc
  have vis:tL X.env.scope x:=by
   rcases n3 with z|z
   . exact .inr (.inl z)
   . exact .inr (.inr z)
  obtain⟨u,r,lk⟩:=hl j x v n1 q2 vis;refine⟨u,r,?_⟩;rcases lk with⟨z,_⟩|⟨z,c,e,ic⟩
  . rcases n3 with y|y
    . rw[y]at z;cases z
    . rw[y]at z;cases z
  . refine .inr ⟨vf n2,?_⟩;obtain⟨c',e'⟩:=gz scope.names [] ⟨c,e⟩ (.inl (PySem.mem_of_lookup n2));have e2:=bW _ [] (fun _ _ e=>by cases e) x c' e';rw[e]at e2;cases e2;refine⟨c,?_,ic.keeps k⟩;show(jI scope C (cp X.env.cells scope.names [])).lookup x=some c;unfold jI;rw[eY,pP ?_]
    . exact e'
    . cases q:(cellsFrom (C+1) scope.names []).lookup x with
      |none=>rfl
      |some c2=>
       have:=S.cells _ (ou (PySem.mem_of_lookup q)) rfl;rw[n2]at this;cases this⟩
 cell:=fun x c h=>by
  rcases gp h with h|h
  . exact⟨_,hcs x c h⟩
  obtain⟨v,q⟩:=I.cell x c (bW _ [] (fun _ _ e=>by cases e) x c h);exact⟨v,q.keeps k⟩
 free:=by show H C=none;rw[hC];exact I.aB.fresh (Nat.le_refl _)
 eS:=fun x c h=>by
  rcases gp h with h|h
  . have a:=kL (C:=C+1) (Nat.le_refl _) h;exact I.aB.fresh (by rw[<-hC];exact Nat.le_of_succ_le a)
  . exact I.eS x c (bW _ [] (fun _ _ e=>by cases e) x c h)
 pin:=fun p hp=>by cases hp
 aB:=I.aB.kept k
 len:=by unfold σC;rw[List.length_map];exact S.len
theorem Inv.forget{C:Addr}{h':Heap}(I:Inv X pins σ H s)(f:i3 X pins H C)(hs:Heap.SameBut C s.heap h'):Inv X pins σ H {s with heap:=h'}:=by
 refine I.uD (s':={s with heap:=h'}) (ch:=[C]) rfl ?_ ?_ I.bare fun b hb=>?_
 . have ne:∀b,b∉[C]->b≠C:=fun b hb z=>hb (by simp[z]);exact{keep:=fun b o q _ _ hx=>(hs.2 b (ne b hx)).trans q,slot:=fun b o q _ _ hx=>⟨o.slots,(hs.2 b (ne b hx)).trans q⟩,free:=fun b o q n _=>n,there:=fun b o q hx=>⟨o,(hs.2 b (ne b hx)).trans q⟩,iQ:=fun _ _ e=>e,iq:=fun _ _ _ e=>e,hJ:=fun b ps e=>⟨#[],by rw[e];simp⟩}
 . intro a o q;have na:∀b u,H b=some u->b≠C:=fun b u q z=>by rw[z,f.1]at q;cases q
   refine(I.aB a o q).jS (fun b u hb e=>?_) (fun _ q=>q) fun _ _ q=>q;rw[hs.2 b ?_]
   . exact e
   . rcases hb with rfl|hb
     . exact na _ _ q
     . exact na _ _ hb
 . have:b=C:=by simpa using hb
   subst this;exact⟨f.2.2.2.1,f.2.1,f.2.2.2.2.1,f.2.2.2.2.2⟩
theorem rp{elt tg iter:Expr}{ifs:List Expr}{wi:TI}{g:TG}{c:TT}{te:TE}{pos:Pos}{Q:VK}{RR:Value->Addr->Result->Shared->Prop}(hx:X.xe=fun _ _=>False)(hc:X.calm=true)(S:a5 X scope Nc fr)(hi:PI X tg iter wi)
 (hg:∀C s H ex,PG (dv X scope Nc C s H ex) tg g) (ht:∀C s H ex,nE (dv X scope Nc C s H ex) ifs c) (he:∀C s H ex,PE (dv X scope Nc C s H ex) elt te) (I:Inv X pins σ H s) (h:pd wi fr g c te σ H Q)
 (fin:∀(l C:Addr) (s6:Shared) (H5:Hp) (m:Str->Option Value),s6.heap.Ns C m->i3 X pins H5 C->Inv X pins σ H5 s6->Q (.ref l) H5->RR (.ref l) C (.ok .next) s6):
 wpAny (model X.prog X.w) X.A (eval iter X.env) (fun x s₁=>wpAny (model X.prog X.w) X.A (pyIter x) (fun it s₂=>wpAny (model X.prog X.w) X.A (newList []) (fun acc s₃=>
  wpAny (model X.prog X.w) X.A (newFunctionEnv scope X.env.globals (cp X.env.cells scope.names []) [] X.env.qual none .none (some X.env)) (fun cenv s₄=>
   codeAny (model X.prog X.w) X.A (.compStart (.ListComp elt [⟨tg,iter,ifs,0⟩] scope pos) 0 it acc {cenv with scope:=relabel scope X.env}) (RR acc cenv.locals) s₄) X.xe s₃) X.xe s₂) X.xe s₁) X.xe s:=by
 refine bp (hi pins s σ H _ I h) fun v s1 h1=>bp h1 fun itv s2 h2=>?_;obtain⟨it,fp,tn,J,H2,e,I2,T,st2,f2,hR⟩:=h2;subst e;refine wpAny_newList ?_ (Nat.zero_le _);have I3:=I2.BS (t':=s2.toks) (its:=[]) (ys:=[]) .nil (Nat.zero_le _);generalize e3:({s2 with heap:=s2.heap.push {cls:= .type "list",data:= .seq ([]:List Value).toArray}}:Shared)=s3;have I3:Inv X pins σ (upd H2 s2.heap.objs.size (.lst [])) s3:=by rw[<-e3];exact I3
 have ml:s2.heap.objs.size<s3.heap.objs.size:=by rw[<-e3];show _<(s2.heap.push _).objs.size;rw[Heap.size_push];omega
 have k3:∀b o,s2.heap.get? b=some o->s3.heap.get? b=some o:=fun b o q=>by rw[<-e3];exact Heap.get?_push_of_some _ q
 obtain⟨W,⟨m0,w0⟩,turn⟩:=hR s2.heap.objs.size (I2.aB.fresh (Nat.le_refl _));refine qr ?_;have hn:(pushCells (s3.heap.push {cls:= .type "dict",data:= .dict #[]}) scope.names).Ns s3.heap.objs.size (fun _=>none):=(Heap.Ns.new s3.heap (.type "dict")).keeps (pushCells_keeps _ _);have hcs:∀x c,(x,c)∈cellsFrom (s3.heap.objs.size+1) scope.names []->(pushCells (s3.heap.push {cls:= .type "dict",data:= .dict #[]}) scope.names).IsCell c none:=fun x c h=>((GO scope.names _ (Heap.size_push ..)).empty x c h).1;have k4:∀b o,s3.heap.get? b=some o->(pushCells (s3.heap.push {cls:= .type "dict",data:= .dict #[]}) scope.names).get? b=some o:=fun b o q=>pushCells_keeps _ _ b o (Heap.get?_push_of_some _ q);generalize(pushCells (s3.heap.push {cls:= .type "dict",data:= .dict #[]}) scope.names)=h' at hn hcs k4⊢;have hobj:∀b∈fp,∃o,s2.heap.get? b=some o/\∀v,o.data≠ .cell v:=T.obj _ _ st2;have hlt2:∀b∈fp,b<s3.heap.objs.size:=fun b hb=>let⟨o,q,_⟩:=hobj b hb;Heap.lt_size (k3 b o q)
 have hnl:∀b∈fp,b≠s2.heap.objs.size:=fun b hb=>by
  obtain⟨o,q,_⟩:=hobj b hb;exact Nat.ne_of_lt (Heap.lt_size q)
 have f3:∀b∈fp,i3 X pins (upd H2 s2.heap.objs.size (.lst [])) b:=fun b hb=>⟨by rw[az (hnl b hb)];exact(f2 b hb).1,(f2 b hb).2⟩
 have ok:=FU (C:=s3.heap.objs.size) (fp:=fp) S I3 rfl f3 hlt2 fun b hb=>(f2 b hb).2.2.2.2.1
 have I4:Inv (dv X scope Nc s3.heap.objs.size s3 (upd H2 s2.heap.objs.size (.lst [])) fp) [] (σC fr σ) (upd H2 s2.heap.objs.size (.lst [])) {s3 with heap:=h',toks:=s3.toks}:=
  BV (s':=s3) S I3 rfl ok (fun b hb=>(f3 b hb).1) k4 hn hcs
 have st4:tn 0 h':=T.keep _ _ _ st2 fun b _ o q=>k4 b o (k3 b o q);generalize hXc:dv X scope Nc s3.heap.objs.size s3 (upd H2 s2.heap.objs.size (.lst [])) fp=Xc at I4;have hgc:PG Xc tg g:=by rw[<-hXc];exact hg _ _ _ _
 have htc:nE Xc ifs c:=by rw[<-hXc];exact ht _ _ _ _
 have hec:PE Xc elt te:=by rw[<-hXc];exact he _ _ _ _
 have xP:Xc.prog=X.prog:=by rw[<-hXc];rfl
 have xW:Xc.w=X.w:=by rw[<-hXc];rfl
 have xK:Xc.K=X.K:=by rw[<-hXc];rfl
 have xc:Xc.calm=true:=by rw[<-hXc];exact hc
 have xA:Xc.A=X.A:=by rw[<-hXc];rfl
 have xE:Xc.env=compEnvC scope (jI scope s3.heap.objs.size (cp X.env.cells scope.names [])) s3.heap.objs.size X.env:=by rw[<-hXc];rfl
 have xx:Xc.xe=fun _ _=>False:=by rw[<-hXc];rfl
 have fpc:∀ {H':Hp},(∀b∈fp,H' b=none)->∀b∈fp,i3 Xc [] H' b:=fun{H'} hn b hb=>by
  rw[<-hXc];refine⟨hn b hb,Nat.ne_of_lt (hlt2 b hb),ok.oi b hb,.inl hb,(ok.xk b hb).2,fun p hp=>by cases hp⟩
 have loop:codeAny (model X.prog X.w) X.A (.compLoop (.ListComp elt [⟨tg,iter,ifs,0⟩] scope pos) 0 (.ref it) (.ref s2.heap.objs.size) (compEnvC scope (jI scope s3.heap.objs.size (cp X.env.cells scope.names [])) s3.heap.objs.size X.env))
  (RR (.ref s2.heap.objs.size) s3.heap.objs.size) {s3 with heap:=h',toks:=s3.toks}:=by
  refine wR (fun n s'=>∃i σ' H',Inv Xc [] σ' H' s'/\tn i s'.heap/\(∀b∈fp,H' b=none)/\W i n σ' H') ?_ m0 ⟨0,_,_,I4,st4,fun b hb=>(f3 b hb).1,w0⟩;rintro n s5 ⟨i,σ5,H5,I5,st5,fr5,w5⟩;rcases turn i n σ5 H5 w5 with⟨stop,qn⟩|⟨go,N,hN,step⟩
  . have q:=T.done Xc xP xW xK xc i [] s5 σ5 H5 (fun _ _=>False) I5 (fpc fr5) st5 stop;rw[xA]at q;refine bp q fun r s6 ⟨hr,I6⟩=>?_;subst hr;obtain⟨m,hm,_⟩:=I6.loc;rw[xE]at hm;have free6:H5 s3.heap.objs.size=none:=by have:=I6.free;rw[xE]at this;exact this
    have un6:Un (fF X.stack) fp (upd H2 s2.heap.objs.size (.lst [])) H5 s3.heap s6.heap:=by have:=I6.base;rw[<-hXc]at this;exact this
    have os6:s6.os=s3.os:=by have:=I6.os;rw[<-hXc]at this;exact this
    have hok6:eA X.prog X.w H5 s6.heap:=by have:=I6.aB;rw[xP,xW]at this;exact this
    have J:=I3.uD (s':=s6) (ch:=fp) os6 un6 hok6 I6.bare fun b hb=>⟨(f3 b hb).2.2.2.1,(f3 b hb).2.1,(f3 b hb).2.2.2.2.1,(f3 b hb).2.2.2.2.2⟩
    exact fin _ _ s6 H5 m hm (I3.su (Nat.le_refl _) free6) J qn
  . have q:=T.item Xc xP xW xK xc i [] s5 σ5 H5 (fun _ _=>False) I5 (fpc fr5) st5 go;rw[xA]at q;refine bp q fun r s6 ⟨u,hr,h6⟩=>?_;subst hr;refine bp h6 fun _ s7 ⟨x,H7,I7,r7,y7,st7,fr7⟩=>?_;have I7':=I7.pinned (fpc fr7) (T.obj _ _ st7);have q8:=hgc _ s7 σ5 H7 x u _ I7' r7 (step x H7 y7);rw[xP,xW,xA,xE,xx]at q8;refine bp q8 fun _ s8 ⟨σ8,H8,I8,q8⟩=>?_;have q9:=htc _ s8 σ8 H8 _ I8 q8;rw[xP,xW,xA,xE,xx]at q9;refine bp q9 fun b s9 ⟨H9,I9,q9⟩=>?_
    have again:∀ {H':Hp} {s':Shared},Inv Xc ([]++nB fp s7.heap) σ8 H' s'->N σ8 H'->∃m,m<n/\∃i σ' H',Inv Xc [] σ' H' s'/\tn i s'.heap/\(∀b∈fp,H' b=none)/\W i m σ' H':=fun{H' s'} J nn=>by
     obtain⟨m',hm,w7⟩:=hN σ8 H' nn;refine⟨m',hm,i+1,σ8,H',J.fH,T.keep _ _ _ st7 fun b hb o e=>(J.pin (b,o) (List.mem_append_right _ (List.mem_append_right _ (jY hb e)))).1,fun b hb=>?_,w7⟩;obtain⟨o,e,d⟩:=T.obj _ _ st7 b hb;exact(J.pin (b,o) (List.mem_append_right _ (List.mem_append_right _ (jY hb e)))).2.1
    cases b with
    |false=>exact again I9 q9
    |true=>
     have qe:=hec _ s9 σ8 H9 _ I9 q9;rw[xP,xW,xA,xE,xx]at qe;refine bp qe fun y s10 ⟨vy,H10,I10,ry,ys,hy,hlt,qN⟩=>?_;have qa:=tf (X:=Xc) _ s10 σ8 H10 (.ref s2.heap.objs.size) [vy] (.ref s2.heap.objs.size) [y] (fun _ H'=>N σ8 H') I10 rfl (.cons ry .nil) ⟨_,ys,vy,rfl,rfl,hy,hlt,qN⟩;rw[xP,xW,xA,xx]at qa;exact bp qa fun _ s11 ⟨_,H11,I11,_,q11⟩=>again I11 q11
 refine codeAny_compStart_list ?_ ?_
 . exact loop
 . exact T.self _ 0 _ _ _ st4 loop
theorem xh{elt tg iter:Expr}{ifs:List Expr}{wi:TI}{g:TG}{c:TT}{te:TE}{pos:Pos}(hx:X.xe=fun _ _=>False)(hc:X.calm=true)(S:a5 X scope Nc fr)(hi:PI X tg iter wi)
 (hg:∀C s H ex,PG (dv X scope Nc C s H ex) tg g) (ht:∀C s H ex,nE (dv X scope Nc C s H ex) ifs c) (he:∀C s H ex,PE (dv X scope Nc C s H ex) elt te)
 (hs:∀x,foldedSetIterable iter X.env x=pure x:=by intro _;rfl):PE X (.ListComp elt [⟨tg,iter,ifs,0⟩] scope pos) (pd wi fr g c te):=by
 intro pins s σ H Q I h;rw[eval_ListComp];have hcl:closureFor scope X.env=pure (cp X.env.cells scope.names []):=jT fun x hx hk=>I.ok.has x.1 (S.free x hx hk);refine wpAny_comprehension_free rfl hs hcl S.kind S.names ?_;exact rp (RR:=fun acc C=>compPost (model X.prog X.w) X.A X.xe none (EP X pins σ Q) acc C) hx hc S hi hg ht he I h fun l C s6 H5 m hm f J q=>⟨m,hm,fun h'' hs''=>⟨.ref l,H5,Inv.forget J f hs'',rfl,q⟩⟩
theorem xo{elt tg iter:Expr}{ifs:List Expr}{wi:TI}{g:TG}{c:TT}{te:TE}{pos pos' spos:Pos}{i:Nat}{x:Str}(hx:X.xe=fun _ _=>False)(hc:X.calm=true)(S:a5 X scope Nc fr)(hi:PI X tg iter wi)
 (hg:∀C s H ex,PG (dv X scope Nc C s H ex) tg g) (ht:∀C s H ex,nE (dv X scope Nc C s H ex) ifs c) (he:∀C s H ex,PE (dv X scope Nc C s H ex) elt te) (hN:X.N.Nodup) (hni:X.N[i]?=some x) (hl:Loc X.env.scope x) (hf:X.fn x=true\/X.env.scope.names.lookup x=some .local)
 (hsw:swapsWith (.ListComp elt [⟨tg,iter,ifs,0⟩] scope pos) (some (.Name x pos')) spos.line X.env=pure true)
 (hs:∀x,foldedSetIterable iter X.env x=pure x:=by intro _;rfl):PS X (.Assign [.Name x pos'] (.ListComp elt [⟨tg,iter,ifs,0⟩] scope pos) spos) (hZ (pd wi fr g c te) (gF i)):=by
 intro pins s σ H D I h;have hcl:closureFor scope X.env=pure (cp X.env.cells scope.names []):=jT fun x hx hk=>I.ok.has x.1 (S.free x hx hk);rw[exec_Assign_Name_used _ _ _ _ hsw];refine wpAny_bind (wpAny_standAt (wpAny_bind ?_));show wpAny _ X.A (do let _ <-comprehension (.ListComp elt [⟨tg,iter,ifs,0⟩] scope pos) scope X.env _ (newList []) false (eval iter X.env) (some (assign (.Name x pos') X.env))) _ _ s
 refine wpAny_bind (wpAny_mono (wpAny_comprehension_free (use:=some (assign (.Name x pos') X.env)) (Q:=fun _ s'=>SP X pins D .next s') rfl hs hcl S.kind S.names
  (rp (RR:=fun acc C=>compPost (model X.prog X.w) X.A X.xe (some (assign (.Name x pos') X.env)) (fun _ s'=>SP X pins D .next s') acc C) hx hc S hi hg ht he I h fun l C s6 H5 m hm f J q=>?_)) (fun _ s' hq=>wpAny_pure (wpAny_pure hq)) fun _ _ e=>e)
 show wpAny _ X.A (assign (.Name x pos') X.env (.ref l)) _ _ _;refine wpAny_assign_Name (tI J hN hni hl (show RelV (.ref l) (.ref l)from rfl) (fun s7 J7 hch=>?_) hf);obtain⟨a,hsame,ha⟩:=hch
 have hCa:C≠a:=by
  rcases ha with rfl|ha
  . exact f.2.1
  . exact fun z=>f.2.2.2.2.1 x a ha z.symm
 refine⟨m,hm.sameBut hsame hCa,fun h'' hs''=>⟨σ.set i (some (.ref l)),H5,Inv.forget J7 f hs'',q⟩⟩
end
inductive D where
 |aC|bl (b:Bool)|int (i:Int)|str (x:Str)|ty (n:String)|ref (n:Nat)|lst (xs:List D)|tup (xs:List D)
inductive Cell where
 |lst (xs:List D)|ins (C:Addr) (fs:List (Str×D))|dead
  |tab (P:Addr) (pos:Pos) (qual:Str) (b:Bool)
abbrev ag:=List Cell
abbrev a_:=List (Option D)
mutual
def Rep(α:List (Option Addr))(H:Hp):D->V->Prop
 | .aC,v=>v= .aC
 | .bl b,v=>v= .bl b
 | .int i,v=>v= .int i
 | .str x,v=>v= .str x
 | .ty n,v=>v= .ty n
 | .ref n,v=>α[n]?=some none\/∃a,α[n]?=some (some a)/\v= .ref a
 | .lst xs,v=>∃a vs,v= .ref a/\some a∉α/\Rd H a (.lst vs)/\aG α H xs vs
 | .tup xs,v=>∃a vs,v= .ref a/\some a∉α/\H a=some (.tup vs)/\aG α H xs vs
def aG(α:List (Option Addr))(H:Hp):List D->List V->Prop
 | [],vs=>vs=[]
 |d::ds,vs=>∃v r,vs=v::r/\Rep α H d v/\aG α H ds r
end
theorem aI{α:List (Option Addr)}{H:Hp}:∀ {ds:List D} {vs:List V},aG α H ds vs↔Paired (Rep α H) ds vs
 | [],vs=>by
   unfold aG;constructor
   . rintro rfl;exact .nil
   . intro h;cases h;rfl
 |d::ds,vs=>by
  unfold aG;constructor
  . rintro⟨v,r,rfl,h1,h2⟩;exact .cons h1 (aI.mp h2)
  . intro h;cases h with|cons h1 h2=>exact⟨_,_,rfl,h1,aI.mpr h2⟩
section
variable {α:List (Option Addr)}{H:Hp}
theorem aG.length{ds:List D}{vs:List V}(h:aG α H ds vs):ds.length=vs.length:=Paired.length (aI.mp h)
theorem rg{A B:Type}{F:A->B->Prop}:∀ {xs:List A} {ys:List B} {i:Nat} {x:A},Paired F xs ys->xs[i]?=some x->∃y,ys[i]?=some y/\F x y
 |_,_,_,_,.nil,e=>by simp at e
 |_,_,0,_,.cons r _,e=>by simp at e;subst e;exact⟨_,rfl,r⟩
 |_,_,i+1,x,.cons _ t,e=>by
  obtain⟨u,h1,h2⟩:=rg (i:=i) (x:=x) t (by simpa using e);exact⟨u,by simpa using h1,h2⟩
theorem dE{A B:Type}{F:A->B->Prop}:∀ {xs xs':List A} {ys ys':List B},Paired F xs ys->Paired F xs' ys'->Paired F (xs++xs') (ys++ys')
 |_,_,_,_,.nil,s=>s
 |_,_,_,_,.cons r t,s=> .cons r (dE t s)
theorem pQ{A B:Type}{F:A->B->Prop}:∀ {xs:List A} {ys:List B} (n:Nat),Paired F xs ys->Paired F (xs.take n) (ys.take n)
 |_,_,0,_=> .nil
 |_,_,_+1,.nil=> .nil
 |_,_,n+1,.cons r t=> .cons r (pQ n t)
theorem pH{A B:Type}{F:A->B->Prop}:∀ {xs:List A} {ys:List B} (n:Nat),Paired F xs ys->Paired F (xs.drop n) (ys.drop n)
 |_,_,0,r=>r
 |_,_,_+1,.nil=> .nil
 |_,_,n+1,.cons _ t=>pH n t
theorem mR{A B:Type}{F:A->B->Prop}{x:A}{y:B}(r:F x y):∀ {xs:List A} {ys:List B} (i:Nat),Paired F xs ys->Paired F (xs.set i x) (ys.set i y)
 |_,_,_,.nil=> .nil
 |_,_,0,.cons _ t=> .cons r t
 |_,_,i+1,.cons q t=> .cons q (mR r i t)
theorem ju{A B:Type}{F:A->B->Prop}{xs:List A}{ys:List B}(h:Paired F xs ys):∀k:Nat,Paired F (List.replicate k xs).flatten (List.replicate k ys).flatten
 |0=> .nil
 |k+1=>by
  rw[List.replicate_succ,List.replicate_succ,List.flatten_cons,List.flatten_cons];exact dE h (ju h k)
theorem aG.get{ds:List D}{vs:List V}{i:Nat}{d:D}(h:aG α H ds vs)(e:ds[i]?=some d):∃v,vs[i]?=some v/\Rep α H d v:=rg (aI.mp h) e
end
structure Step(α:List (Option Addr))(H:Hp)(α':List (Option Addr))(H':Hp):Prop where
 ext:∀b o,some b∉α->H b=some o->H' b=some o
 pre:∀(n:Nat) (x:Option Addr),α[n]?=some x->α'[n]?=some x\/α'[n]?=some none
 new:∀b,some b∈α'->some b∉α->H b=none
theorem Step.refl{α:List (Option Addr)}{H:Hp}:Step α H α H:=⟨fun _ _ _ h=>h,fun _ _ h=> .inl h,fun _ h n=>absurd h n⟩
theorem Step.trans{α α1 α2:List (Option Addr)}{H H1 H2:Hp}(a:Step α H α1 H1)(b:Step α1 H1 α2 H2):Step α H α2 H2 where
 ext:=fun c o hc e=>b.ext c o (fun z=>by rw[a.new c z hc]at e;cases e) (a.ext c o hc e)
 pre:=fun n x e=>by
  rcases a.pre n x e with h|h
  . exact b.pre n x h
  . rcases b.pre n none h with h'|h'
    . exact .inr h'
    . exact .inr h'
 new:=fun c hc n=>by
  by_cases h1:some c∈α1
  . exact a.new c h1 n
  . have:=b.new c hc h1;cases q:H c with
    |none=>rfl
    |some o=>rw[a.ext c o n q]at this;cases this
theorem Step.laid{α:List (Option Addr)}{H:Hp}{p:Addr}{o:HO}(h:H p=none):Step α H α (upd H p o):=
 ⟨fun b u _ e=>by rw[az (cv e h)];exact e,fun _ _ h=> .inl h,fun _ h n=>absurd h n⟩
theorem Step.cell{α:List (Option Addr)}{H:Hp}{p:Addr}{o:HO}(h:H p=none):Step α H (α++[some p]) (upd H p o):=
 ⟨fun b u _ e=>by rw[az (cv e h)];exact e,fun n x e=> .inl (by rw[List.getElem?_append_left (List.getElem?_eq_some_iff.mp e).1];exact e),fun b hb n=>by
  rcases List.mem_append.mp hb with z|z
  . exact absurd z n
  . have:b=p:=by simpa using z
    subst this;exact h⟩
theorem Step.write{α:List (Option Addr)}{H:Hp}{p:Addr}{o:HO}(h:some p∈α):Step α H α (upd H p o):=
 ⟨fun b u n e=>by rw[az (fun z=>by subst z;exact n h)];exact e,fun _ _ h=> .inl h,fun _ h n=>absurd h n⟩
mutual
theorem Rep.step{α α':List (Option Addr)}{H H':Hp}(s:Step α H α' H'):∀ {d:D} {v:V},Rep α H d v->Rep α' H' d v
 | .aC,_,h=>by unfold Rep at h⊢;exact h
 | .bl _,_,h=>by unfold Rep at h⊢;exact h
 | .int _,_,h=>by unfold Rep at h⊢;exact h
 | .str _,_,h=>by unfold Rep at h⊢;exact h
 | .ty _,_,h=>by unfold Rep at h⊢;exact h
 | .ref n,_,h=>by
   unfold Rep at h⊢;rcases h with h|⟨a,e,r⟩
   . rcases s.pre _ _ h with z|z<;>exact .inl z
   . rcases s.pre _ _ e with z|z
     . exact .inr ⟨a,z,r⟩
     . exact .inl z
 | .lst xs,_,h=>by
   unfold Rep at h⊢;obtain⟨a,vs,e,n,r,q⟩:=h;refine⟨a,vs,e,fun z=>?_,?_,aG.step s q⟩
   . have:=s.new a z n;rcases r with r|⟨o,r⟩<;>(rw[this]at r;cases r)
   . rcases r with r|⟨o,r⟩
     . exact .inl (s.ext _ _ n r)
     . exact .inr ⟨o,s.ext _ _ n r⟩
 | .tup xs,_,h=>by
   unfold Rep at h⊢;obtain⟨a,vs,e,n,r,q⟩:=h;exact⟨a,vs,e,(fun z=>by rw[s.new a z n]at r;exact nomatch r),s.ext _ _ n r,aG.step s q⟩
theorem aG.step{α α':List (Option Addr)}{H H':Hp}(s:Step α H α' H'):∀ {ds:List D} {vs:List V},aG α H ds vs->aG α' H' ds vs
 | [],_,h=>by unfold aG at h⊢;exact h
 |d::ds,_,h=>by
  unfold aG at h⊢;obtain⟨v,r,e,h1,h2⟩:=h;exact⟨v,r,e,Rep.step s h1,aG.step s h2⟩
end
structure bj(G F H:Hp):Prop where
 eq:∀b,H b=(G b).or (F b)
 u5:∀b o,G b=some o->F b=none
section
variable {G F H:Hp}
theorem bj.get(P:bj G F H){b:Addr}{o:HO}(h:G b=some o):H b=some o:=by rw[P.eq b,h];rfl
theorem bj.same(P:bj G F H):CH G H:=fun _ _ h=>P.get h
theorem bj.none(P:bj G F H){b:Addr}(h:H b=none):G b=none/\F b=none:=by
 have e:=P.eq b;rw[h]at e;cases q:G b with
 |none=>rw[q]at e;exact⟨rfl,e.symm⟩
 |some o=>rw[q]at e;cases e
theorem bj.frame(P:bj G F H){b:Addr}{o:HO}(h:F b=some o):H b=some o/\G b=Option.none:=by
 have hn:G b=Option.none:=by
  cases q:G b with
  |none=>rfl
  |some u=>rw[P.u5 b u q]at h;cases h
 exact⟨by rw[P.eq b,hn,h];rfl,hn⟩
theorem bj.laid(P:bj G F H){p:Addr}{o:HO}(h:H p=Option.none):bj (upd G p o) F (upd H p o):=by
 obtain⟨h1,h2⟩:=P.none h;refine⟨fun b=>?_,fun b u e=>?_⟩
 . by_cases hb:b=p
   . subst hb;rw[aK,aK];rfl
   . rw[az hb,az hb];exact P.eq b
 . by_cases hb:b=p
   . subst hb;exact h2
   . rw[az hb]at e;exact P.u5 b u e
theorem bj.write(P:bj G F H){p:Addr}{o o':HO}(h:G p=some o):bj (upd G p o') F (upd H p o'):=by
 refine⟨fun b=>?_,fun b u e=>?_⟩
 . by_cases hb:b=p
   . subst hb;rw[aK,aK];rfl
   . rw[az hb,az hb];exact P.eq b
 . by_cases hb:b=p
   . subst hb;exact P.u5 b o h
   . rw[az hb]at e;exact P.u5 b u e
theorem bj.hide(P:bj G F H){p:Addr}{o:HO}(h:H p=Option.none):bj G (upd F p o) (upd H p o):=by
 obtain⟨h1,h2⟩:=P.none h;refine⟨fun b=>?_,fun b u e=>?_⟩
 . by_cases hb:b=p
   . subst hb;rw[aK,aK,h1];rfl
   . rw[az hb,az hb];exact P.eq b
 . by_cases hb:b=p
   . subst hb;rw[h1]at e;cases e
   . rw[az hb];exact P.u5 b u e
theorem bj.Lj(P:bj G F H){p:Addr}{o o':HO}(h:F p=some o):bj G (upd F p o') (upd H p o'):=by
 have h1:=(P.frame h).2;refine⟨fun b=>?_,fun b u e=>?_⟩
 . by_cases hb:b=p
   . subst hb;rw[aK,aK,h1];rfl
   . rw[az hb,az hb];exact P.eq b
 . by_cases hb:b=p
   . subst hb;rw[h1]at e;cases e
   . rw[az hb];exact P.u5 b u e
theorem bj.show{p:Addr}{o:HO}(P:bj G (upd F p o) H)(h:F p=Option.none):bj (upd G p o) F H:=by
 have h1:=(P.frame (b:=p) aK)
 refine⟨fun b=>?_,fun b u e=>?_⟩
 . by_cases hb:b=p
   . subst hb;rw[aK,h1.1];rfl
   . rw[az hb,P.eq b,az hb]
 . by_cases hb:b=p
   . subst hb;exact h
   . rw[az hb]at e;have:=P.u5 b u e;rw[az hb]at this;exact this
end
mutual
theorem Rep.mono{α:List (Option Addr)}{G H:Hp}(s:CH G H):∀ {d:D} {v:V},Rep α G d v->Rep α H d v
 | .aC,_,h=>by unfold Rep at h⊢;exact h
 | .bl _,_,h=>by unfold Rep at h⊢;exact h
 | .int _,_,h=>by unfold Rep at h⊢;exact h
 | .str _,_,h=>by unfold Rep at h⊢;exact h
 | .ty _,_,h=>by unfold Rep at h⊢;exact h
 | .ref n,_,h=>by unfold Rep at h⊢;exact h
 | .lst xs,_,h=>by
   unfold Rep at h⊢;obtain⟨a,vs,e,n,r,q⟩:=h;refine⟨a,vs,e,n,?_,aG.mono s q⟩;rcases r with r|⟨o,r⟩
   . exact .inl (s _ _ r)
   . exact .inr ⟨o,s _ _ r⟩
 | .tup xs,_,h=>by
   unfold Rep at h⊢;obtain⟨a,vs,e,n,r,q⟩:=h;exact⟨a,vs,e,n,s _ _ r,aG.mono s q⟩
theorem aG.mono{α:List (Option Addr)}{G H:Hp}(s:CH G H):∀ {ds:List D} {vs:List V},aG α G ds vs->aG α H ds vs
 | [],_,h=>by unfold aG at h⊢;exact h
 |d::ds,_,h=>by
  unfold aG at h⊢;obtain⟨v,r,e,h1,h2⟩:=h;exact⟨v,r,e,Rep.mono s h1,aG.mono s h2⟩
end
def iu(α:List (Option Addr))(H:Hp):List (Str×D)->List (Str×V)->Prop:=Paired fun p q=>p.1=q.1/\Rep α H p.2 q.2
def iW(α:List (Option Addr))(H:Hp)(a:Addr):Cell->Prop
 | .lst xs=>∃vs,H a=some (.lst vs)/\aG α H xs vs
 | .ins C fs=>∃dx vs,H a=some (.ins C dx vs)/\iu α H fs vs
 | .dead=>False
 | .tab P pos qual b=>a=P/\∃ps:Array Value,H a=some (.g5 ps)/\TriplesOk ps.toList/\
    ((b=false/\codeAmong pos ps.toList=none)\/(b=true/\∃c o vs t,codeAmong pos ps.toList=some (.ref c)/\some c∉α/\H c=some (.e9 o (.own c))/\o.data= .fields vs/\vs[1]?=some (.str qual t)))
structure aL(α:List (Option Addr))(st:ag)(H:Hp):Prop where
 len:α.length=st.length
 nd:∀(i j:Nat) (a:Addr),α[i]?=some (some a)->α[j]?=some (some a)->i=j
 at':∀(n:Nat) (c:Cell),st[n]?=some c->(c= .dead/\α[n]?=some none)\/∃a,α[n]?=some (some a)/\iW α H a c
theorem iu.step{α α':List (Option Addr)}{H H':Hp}(s:Step α H α' H'){ds:List (Str×D)}{vs:List (Str×V)}(h:iu α H ds vs):iu α' H' ds vs:=Paired.BA h fun _ _ z=>⟨z.1,z.2.step s⟩
theorem iW.same{α α':List (Option Addr)}{H H':Hp}{a:Addr}{c:Cell}(s:Step α H α' H')(e:H' a=H a)(h:iW α H a c):iW α' H' a c:=by
 cases c with
 |lst xs=>obtain⟨vs,h1,h2⟩:=h;exact⟨vs,e.trans h1,h2.step s⟩
 |ins C fs=>obtain⟨dx,vs,h1,h2⟩:=h;exact⟨dx,vs,e.trans h1,h2.step s⟩
 |dead=>exact h.elim
 |tab P pos qual b=>
  obtain⟨z,ps,h1,h2,h3⟩:=h;refine⟨z,ps,e.trans h1,h2,?_⟩;rcases h3 with h3|⟨hb,c,o,vs,t,q1,q2,q3,q4⟩
  . exact .inl h3
  . exact .inr ⟨hb,c,o,vs,t,q1,(fun y=>by rw[s.new c y q2]at q3;cases q3),s.ext c _ q2 q3,q4⟩
theorem iW.some{α:List (Option Addr)}{H:Hp}{a:Addr}{c:Cell}(h:iW α H a c):∃o,H a=some o:=by
 cases c with
 |lst xs=>obtain⟨vs,h1,h2⟩:=h;exact⟨_,h1⟩
 |ins C fs=>obtain⟨dx,vs,h1,h2⟩:=h;exact⟨_,h1⟩
 |dead=>exact h.elim
 |tab P pos qual b=>obtain⟨_,ps,h1,_⟩:=h;exact⟨_,h1⟩
theorem cY{α:List (Option Addr)}{H:Hp}{n:Nat}{v:V}{a:Addr}(e:α[n]?=Option.some (Option.some a))(r:Rep α H (.ref n) v):v= .ref a:=by
 unfold Rep at r;rcases r with r|⟨b,eb,rfl⟩
 . rw[e]at r;cases r
 . rw[e]at eb;cases eb;rfl
section
variable {α:List (Option Addr)}{st:ag}{H:Hp}
theorem aL.eX(S:aL α st H){n:Nat}{xs:List D}(e:st[n]?=Option.some (.lst xs)):∃a,α[n]?=Option.some (Option.some a)/\∃vs,H a=Option.some (.lst vs)/\aG α H xs vs:=by
 rcases S.at' n _ e with⟨z,_⟩|z
 . cases z
 . exact z
theorem aL.uu(S:aL α st H){n:Nat}{C:Addr}{fs:List (Str×D)}(e:st[n]?=Option.some (.ins C fs)):∃a,α[n]?=Option.some (Option.some a)/\∃dx vs,H a=Option.some (.ins C dx vs)/\iu α H fs vs:=by
 rcases S.at' n _ e with⟨z,_⟩|z
 . cases z
 . exact z
theorem aL.mem(S:aL α st H){a:Addr}(h:Option.some a∈α):∃(n:Nat) (c:Cell),α[n]?=Option.some (Option.some a)/\st[n]?=Option.some c/\iW α H a c:=by
 obtain⟨n,hn,e⟩:=List.mem_iff_getElem.mp h;have hl:n<st.length:=by rw[<-S.len];exact hn
 have e':α[n]?=Option.some (Option.some a):=by rw[List.getElem?_eq_getElem hn,e]
 rcases S.at' n st[n] (by simp[hl])with⟨_,q⟩|⟨a',q,ca⟩
 . rw[e']at q;cases q
 . rw[e']at q;cases q;exact⟨n,_,e',by simp[hl],ca⟩
theorem aL.iH(S:aL α st H){p:Addr}(h:H p=none):Option.some p∉α:=fun z=>by
 obtain⟨n,c,_,_,ca⟩:=S.mem z;obtain⟨o,e⟩:=ca.some;rw[h]at e;cases e
theorem aL.laid(S:aL α st H){p:Addr}{o:HO}(h:H p=none):aL α st (upd H p o):=
 ⟨S.len,S.nd,fun n c e=>by
  rcases S.at' n c e with z|⟨a,q,ca⟩
  . exact .inl z
  . exact .inr ⟨a,q,ca.same (Step.laid h) (az (by obtain⟨u,z⟩:=ca.some;exact cv z h))⟩⟩
theorem aL.cell(S:aL α st H){p:Addr}{o:HO}{c:Cell}(h:H p=none)(hc:iW (α++[Option.some p]) (upd H p o) p c):aL (α++[Option.some p]) (st++[c]) (upd H p o) where
 len:=by rw[List.length_append,List.length_append,S.len];rfl
 nd:=fun i j a ei ej=>by
  have key:∀(i:Nat) (a:Addr),(α++[Option.some p])[i]?=Option.some (Option.some a)->(i<α.length/\α[i]?=Option.some (Option.some a))\/(i=α.length/\a=p):=by
   intro i a e;by_cases hi:i<α.length
   . rw[List.getElem?_append_left hi]at e;exact .inl ⟨hi,e⟩
   . rw[List.getElem?_append_right (Nat.le_of_not_lt hi)]at e
     have h0:i-α.length=0:=by
      cases q:i-α.length with
      |zero=>rfl
      |succ k=>rw[q]at e;simp at e
     rw[h0]at e;have:p=a:=by simpa using e
     exact .inr ⟨by omega,this.symm⟩
  rcases key i a ei with⟨h1,e1⟩|⟨h1,e1⟩<;>rcases key j a ej with⟨h2,e2⟩|⟨h2,e2⟩
  . exact S.nd i j a e1 e2
  . subst e2;exact absurd (List.mem_of_getElem? e1) (S.iH h)
  . subst e1;exact absurd (List.mem_of_getElem? e2) (S.iH h)
  . omega
 at':=fun n d e=>by
  by_cases hn:n<st.length
  . rw[List.getElem?_append_left hn]at e;have hl:n<α.length:=by rw[S.len];exact hn
    rcases S.at' n d e with⟨z,q⟩|⟨a,q,ca⟩
    . exact .inl ⟨z,by rw[List.getElem?_append_left hl];exact q⟩
    . exact .inr ⟨a,by rw[List.getElem?_append_left hl];exact q,ca.same (Step.cell h) (az (by obtain⟨u,z⟩:=ca.some;exact cv z h))⟩
  . rw[List.getElem?_append_right (Nat.le_of_not_lt hn)]at e
    have h0:n-st.length=0:=by
     cases q:n-st.length with
     |zero=>rfl
     |succ k=>rw[q]at e;simp at e
    rw[h0]at e;have hd:c=d:=by simpa using e
    subst hd;refine .inr ⟨p,?_,hc⟩;rw[List.getElem?_append_right (by rw[S.len];exact Nat.le_of_not_lt hn),S.len,h0];rfl
theorem aL.write(S:aL α st H){p:Addr}{o:HO}{c:Cell}{n:Nat}(e:α[n]?=Option.some (Option.some p))(hc:iW α (upd H p o) p c):aL α (st.set n c) (upd H p o) where
 len:=by rw[List.length_set];exact S.len
 nd:=S.nd
 at':=fun m d q=>by
  have hp:Option.some p∈α:=List.mem_of_getElem? e;by_cases hm:m=n
  . subst hm
    have hl:m<st.length:=by
     have:=(List.getElem?_eq_some_iff.mp q).1;rw[List.length_set]at this;exact this
    rw[List.getElem?_set_self hl]at q;cases q;exact .inr ⟨p,e,hc⟩
  . rw[List.getElem?_set_ne (Ne.symm hm)]at q;rcases S.at' m d q with z|⟨a,r,ca⟩
    . exact .inl z
    . refine .inr ⟨a,r,ca.same (Step.write hp) (az fun z=>?_)⟩;subst z;exact hm (S.nd m n _ r e)
end
abbrev DK:=D->ag->Prop
abbrev DE:=a_->ag->DK->Prop
abbrev DT:=a_->ag->(Bool->ag->Prop)->Prop
abbrev DA:=a_->ag->(List D->ag->Prop)->Prop
structure g_ where
 nx:a_->ag->Prop
 rt:DK
 bk:a_->ag->Prop:=fun _ _=>False
 ct:a_->ag->Prop:=fun _ _=>False
abbrev DS:=g_->a_->ag->Prop
structure cC(α:List (Option Addr))(H:Hp)(σd:a_)(σ:L2.St):Prop where
 len:σd.length=σ.length
 at':∀(i:Nat) (d:D),σd[i]?=some (some d)->∃v,σ[i]?=some (some v)/\Rep α H d v
theorem cC.step{α α':List (Option Addr)}{H H':Hp}{σd:a_}{σ:L2.St}(s:Step α H α' H')(h:cC α H σd σ):cC α' H' σd σ:=
 ⟨h.len,fun i d e=>let⟨v,q,r⟩:=h.at' i d e;⟨v,q,r.step s⟩⟩
theorem cC.set{α:List (Option Addr)}{H:Hp}{σd:a_}{σ:L2.St}(h:cC α H σd σ)(i:Nat){d:D}{v:V}(r:Rep α H d v):cC α H (σd.set i (some d)) (σ.set i (some v)):=by
 refine⟨by rw[List.length_set,List.length_set,h.len],fun j e q=>?_⟩;have hl:=h.len;by_cases hj:j=i
 . subst hj
   have hlt:j<σd.length:=by
    have:=(List.getElem?_eq_some_iff.mp q).1;rw[List.length_set]at this;exact this
   rw[List.getElem?_set_self hlt]at q;cases q;exact⟨v,List.getElem?_set_self (by omega),r⟩
 . rw[List.getElem?_set_ne (Ne.symm hj)]at q;rw[List.getElem?_set_ne (Ne.symm hj)];exact h.at' j e q
def LK(α:List (Option Addr))(G F:Hp)(K:DK)(Q:VK):Prop:=∀d st',K d st'->∀α' G' H' v,Step α G α' G'->bj G' F H'->aL α' st' G'->Rep α' G' d v->Q v H'
def DG(α:List (Option Addr))(G F:Hp)(K:Bool->ag->Prop)(Q:Bool->Hp->Prop):Prop:=∀b st',K b st'->∀α' G' H',Step α G α' G'->bj G' F H'->aL α' st' G'->Q b H'
def Lr(α:List (Option Addr))(G F:Hp)(K:List D->ag->Prop)(Q:List V->Hp->Prop):Prop:=∀ds st',K ds st'->∀α' G' H' vs,Step α G α' G'->bj G' F H'->aL α' st' G'->aG α' G' ds vs->Q vs H'
inductive Km(t:DE)(σ:L2.St)(H:Hp)(Q:VK):Prop
 |mk (α:List (Option Addr)) (σd:a_) (st:ag) (K:DK) (G F:Hp) (P:bj G F H) (R:cC α G σd σ) (S:aL α st G) (h:t σd st K) (k:LK α G F K Q):Km t σ H Q
def LE(t:DE):TE:=Km t
inductive JZ(t:DT)(σ:L2.St)(H:Hp)(Q:Bool->Hp->Prop):Prop
 |mk (α:List (Option Addr)) (σd:a_) (st:ag) (K:Bool->ag->Prop) (G F:Hp) (P:bj G F H) (R:cC α G σd σ) (S:aL α st G) (h:t σd st K) (k:DG α G F K Q):JZ t σ H Q
def LT(t:DT):TT:=JZ t
inductive Kd(t:DA)(σ:L2.St)(H:Hp)(Q:List V->Hp->Prop):Prop
 |mk (α:List (Option Addr)) (σd:a_) (st:ag) (K:List D->ag->Prop) (G F:Hp) (P:bj G F H) (R:cC α G σd σ) (S:aL α st G) (h:t σd st K) (k:Lr α G F K Q):Kd t σ H Q
def LA(t:DA):TA:=Kd t
theorem LK.here{α:List (Option Addr)}{G F H:Hp}{K:DK}{Q:VK}(h:LK α G F K Q)(P:bj G F H){d:D}{st:ag}{v:V}(k:K d st)(S:aL α st G)(r:Rep α G d v):Q v H:=h d st k α G H v Step.refl P S r
theorem LK.at{α α1:List (Option Addr)}{G F G1:Hp}{K:DK}{Q:VK}(h:LK α G F K Q)(s:Step α G α1 G1):LK α1 G1 F K Q:=fun d st' k α' G' H' v s' P S r=>h d st' k α' G' H' v (s.trans s') P S r
theorem DG.at{α α1:List (Option Addr)}{G F G1:Hp}{K:Bool->ag->Prop}{Q:Bool->Hp->Prop}(h:DG α G F K Q)(s:Step α G α1 G1):DG α1 G1 F K Q:=fun d st' k α' G' H' s' P S=>h d st' k α' G' H' (s.trans s') P S
section
variable {X:Cx}{a b c e:Expr}{es:List Expr}{ta tb tc te:DE}{pos:Pos}
theorem PE.imp{t t':TE}(h:PE X e t)(f:∀σ H Q,t' σ H Q->t σ H Q):PE X e t':=fun pins s σ H Q I q=>h pins s σ H Q I (f σ H Q q)
theorem PT.imp{t t':TT}(h:PT X e t)(f:∀σ H Q,t' σ H Q->t σ H Q):PT X e t':=fun pins s σ H Q I q=>h pins s σ H Q I (f σ H Q q)
theorem PW.imp{t t':TT}(h:PW X e t)(f:∀σ H Q,t' σ H Q->t σ H Q):PW X e t':=fun w pins s σ H Q I q=>h w pins s σ H Q I (f σ H Q q)
theorem PA.imp{t t':TA}(h:PA X es t)(f:∀σ H Q,t' σ H Q->t σ H Q):PA X es t':=fun p pins s σ H Q I q=>h p pins s σ H Q I (f σ H Q q)
def ae(i:Nat):DE:=fun σ st K=>match σ[i]? with|some (some d)=>K d st|_=>False
def dC(d:D):DE:=fun _ st K=>K d st
theorem Jt{i:Nat}{x:Str}(h:PE X (.Name x pos) (lL i)):PE X (.Name x pos) (LE (ae i)):=PE.imp h fun σ H Q ⟨α,σd,st,K,G,F,P,R,S,t,k⟩=>by
 unfold ae at t;split at t
 . rename_i d q;obtain⟨v,e,r⟩:=R.at' i d q;exact⟨v,e,k.here P t S r⟩
 . exact t.elim
theorem mh{v:V}{d:D}(h:PE X e (tC v))(r:∀α H,Rep α H d v):PE X e (LE (dC d)):=PE.imp h fun σ H Q ⟨α,σd,st,K,G,F,P,R,S,t,k⟩=>k.here P t S (r α G)
theorem Jd{i:Int}{j:Nat}:PE X (.Constant (.int i) j pos) (LE (dC (.int i))):=mh Fy fun _ _=>by unfold Rep;rfl
theorem Le{i:Bool}{j:Nat}:PE X (.Constant (.bool i) j pos) (LE (dC (.bl i))):=mh Jh fun _ _=>by unfold Rep;rfl
theorem IV{i:Str}{j:Nat}:PE X (.Constant (.str i) j pos) (LE (dC (.str i))):=mh wm fun _ _=>by unfold Rep;rfl
theorem Je{j:Nat}:PE X (.Constant .none j pos) (LE (dC .aC)):=mh vA fun _ _=>by unfold Rep;rfl
abbrev cx:=D->D->ag->DK->Prop
abbrev wa:=D->ag->DK->Prop
abbrev d4:=List D->ag->DK->Prop
inductive Kj(r:cx)(x y:V)(H:Hp)(Q:VK):Prop
 |mk (α:List (Option Addr)) (d e:D) (st:ag) (K:DK) (G F:Hp) (P:bj G F H) (rx:Rep α G d x) (ry:Rep α G e y) (S:aL α st G) (h:r d e st K) (k:LK α G F K Q):Kj r x y H Q
def LR(r:cx):R2:=Kj r
inductive FN(r:wa)(x:V)(H:Hp)(Q:VK):Prop
 |mk (α:List (Option Addr)) (d:D) (st:ag) (K:DK) (G F:Hp) (P:bj G F H) (rx:Rep α G d x) (S:aL α st G) (h:r d st K) (k:LK α G F K Q):FN r x H Q
def Dq(r:wa):V->Hp->VK->Prop:=FN r
inductive GZ(r:d4)(xs:List V)(H:Hp)(Q:VK):Prop
 |mk (α:List (Option Addr)) (ds:List D) (st:ag) (K:DK) (G F:Hp) (P:bj G F H) (rx:aG α G ds xs) (S:aL α st G) (h:r ds st K) (k:LK α G F K Q):GZ r xs H Q
def fy(r:d4):List V->Hp->VK->Prop:=GZ r
def aE(r:cx)(ta tb:DE):DE:=fun σ st K=>ta σ st fun x st1=>tb σ st1 fun y st2=>r x y st2 K
def nS(r:wa)(ta:DE):DE:=fun σ st K=>ta σ st fun x st1=>r x st1 K
theorem LE.op{r:cx}{σ:L2.St}{H:Hp}{Q:VK}(h:LE (aE r ta tb) σ H Q):Aj (LR r) (LE ta) (LE tb) σ H Q:=by
 obtain⟨α,σd,st,K,G,F,P,R,S,t,k⟩:=h;refine⟨α,σd,st,_,G,F,P,R,S,t,fun d st1 q α1 G1 H1 v s1 P1 S1 r1=>?_⟩;refine⟨α1,σd,st1,_,G1,F,P1,R.step s1,S1,q,fun d2 st2 q2 α2 G2 H2 v2 s2 P2 S2 r2=>?_⟩;exact⟨α2,d,d2,st2,K,G2,F,P2,r1.step s2,r2,S2,q2,(k.at s1).at s2⟩
theorem LE.un{r:wa}{σ:L2.St}{H:Hp}{Q:VK}(h:LE (nS r ta) σ H Q):J_ (Dq r) (LE ta) σ H Q:=by
 obtain⟨α,σd,st,K,G,F,P,R,S,t,k⟩:=h;refine⟨α,σd,st,_,G,F,P,R,S,t,fun d st1 q α1 G1 H1 v s1 P1 S1 r1=>?_⟩;exact⟨α1,d,st1,K,G1,F,P1,r1,S1,q,k.at s1⟩
theorem KH{op:Operator}{r:cx}(ho:bG X (binaryOp op) (LR r))(ha:PE X a (LE ta))(hb:PE X b (LE tb)):PE X (.BinOp a op b pos) (LE (aE r ta tb)):=PE.imp (Ig ho ha hb) fun _ _ _ h=>LE.op h
theorem KS{op:UnaryOp}{r:wa}(ho:xD X (unaryOp op) (Dq r))(ha:PE X a (LE ta)):PE X (.UnaryOp op a pos) (LE (nS r ta)):=PE.imp (Jl ho ha) fun _ _ _ h=>LE.un h
theorem Jj{op:CmpOp}{r:cx}(ho:bG X (compareOp op) (LR r))(ha:PE X a (LE ta))(hb:PE X b (LE tb))(hm:behindInMarks op b=false:=by first|exact bS _|rfl):PE X (.Compare a [op] [b] pos) (LE (aE r ta tb)):=PE.imp (D7 ho ha hb hm) fun _ _ _ h=>LE.op h
def bL(t:DE):DT:=fun σ st K=>t σ st fun d st1=>match d with| .bl b=>K b st1|_=>False
theorem LT.test{σ:L2.St}{H:Hp}{Q:Bool->Hp->Prop}(h:LT (bL te) σ H Q):LE te σ H fun x H'=>∃k,x= .bl k/\Q k H':=by
 obtain⟨α,σd,st,K,G,F,P,R,S,t,k⟩:=h;refine⟨α,σd,st,_,G,F,P,R,S,t,fun d st1 q α1 G1 H1 v s1 P1 S1 r1=>?_⟩;cases d with
 |bl b=>
  unfold Rep at r1;exact⟨b,r1,k b st1 q α1 G1 H1 s1 P1 S1⟩
 |_=>exact q.elim
theorem HP{op:CmpOp}{r:cx}(ho:bG X (compareOp op) (LR r))(ha:PE X a (LE ta))(hb:PE X b (LE tb))(hm:behindInMarks op b=false:=by first|exact bS _|rfl):PT X (.Compare a [op] [b] pos) (LT (bL (aE r ta tb))):=PT.imp (DP ho ha hb hm) fun σ H Q h=>by
 have q:=LT.test h;exact LE.op (Q:=fun x H'=>∃k,x= .bl k/\Q k H') q
theorem GL(he:PE X e (LE te))(hv:∀whole,isTrue e X.env whole=(do let v <-whole;standAt e.pos;holding [v] (truthy v)):=by intro _;rfl):PT X e (LT (bL te)):=PT.imp (qV he hv) fun σ H Q h=>LT.test h
def oY(t:DT):DT:=fun σ st K=>t σ st fun b st1=>K (!b) st1
def j7(t u:DT):DT:=fun σ st K=>t σ st fun b st1=>if b=true then u σ st1 K else K false st1
def yn(t u:DT):DT:=fun σ st K=>t σ st fun b st1=>if b=true then K true st1 else u σ st1 K
theorem GJ{t:DT}(ha:PT X a (LT t)):PT X (.UnaryOp .Not a pos) (LT (oY t)):=PT.imp (vh ha) fun σ H Q ⟨α,σd,st,K,G,F,P,R,S,t,k⟩=>
 ⟨α,σd,st,_,G,F,P,R,S,t,fun b st1 q α1 G1 H1 s1 P1 S1=>k _ st1 q α1 G1 H1 s1 P1 S1⟩
theorem LT.and{t u:DT}{σ:L2.St}{H:Hp}{Q:Bool->Hp->Prop}(h:LT (j7 t u) σ H Q):Gu (LT t) (LT u) σ H Q:=by
 obtain⟨α,σd,st,K,G,F,P,R,S,t,k⟩:=h;refine⟨α,σd,st,_,G,F,P,R,S,t,fun b st1 q α1 G1 H1 s1 P1 S1=>?_⟩;cases b with
 |true=>exact⟨α1,σd,st1,K,G1,F,P1,R.step s1,S1,q,k.at s1⟩
 |false=>exact k _ st1 q α1 G1 H1 s1 P1 S1
theorem LT.or{t u:DT}{σ:L2.St}{H:Hp}{Q:Bool->Hp->Prop}(h:LT (yn t u) σ H Q):Dj (LT t) (LT u) σ H Q:=by
 obtain⟨α,σd,st,K,G,F,P,R,S,t,k⟩:=h;refine⟨α,σd,st,_,G,F,P,R,S,t,fun b st1 q α1 G1 H1 s1 P1 S1=>?_⟩;cases b with
 |false=>exact⟨α1,σd,st1,K,G1,F,P1,R.step s1,S1,q,k.at s1⟩
 |true=>exact k _ st1 q α1 G1 H1 s1 P1 S1
theorem D2{t:DT}(ha:PT X a (LT t)):PW X (.BoolOp .And [a] pos) (LT t):=pw_and1 ha
theorem Gi{t:DT}(ha:PT X a (LT t)):PW X (.BoolOp .Or [a] pos) (LT t):=pw_or1 ha
theorem Gw{t u:DT}(ha:PT X a (LT t))(hb:PW X (.BoolOp .And (b::es) pos) (LT u)):PW X (.BoolOp .And (a::b::es) pos) (LT (j7 t u)):=PW.imp (pw_and ha hb) fun _ _ _ h=>LT.and h
theorem Io{t u:DT}(ha:PT X a (LT t))(hb:PW X (.BoolOp .Or (b::es) pos) (LT u)):PW X (.BoolOp .Or (a::b::es) pos) (LT (yn t u)):=PW.imp (pw_or ha hb) fun _ _ _ h=>LT.or h
def uq(ta tb:DE):DE:=fun σ st K=>ta σ st fun d st1=>match d with| .bl b=>if b=true then tb σ st1 K else K (.bl false) st1|_=>False
def xT(t:DT):DE:=fun σ st K=>t σ st fun b st1=>K (.bl (!b)) st1
theorem Jm{op:BoolOp}(ha:PE X a (LE ta)):PE X (.BoolOp op [a] pos) (LE ta):=HG ha
theorem Jq(ha:PE X a (LE ta))(hb:PE X (.BoolOp .And (b::es) pos) (LE tb)):PE X (.BoolOp .And (a::b::es) pos) (LE (uq ta tb)):=PE.imp (HK ha hb) fun σ H Q ⟨α,σd,st,K,G,F,P,R,S,t,k⟩=>by
 refine⟨α,σd,st,_,G,F,P,R,S,t,fun d st1 q α1 G1 H1 v s1 P1 S1 r1=>?_⟩;cases d with
 |bl b=>
  unfold Rep at r1;refine⟨b,r1,?_⟩;cases b with
  |true=>exact⟨α1,σd,st1,K,G1,F,P1,R.step s1,S1,q,k.at s1⟩
  |false=>exact k _ st1 q α1 G1 H1 _ s1 P1 S1 (by unfold Rep;rfl)
 |_=>exact q.elim
theorem IB(ha:PE X a (LE ta)):PE X (.UnaryOp .Not a pos) (LE (xT (bL ta))):=PE.imp (FV ha) fun σ H Q ⟨α,σd,st,K,G,F,P,R,S,t,k⟩=>by
 refine⟨α,σd,st,_,G,F,P,R,S,t,fun d st1 q α1 G1 H1 v s1 P1 S1 r1=>?_⟩;cases d with
 |bl b=>
  unfold Rep at r1;exact⟨b,r1,k _ st1 q α1 G1 H1 _ s1 P1 S1 (by unfold Rep;rfl)⟩
 |_=>exact q.elim
def GI(t:DT)(ta tb:DE):DE:=fun σ st K=>t σ st fun b st1=>if b=true then ta σ st1 K else tb σ st1 K
theorem JJ{t:DT}(hc:PT X c (LT t))(ha:PE X a (LE ta))(hb:PE X b (LE tb)):PE X (.IfExp c a b pos) (LE (GI t ta tb)):=PE.imp (Cb hc ha hb) fun σ H Q ⟨α,σd,st,K,G,F,P,R,S,t,k⟩=>by
 refine⟨α,σd,st,_,G,F,P,R,S,t,fun b st1 q α1 G1 H1 s1 P1 S1=>?_⟩;cases b with
 |true=>exact⟨α1,σd,st1,K,G1,F,P1,R.step s1,S1,q,k.at s1⟩
 |false=>exact⟨α1,σd,st1,K,G1,F,P1,R.step s1,S1,q,k.at s1⟩
def ak:DA:=fun _ st K=>K [] st
def af(ta:DE)(tr:DA):DA:=fun σ st K=>ta σ st fun x st1=>tr σ st1 fun xs st2=>K (x::xs) st2
theorem oy:PA X [] (LA ak):=PA.imp md fun σ H Q ⟨α,σd,st,K,G,F,P,R,S,t,k⟩=>k [] st t α G H [] Step.refl P S (by unfold aG;rfl)
theorem mi{tr:DA}(ha:PE X e (LE te))(hr:PA X es (LA tr))(hs:starEach (e::es) X.env=(false,eval e X.env)::starEach es X.env:=by rfl):PA X (e::es) (LA (af te tr)):=PA.imp (fU ha hr hs) fun σ H Q ⟨α,σd,st,K,G,F,P,R,S,t,k⟩=>by
 refine⟨α,σd,st,_,G,F,P,R,S,t,fun d st1 q α1 G1 H1 v s1 P1 S1 r1=>?_⟩;refine⟨α1,σd,st1,_,G1,F,P1,R.step s1,S1,q,fun ds st2 q2 α2 G2 H2 vs s2 P2 S2 r2=>?_⟩;exact k _ st2 q2 α2 G2 H2 (v::vs) (s1.trans s2) P2 S2 (by unfold aG;exact⟨v,vs,rfl,r1.step s2,r2⟩)
def kU(t:DA):DE:=fun σ st K=>t σ st fun ds st1=>ds.length<=sizeLine/\K (.tup ds) st1
def fj(t:DA):DE:=fun σ st K=>t σ st fun ds st1=>ds.length<=sizeLine/\K (.lst ds) st1
def nR(t:DA):DE:=fun σ st K=>t σ st fun ds st1=>ds.length<=sizeLine/\K (.ref st1.length) (st1++[.lst ds])
theorem LK.tup{α:List (Option Addr)}{G F H:Hp}{K:DK}{Q:VK}{ds:List D}{vs:List V}{st:ag}{p:Addr}(k:LK α G F K Q)(P:bj G F H)(q:K (.tup ds) st)(S:aL α st G)(r:aG α G ds vs)(hp:H p=none):Q (.ref p) (upd H p (.tup vs)):=
 have hg:=(P.none hp).1
 k _ st q α _ _ _ (Step.laid hg) (P.laid hp) (S.laid hg) (by unfold Rep;exact⟨p,vs,rfl,S.iH hg,aK,r.step (Step.laid hg)⟩)
theorem LK.lst{α:List (Option Addr)}{G F H:Hp}{K:DK}{Q:VK}{ds:List D}{vs:List V}{st:ag}{p:Addr}(k:LK α G F K Q)(P:bj G F H)(q:K (.lst ds) st)(S:aL α st G)(r:aG α G ds vs)(hp:H p=none):Q (.ref p) (upd H p (.lst vs)):=
 have hg:=(P.none hp).1
 k _ st q α _ _ _ (Step.laid hg) (P.laid hp) (S.laid hg) (by unfold Rep;exact⟨p,vs,rfl,S.iH hg,.of aK,r.step (Step.laid hg)⟩)
theorem LK.new{α:List (Option Addr)}{G F H:Hp}{K:DK}{Q:VK}{ds:List D}{vs:List V}{st:ag}{p:Addr}(k:LK α G F K Q)(P:bj G F H)(q:K (.ref st.length) (st++[.lst ds]))(S:aL α st G)(r:aG α G ds vs)(hp:H p=none):Q (.ref p) (upd H p (.lst vs)):=
 have hg:=(P.none hp).1
 k _ _ q (α++[some p]) _ _ _ (Step.cell hg) (P.laid hp) (S.cell hg ⟨vs,aK,r.step (Step.cell hg)⟩) (by
  unfold Rep;refine .inr ⟨p,?_,rfl⟩;rw[List.getElem?_append_right (by rw[S.len];exact Nat.le_refl _),S.len,Nat.sub_self];rfl)
theorem Jr{n:Nat}{t:DA}(h:PA X es (LA t)):PE X (.Tuple es n pos) (LE (kU t)):=PE.imp (A3 h) fun σ H Q ⟨α,σd,st,K,G,F,P,R,S,t,k⟩=>
 ⟨α,σd,st,_,G,F,P,R,S,t,fun ds st1 q α1 G1 H1 vs s1 P1 S1 r1=>⟨by rw[<-r1.length];exact q.1,fun p hp=>(k.at s1).tup P1 q.2 S1 r1 hp⟩⟩
theorem Jo{t:DA}(h:PA X es (LA t)):PE X (.List es pos) (LE (fj t)):=PE.imp (AL h) fun σ H Q ⟨α,σd,st,K,G,F,P,R,S,t,k⟩=>
 ⟨α,σd,st,_,G,F,P,R,S,t,fun ds st1 q α1 G1 H1 vs s1 P1 S1 r1=>⟨by rw[<-r1.length];exact q.1,fun p hp=>(k.at s1).lst P1 q.2 S1 r1 hp⟩⟩
theorem IP{t:DA}(h:PA X es (LA t)):PE X (.List es pos) (LE (nR t)):=PE.imp (AL h) fun σ H Q ⟨α,σd,st,K,G,F,P,R,S,t,k⟩=>
 ⟨α,σd,st,_,G,F,P,R,S,t,fun ds st1 q α1 G1 H1 vs s1 P1 S1 r1=>⟨by rw[<-r1.length];exact q.1,fun p hp=>(k.at s1).new P1 q.2 S1 r1 hp⟩⟩
abbrev cq:=List D->ag->DK->Prop
inductive yw(T:cq)(vs:List V)(H:Hp)(Q:VK):Prop
 |mk (α:List (Option Addr)) (ds:List D) (st:ag) (K:DK) (G F:Hp) (P:bj G F H) (rx:aG α G ds vs) (S:aL α st G) (h:T ds st K) (k:LK α G F K Q):yw T vs H Q
def cH(S:cq):Sp:=fun vs H Q _=>yw S vs H Q
def aV(S:cq)(t:DA):DE:=fun σ st K=>t σ st fun ds st1=>S ds st1 K
theorem LE.call{S:cq}{t:DA}{σ:L2.St}{H:Hp}{Q:VK}(h:LE (aV S t) σ H Q):uz (cH S) [] E0 (LA t) σ H Q:=by
 obtain⟨α,σd,st,K,G,F,P,R,S,t,k⟩:=h;refine⟨α,σd,st,_,G,F,P,R,S,t,fun ds st1 q α1 G1 H1 vs s1 P1 S1 r1=>?_⟩;try dsimp only
 rw[List.append_nil];exact⟨α1,ds,st1,K,G1,F,P1,r1,S1,q,k.at s1⟩
theorem FH{S:cq}{k:Nat}{f:Addr}{fd:FuncData}{ps:List Str}{x:Str}{p:Pos}{t:DA}(F:bf X.prog X.w X.K X.mg X.base cz k f fd ps (cH S))(hr:bO k X.A)(hg:Gl X x)(hm:X.mg x=some (.ref f))(hk:PySem.W.keepIn X.K (.ref f)=true)(hb:Binds X.K fd ps [])
 (ha:PA X (e::es) (LA t)) (hdb:(x==("__debug__":Str))=false:=by decide) (he:starEach (e::es) X.env=(false,eval e X.env)::starEach es X.env:=by rfl) (hpl:(backTo pos (starEach es X.env)).any (·.1)=false:=by rfl):
 PE X (.Call (.Name x p) (e::es) [] pos) (LE (aV S t)):=PE.imp (EY F hr hg hm hk hb .nil yD ha hdb he hpl) fun _ _ _ h=>LE.call h
def bQ(r:d4)(t:DA):DE:=fun σ st K=>t σ st fun ds st1=>r ds st1 K
theorem LE.cb{r:d4}{t:DA}{σ:L2.St}{H:Hp}{Q:VK}(h:LE (bQ r t) σ H Q):xv (fy r) (LA t) σ H Q:=by
 obtain⟨α,σd,st,K,G,F,P,R,S,t,k⟩:=h;refine⟨α,σd,st,_,G,F,P,R,S,t,fun ds st1 q α1 G1 H1 vs s1 P1 S1 r1=>?_⟩;exact⟨α1,ds,st1,K,G1,F,P1,r1,S1,q,k.at s1⟩
end
section
variable {X:Cx}
theorem bG.imp{f:Value->Value->Sem Value}{r r':R2}(h:bG X f r)(k:∀x y H Q,r' x y H Q->r x y H Q):bG X f r':=fun pins s σ H x y v u Q I rx ry q=>h pins s σ H x y v u Q I rx ry (k x y H Q q)
theorem bc.imp{f:Value}{r r':List V->Hp->VK->Prop}(h:bc X f r)(k:∀xs H Q,r' xs H Q->r xs H Q):bc X f r':=fun pins s σ H xs us Q I rs q=>h pins s σ H xs us Q I rs (k xs H Q q)
def tV(C:Int->Int->Prop)(g:Int->Int->D):cx:=fun x y st K=>match x,y with| .int i,.int j=>C i j/\K (g i j) st|_,_=>False
theorem kG{f:Value->Value->Sem Value}{C:Int->Int->Prop}{g:Int->Int->D}{g':Int->Int->V}(hg:∀i j α H,Rep α H (g i j) (g' i j))(h:bG X f (rI C g')):bG X f (LR (tV C g)):=bG.imp h fun x y H Q ⟨α,d,e,st,K,G,F',P,r1,r2,S,q,k⟩=>by
 cases d<;>cases e<;>first
  |exact q.elim
  |(unfold Rep at r1 r2;exact⟨_,_,r1,r2,q.1,k.here P q.2 S (hg _ _ _ _)⟩)
abbrev T2:Int->Int->Prop:=fun _ _=>True
theorem zf{g:Int->Int->V}{f:Value->Value->Sem Value}(h:bG X f (wB g)):bG X f (rI T2 g):=bG.imp h fun x y H Q ⟨i,j,e1,e2,_,q⟩=>⟨i,j,e1,e2,q⟩
abbrev zV:cx:=tV (fun _ j=>j≠0/\j.natAbs.log2<9000) fun i j=> .int (i.fdiv j)
abbrev Df:cx:=tV (fun _ j=>j≠0) fun i j=> .int (i.fmod j)
abbrev CT:cx:=tV wg fun i j=> .int (i^j.toNat)
abbrev HZ:cx:=tV T2 fun i j=> .bl (decide (i<j))
abbrev FL:cx:=tV T2 fun i j=> .bl (decide (j<i))
abbrev Gq:cx:=tV T2 fun i j=> .bl (decide (j<=i))
theorem FK:bG X (binaryOp .FloorDiv) (LR zV):=kG (fun _ _ _ _=>by unfold Rep;rfl) (C8 fun i j _ _ _ _ _ hc q=>floordiv_int hc.1 q (.inl (PyProof.noPylong_of_log2 hc.2)))
theorem Ji:bG X (binaryOp .Mod) (LR Df):=kG (fun _ _ _ _=>by unfold Rep;rfl) Ep
theorem IQ:bG X (binaryOp .Pow) (LR CT):=kG (fun _ _ _ _=>by unfold Rep;rfl) Hu
theorem Ky:bG X (compareOp .Lt) (LR HZ):=kG (fun _ _ _ _=>by unfold Rep;rfl) (zf I_)
theorem KJ:bG X (compareOp .Gt) (LR FL):=kG (fun _ _ _ _=>by unfold Rep;rfl) (zf Js)
theorem Kw:bG X (compareOp .GtE) (LR Gq):=kG (fun _ _ _ _=>by unfold Rep;rfl) (zf Iy)
def CZ:wa:=fun x st K=>match x with| .int i=>K (.int (-i)) st|_=>False
theorem Jk:xD X (unaryOp .USub) (Dq CZ):=fun pins s σ H x v Q I rx ⟨α,d,st,K,G,F',P,r,S,q,k⟩=>by
 cases d<;>first
  |exact q.elim
  |(unfold Rep at r;exact HR pins s σ H x v Q I rx ⟨_,r,k.here P q S (by unfold Rep;rfl)⟩)
theorem Inv.sG{pins:List (Addr×Obj)}{σ:L2.St}{H:Hp}{s:Shared}{l:Addr}{xs:List V}(I:Inv X pins σ H s)(h:Rd H l (.lst xs)):
 xs.length<=sizeLine/\∃(its:List Value) (n:Nat),Vals xs its/\xs.length=its.length/\s.heap.get? l=some {cls:= .type "list",data:= .seq its.toArray n}:=by
 obtain⟨z,its,n,r,e⟩:=h.ok I.aB;exact⟨z,its,n,r,r.length,e⟩
theorem eK{G F H:Hp}(P:bj G F H){a:Addr}{u:HO}(h:Rd G a u):Rd H a u:=by
 rcases h with h|⟨o,h⟩
 . exact .inl (P.get h)
 . exact .inr ⟨o,P.get h⟩
theorem xC:bG X (binaryOp .Add) (fun x y H Q=>∃l b xs zs,x= .ref l/\y= .ref b/\Rd H l (.lst xs)/\Rd H b (.lst zs)/\xs.length+zs.length<=sizeLine/\∀p,H p=none->Q (.ref p) (upd H p (.lst (xs++zs)))):=by
 intro pins s σ H x y v u Q I rx ry h;obtain⟨l,b,xs,zs,rfl,rfl,hH,hB,hz,q⟩:=h;cases rx;cases ry;obtain⟨z,its,n,r,hl,e⟩:=Inv.sG I hH;obtain⟨z2,its2,n2,r2,hl2,e2⟩:=Inv.sG I hB;refine PySem.P.add_list e e2 ?_ (by rw[List.size_toArray,List.size_toArray];omega);have ea:its.toArray++its2.toArray=(its++its2).toArray:=by simp
 rw[ea];exact⟨.ref _,_,I.BS (t':=s.toks) (r.append r2) (by rw[List.length_append];omega),rfl,q _ I.fresh⟩
theorem xF:bG X (binaryOp .Mult) (fun x y H Q=>∃l k xs,x= .ref l/\y= .int k/\Rd H l (.lst xs)/\ -(2^63)<=k/\k<2^63/\xs.length*k.toNat<=sizeLine/\
 ∀p,H p=none->Q (.ref p) (upd H p (.lst (List.replicate k.toNat xs).flatten))):=by
 intro pins s σ H x y v u Q I rx ry h;obtain⟨l,k,xs,rfl,rfl,hH,h1,h2,hz,q⟩:=h;cases rx;obtain⟨t,rfl⟩:=ry;obtain⟨z,its,n,r,hl,e⟩:=Inv.sG I hH;have hlen:its.toArray.size*k.toNat<=sizeLine:=by rw[List.size_toArray,<-hl];exact hz
 have hcap:¬its.toArray.size*k.toNat>(2^63-1)/8:=by
  have:(sizeLine:Nat)<=(2^63-1)/8:=by decide
  omega
 have hfit:¬(!Builtin.List.listFitsIndex k)=true:=by
  rw[fitsIndex_both h1 h2];exact Bool.false_ne_true
 have hlong:¬Builtin.List.listTooLong (its.toArray.size*k.toNat)=true:=by
  rw[Bg hlen];exact Bool.false_ne_true
 have hnew:List.foldl (fun x1 x2=>x1++x2) #[] (List.replicate (if its.toArray.isEmpty=true then 0 else k.toNat) its.toArray)=(List.replicate k.toNat its).flatten.toArray:=by
  have f0:∀m:Nat,List.foldl (fun x1 x2=>x1++x2) #[] (List.replicate m its.toArray)=(List.replicate m its).flatten.toArray:=fun m=>by
   have:=foldl_rep its m [];rw[List.nil_append]at this;exact this
  rw[f0];cases its with
  |nil=>simp
  |cons a r'=>rw[if_neg (by simp)]
 refine wpAny_binaryOp_repeat_ref (T:="list") (U:="int") (by decide) ⟨_,e,rfl⟩ (fun s'=>typeIs_int s' k t) noFill_list_mul F.fills_int_mul F.slot_int_rmul repeat_list F.slot_int_index.lookup
  (call_meets F.slot_int_rmul (typeIs_int s k t) F.entry_int_rmul (F.args_int_rmul_2 _ _) (int___rmul___int_list k t l its.toArray n)
    ⟨e,rfl,⟨_,e,rfl⟩,call_meets F.slot_list_mul ⟨_,e,rfl⟩ F.entry_list_mul (F.args_list_mul_2 _ _) (AutoListH.list___mul___list_int_3 l its.toArray n k t hfit hcap hlong) ⟨e,?_⟩⟩)
 rw[hnew];exact⟨.ref _,_,I.BS (t':=s.toks) (r.rep k.toNat) (by rw[len_rep,Nat.mul_comm];exact hz),rfl,q _ I.fresh⟩
theorem BK:bG X (binaryOp .Add) (fun x y H Q=>∃a b xs ys,x= .ref a/\y= .ref b/\H a=some (.tup xs)/\H b=some (.tup ys)/\xs.length+ys.length<=sizeLine/\
 (xs=[]->Q (.ref b) H)/\(xs≠ []->ys=[]->Q (.ref a) H)/\(xs≠ []->ys≠ []->∀p,H p=none->Q (.ref p) (upd H p (.tup (xs++ys))))):=by
 intro pins s σ H x y v u Q I rx ry h;obtain⟨a,b,xs,ys,rfl,rfl,ha,hb,hz,q0,q1,q2⟩:=h;by_cases hx:xs=[]
 . cases rx;cases ry;obtain⟨its,r1,p1,_⟩:=I.tuple (.of ha);obtain⟨its2,r2,p2,_⟩:=I.tuple (.of hb);obtain⟨⟨cls,dd,data,sl⟩,ho,hc,n,hd⟩:=id p1;obtain⟨⟨cls2,dd2,data2,sl2⟩,ho2,hc2,n2,hd2⟩:=id p2;simp only at hc hd hc2 hd2;subst hc hd hc2 hd2;have hi:its=[]:=(L2.Vals.oS r1).mpr hx
   exact concat_meets ⟨_,ho,rfl⟩ ⟨_,ho2,rfl⟩ noFill_tuple_add seq_tuple_add PySem.F.slot_tuple_add PySem.F.entry_tuple_add (PySem.F.args_tuple_add_2 _ _)
    (tuple_addW0 a b its.toArray its2.toArray n n2 dd dd2 sl sl2 (by simp[hi])) ⟨ho,ho2,⟨.ref b,H,I,rfl,q0 hx⟩⟩
 . exact E8 pins s σ H _ _ v u Q I rx ry ⟨a,b,xs,ys,rfl,rfl,.of ha,.of hb,hx,hz,q1 hx,q2 hx⟩
theorem rT:fillsNumberSlot (.type "tuple") "mul"=pure false:=
 PySem.fillsNumberSlot_seq (id:="tuple.__mul__") (r:=some (.builtin "tuple.__rmul__")) F.slot_tuple_mul.lookup (by decide+kernel) F.slot_tuple_rmul.lookup (by decide+kernel)
theorem zl:seqRepeat? (.type "tuple")=pure (some (.builtin "tuple.__mul__")):=by
 unfold seqRepeat?;rw[PySem.seqSlot_of (T:="tuple") (name:="__mul__") (id:="tuple.__mul__") F.slot_tuple_mul.lookup (by decide+kernel),PySem.seqSlot_of (T:="tuple") (name:="__rmul__") (id:="tuple.__rmul__") F.slot_tuple_rmul.lookup (by decide+kernel)];rfl
theorem wx(a:Int)(t:Tok)(l:Addr)(its:Array Value)(n:Nat)(dd:Option Addr)(sl:Array (Option Value)):Meets (Builtin.«int.__rmul__» ⟨[.int a t,.ref l],[]⟩) (fun _ R s=>s.heap.get? l=some {cls:= .type "tuple",dict:=dd,data:= .seq its n,slots:=sl}/\R (.ok (.ret Value.notImplemented)) s):=
 .of_wp fun P w A R s h=>by
  obtain⟨hp,g,d,tk,os⟩:=s;obtain⟨hl,h⟩:=h
  wp_walk
  exact⟨_,rfl,h⟩
theorem vI(l:Addr)(its:Array Value)(n:Nat)(dd:Option Addr)(sl:Array (Option Value))(x:Int)(u:Tok)(h0:(decide (x< -(2^63))||decide (x>=2^63))=false)(h1:(its.isEmpty||x==1)=true):
 Meets (Builtin.«tuple.__mul__» ⟨[.ref l,.int x u],[]⟩) (fun _ R s=>s.heap.get? l=some {cls:= .type "tuple",dict:=dd,data:= .seq its n,slots:=sl}/\R (.ok (.ret (.ref l))) s):=
 .of_wp fun P w A R s h=>by
  obtain⟨hp,g,d,tk,os⟩:=s;obtain⟨hl,h⟩:=h
  wp_walk
  refine wpAny_ite_false (by rw[h0];rfl) ?_
  wp_walk
  exact⟨_,rfl,h⟩
theorem wb(l:Addr)(its:Array Value)(n:Nat)(dd:Option Addr)(sl:Array (Option Value))(x:Int)(u:Tok)(h0:(decide (x< -(2^63))||decide (x>=2^63))=false)(h1:(its.isEmpty||x==1)=false)(h2:(decide (x<=0)||its.isEmpty)=true):
 Meets (Builtin.«tuple.__mul__» ⟨[.ref l,.int x u],[]⟩) (fun _ R s=>s.heap.get? l=some {cls:= .type "tuple",dict:=dd,data:= .seq its n,slots:=sl}/\R (.ok (.ret (.ref s.heap.objs.size))) {s with heap:=s.heap.push {cls:= .type "tuple",data:= .seq #[]}}):=
 .of_wp fun P w A R s h=>by
  obtain⟨hp,g,d,tk,os⟩:=s;obtain⟨hl,h⟩:=h
  wp_walk
  refine wpAny_ite_false (by rw[h0];rfl) ?_
  wp_walk
  exact⟨_,rfl,h⟩
theorem vF(l:Addr)(its:Array Value)(n:Nat)(dd:Option Addr)(sl:Array (Option Value))(x:Int)(u:Tok)(h0:(decide (x< -(2^63))||decide (x>=2^63))=false)(h1:(its.isEmpty||x==1)=false)(h2:(decide (x<=0)||its.isEmpty)=false)(h3:¬((its.size:Int)*x>(2^63-1)/8))(h4:Builtin.Tuple.tupleTooMany (its.size*x)=false)
 (hz:(List.foldl (fun x1 x2=>x1++x2) #[] (List.replicate x.toNat its)).size<=sizeLine):
 Meets (Builtin.«tuple.__mul__» ⟨[.ref l,.int x u],[]⟩) (fun _ R s=>s.heap.get? l=some {cls:= .type "tuple",dict:=dd,data:= .seq its n,slots:=sl}/\R (.ok (.ret (.ref s.heap.objs.size))) {s with heap:=s.heap.push {cls:= .type "tuple",data:= .seq (List.foldl (fun x1 x2=>x1++x2) #[] (List.replicate x.toNat its))}}):=
 .of_wp fun P w A R s h=>by
  obtain⟨hp,g,d,tk,os⟩:=s;obtain⟨hl,h⟩:=h
  wp_walk
  refine wpAny_ite_false (by rw[h0];rfl) ?_
  wp_walk
  refine wpAny_ite_false (decide_eq_false h3) ?_
  wp_walk
  exact⟨_,rfl,h⟩
theorem E2:bG X (binaryOp .Mult) (fun x y H Q=>∃l k xs,x= .ref l/\y= .int k/\H l=some (.tup xs)/\ -(2^63)<=k/\k<2^63/\xs.length*k.toNat<=sizeLine/\
 ((xs=[]\/k=1)->Q (.ref l) H)/\(¬(xs=[]\/k=1)->∀p,H p=none->Q (.ref p) (upd H p (.tup (List.replicate k.toNat xs).flatten)))):=by
 intro pins s σ H x y v u Q I rx ry h;obtain⟨l,k,xs,rfl,rfl,hH,h1,h2,hz,q1,q2⟩:=h;cases rx;obtain⟨t,rfl⟩:=ry;obtain⟨its,r,p1,_⟩:=I.tuple (.of hH);obtain⟨⟨cls,dd,data,sl⟩,ho,hc,n,hd⟩:=id p1;simp only at hc hd;subst hc hd;have hl:xs.length=its.length:=r.length
 have f0:(decide (k< -(2^63))||decide (k>=2^63))=false:=by
  rw[decide_eq_false (by omega),decide_eq_false (by omega)];rfl
 refine wpAny_binaryOp_repeat_ref (T:="tuple") (U:="int") (by decide) ⟨_,ho,rfl⟩ (fun s'=>typeIs_int s' k t) rT F.fills_int_mul F.slot_int_rmul zl F.slot_int_index.lookup
  (call_meets F.slot_int_rmul (typeIs_int s k t) F.entry_int_rmul (F.args_int_rmul_2 _ _) (wx k t l its.toArray n dd sl) ⟨ho,rfl,⟨_,ho,rfl⟩,?_⟩)
 by_cases hs:xs=[]\/k=1
 . have f1:(its.toArray.isEmpty||k==1)=true:=by
    rcases hs with z|z
    . have:its=[]:=List.length_eq_zero_iff.mp (by rw[<-hl,z];rfl);rw[this];rfl
    . rw[z];simp
   exact call_meets F.slot_tuple_mul ⟨_,ho,rfl⟩ F.entry_tuple_mul (F.args_tuple_mul_2 _ _) (vI l its.toArray n dd sl k t f0 f1) ⟨ho,⟨.ref l,H,I,rfl,q1 hs⟩⟩
 . have hne:its≠ []:=fun z=>hs (.inl (List.length_eq_zero_iff.mp (by rw[hl,z];rfl)));have hk1:k≠1:=fun z=>hs (.inr z);have e1:its.toArray.isEmpty=false:=by simpa using hne
   have f1:(its.toArray.isEmpty||k==1)=false:=by rw[e1];simpa using hk1
   have new:∀(us:List Value) (ys:List V),Vals ys us->ys.length<=sizeLine->Inv X pins σ (upd H s.heap.objs.size (.tup ys)) {s with heap:=s.heap.push {cls:= .type "tuple",data:= .seq us.toArray}}:=fun us ys hv hy=>
    I.laid (t':=s.toks) (fun _ _ q=>Heap.get?_push_of_some _ q) (Nat.le_refl _) ⟨hy,us,hv,⟨_,Heap.get?_push_size _ rfl,rfl,_,rfl⟩⟩
   by_cases h0:k<=0
   . have f2:(decide (k<=0)||its.toArray.isEmpty)=true:=by rw[decide_eq_true h0];rfl
     refine call_meets F.slot_tuple_mul ⟨_,ho,rfl⟩ F.entry_tuple_mul (F.args_tuple_mul_2 _ _) (wb l its.toArray n dd sl k t f0 f1 f2) ⟨ho,?_⟩;have ez:k.toNat=0:=by omega
     rw[ez]at q2;exact⟨.ref _,_,new [] [] .nil (Nat.zero_le _),rfl,q2 hs _ I.fresh⟩
   . have f2:(decide (k<=0)||its.toArray.isEmpty)=false:=by rw[decide_eq_false h0,e1];rfl
     have hk:(k.toNat:Int)=k:=by omega
     have hlen:its.toArray.size*k.toNat<=sizeLine:=by rw[List.size_toArray,<-hl];exact hz
     have hsz:((its.toArray.size:Nat):Int)*k<=(sizeLine:Int):=by
      rw[<-hk]
      exact_mod_cast hlen
     have f3:¬(((its.toArray.size:Nat):Int)*k>(2^63-1)/8):=by
      have:((sizeLine:Nat):Int)<=(2^63-1)/8:=by decide
      omega
     have f4:Builtin.Tuple.tupleTooMany (((its.toArray.size:Nat):Int)*k)=false:=by
      unfold Builtin.Tuple.tupleTooMany;exact decide_eq_false (by omega)
     have hnew:List.foldl (fun x1 x2=>x1++x2) #[] (List.replicate k.toNat its.toArray)=(List.replicate k.toNat its).flatten.toArray:=by
      have:=foldl_rep its k.toNat [];rw[List.nil_append]at this;exact this
     have hfl:(List.replicate k.toNat its).flatten.length=its.length*k.toNat:=by rw[len_rep,Nat.mul_comm]
     refine call_meets F.slot_tuple_mul ⟨_,ho,rfl⟩ F.entry_tuple_mul (F.args_tuple_mul_2 _ _) (vF l its.toArray n dd sl k t f0 f1 f2 f3 f4 (by rw[hnew,List.size_toArray,hfl];exact hlen)) ⟨ho,?_⟩;rw[hnew];exact⟨.ref _,_,new _ _ (r.rep k.toNat) (by rw[len_rep,Nat.mul_comm];exact hz),rfl,q2 hs _ I.fresh⟩
def DF:cx:=fun x y st K=>match x,y with
 | .int i,.int j=>K (.int (i+j)) st
 | .tup xs,.tup ys=>xs.length+ys.length<=sizeLine/\K (.tup (xs++ys)) st
 | .lst xs,.lst ys=>xs.length+ys.length<=sizeLine/\K (.lst (xs++ys)) st
 | .str x,.str y=>x.length+y.length<=sizeLine/\K (.str (x++y)) st
 |_,_=>False
theorem Ii:bG X (binaryOp .Add) (LR DF):=fun pins s σ H x y v u Q I rx ry ⟨α,d,e,st,K,G,F',P,r1,r2,S,q,k⟩=>by
 cases d<;>cases e<;>try exact q.elim
 . unfold Rep at r1 r2;exact F8 pins s σ H x y v u Q I rx ry ⟨_,_,r1,r2,k.here P q S (by unfold Rep;rfl)⟩
 . unfold Rep at r1 r2;exact yz pins s σ H x y v u Q I rx ry ⟨_,_,r1,r2,q.1,k.here P q.2 S (by unfold Rep;rfl)⟩
 . unfold Rep at r1 r2;obtain⟨a,vs,rfl,na,ha,ra⟩:=r1;obtain⟨b,ws,rfl,nb,hb,rb⟩:=r2;refine xC pins s σ H _ _ v u Q I rx ry ⟨a,b,vs,ws,rfl,rfl,eK P ha,eK P hb,by rw[<-ra.length,<-rb.length];exact q.1,fun p hp=>?_⟩;exact k.lst P q.2 S (aI.mpr (dE (aI.mp ra) (aI.mp rb))) hp
 . rename_i xs ys;unfold Rep at r1 r2;obtain⟨a,vs,rfl,na,ha,ra⟩:=r1;obtain⟨b,ws,rfl,nb,hb,rb⟩:=r2;have hl1:=ra.length;have hl2:=rb.length;refine BK pins s σ H _ _ v u Q I rx ry ⟨a,b,vs,ws,rfl,rfl,P.get ha,P.get hb,by rw[<-hl1,<-hl2];exact q.1,fun z=>?_,fun _ z=>?_,fun _ _ p hp=>?_⟩
   . refine k.here P q.2 S ?_;unfold Rep;have:xs=[]:=by rw[z]at hl1;exact List.length_eq_zero_iff.mp hl1
     subst this;exact⟨b,ws,rfl,nb,hb,rb⟩
   . refine k.here P q.2 S ?_;unfold Rep;have:ys=[]:=by rw[z]at hl2;exact List.length_eq_zero_iff.mp hl2
     subst this;rw[List.append_nil];exact⟨a,vs,rfl,na,ha,ra⟩
   . exact k.tup P q.2 S (aI.mpr (dE (aI.mp ra) (aI.mp rb))) hp
def DC:cx:=fun x y st K=>match x,y with
 | .int i,.int j=>IntMulOk i j/\K (.int (i*j)) st
 | .lst xs,.int k=>(-(2^63)<=k/\k<2^63/\xs.length*k.toNat<=sizeLine)/\K (.lst (List.replicate k.toNat xs).flatten) st
 | .tup xs,.int k=>(-(2^63)<=k/\k<2^63/\xs.length*k.toNat<=sizeLine)/\K (.tup (List.replicate k.toNat xs).flatten) st
 |_,_=>False
theorem Ir:bG X (binaryOp .Mult) (LR DC):=fun pins s σ H x y v u Q I rx ry ⟨α,d,e,st,K,G,F',P,r1,r2,S,q,k⟩=>by
 cases d<;>cases e<;>try exact q.elim
 . unfold Rep at r1 r2;have h:bG X (binaryOp .Mult) (rI IntMulOk fun i j=> .int (i*j)):=C8 fun _ _ _ _ _ _ _ hc q=>mul_int q hc;exact h pins s σ H x y v u Q I rx ry ⟨_,_,r1,r2,q.1,k.here P q.2 S (by unfold Rep;rfl)⟩
 . unfold Rep at r1 r2;obtain⟨a,vs,rfl,na,ha,ra⟩:=r1;refine xF pins s σ H _ _ v u Q I rx ry ⟨a,_,vs,rfl,r2,eK P ha,q.1.1,q.1.2.1,by rw[<-ra.length];exact q.1.2.2,fun p hp=>?_⟩;exact k.lst P q.2 S (aI.mpr (ju (aI.mp ra) _)) hp
 . rename_i xs m;have r1':=r1;unfold Rep at r1 r2;obtain⟨a,vs,rfl,na,ha,ra⟩:=r1;refine E2 pins s σ H _ _ v u Q I rx ry ⟨a,_,vs,rfl,r2,P.get ha,q.1.1,q.1.2.1,by rw[<-ra.length];exact q.1.2.2,fun hs=>?_,fun _ p hp=>k.tup P q.2 S (aI.mpr (ju (aI.mp ra) _)) hp⟩
   have e:(List.replicate m.toNat xs).flatten=xs:=by
    rcases hs with z|z
    . have:xs=[]:=List.length_eq_zero_iff.mp (by rw[ra.length,z];rfl);rw[this];simp
    . rw[z];simp
   have q2:=q.2;rw[e]at q2;exact k.here P q2 S r1'
def live(st:ag):D->Bool
 | .ref n=>(match st[n]? with|some (.lst _)=>true|some (.ins _ _)=>true|_=>false)
 |_=>true
theorem uU{α:List (Option Addr)}{H:Hp}{st:ag}{n:Nat}{v:V}(S:aL α st H)(h:live st (.ref n)=true)(r:Rep α H (.ref n) v):∃a,v= .ref a:=by
 unfold live at h;simp only at h;split at h
 . rename_i e;obtain⟨a,ea,_⟩:=S.eX e;exact⟨a,cY ea r⟩
 . rename_i e;obtain⟨a,ea,_⟩:=S.uu e;exact⟨a,cY ea r⟩
 . cases h
def EK:cx:=fun x y st K=>match y with| .aC=>live st x=true/\K (.bl (match x with| .aC=>false|_=>true)) st|_=>False
theorem DR:bG X (compareOp .IsNot) (LR EK):=bG.imp EM fun x y H Q ⟨α,d,e,st,K,G,F',P,r1,r2,S,q,k⟩=>by
 cases e<;>try exact q.elim
 unfold Rep at r2;refine⟨r2,k.here P q.2 S ?_⟩;unfold Rep;cases d
 case ref n=>
  obtain⟨a,rfl⟩:=uU S q.1 r1;rfl
 all_goals(unfold Rep at r1;first|(rw[r1];rfl)|(obtain⟨a,vs,rfl,_⟩:=r1;rfl))
def mL:cx:=fun x y st K=>match y with
 | .int i=>(match x with
   | .lst xs=>(match c_ xs i with|some d=>K d st|none=>False)
   | .tup xs=>(match c_ xs i with|some d=>K d st|none=>False)
   | .ref n=>(match st[n]? with|some (.lst xs)=>(match c_ xs i with|some d=>K d st|none=>False)|_=>False)
   |_=>False)
 |_=>False
theorem aG.c_{α:List (Option Addr)}{H:Hp}{ds:List D}{vs:List V}{i:Int}{d:D}(h:aG α H ds vs)(e:L2.c_ ds i=some d):∃v,L2.c_ vs i=some v/\Rep α H d v:=by
 unfold L2.c_ at e⊢;rw[<-h.length];cases q:jG ds.length i with
 |none=>rw[q]at e;cases e
 |some j=>rw[q]at e;exact h.get e
theorem KO:Dr X (LR mL):=fun value slice pins s σ H x y v u Q I rx ry ⟨α,d,e,st,K,G,F',P,r1,r2,S,q,k⟩ hs=>by
 cases e<;>try exact q.elim
 unfold Rep at r2;cases d<;>try exact q.elim
 . rename_i i n;unfold mL at q;simp only at q;split at q
   . split at q
     . rename_i xs e1 _ d' e2;obtain⟨a,ea,vs,hv,rv⟩:=S.eX e1;have r1':=cY ea r1;subst r1';obtain⟨z,ez,rz⟩:=rv.c_ e2;exact xq value slice pins s σ H _ _ v u Q I rx ry ⟨a,vs,_,z,rfl,r2,.of (P.get hv),ez,k.here P q S rz⟩ hs
     . exact q.elim
   . exact q.elim
 . unfold mL at q;simp only at q;split at q
   . rename_i xs d' e2;unfold Rep at r1;obtain⟨a,vs,rfl,na,ha,ra⟩:=r1;obtain⟨z,ez,rz⟩:=ra.c_ e2;exact xq value slice pins s σ H _ _ v u Q I rx ry ⟨a,vs,_,z,rfl,r2,.inl (eK P ha),ez,k.here P q S rz⟩ hs
   . exact q.elim
 . unfold mL at q;simp only at q;split at q
   . rename_i xs d' e2;unfold Rep at r1;obtain⟨a,vs,rfl,na,ha,ra⟩:=r1;obtain⟨z,ez,rz⟩:=ra.c_ e2;exact FX value slice pins s σ H _ _ v u Q I rx ry ⟨a,vs,_,z,rfl,r2,.of (P.get ha),ez,k.here P q S rz⟩ hs
   . exact q.elim
theorem K3{a b:Expr}{ta tb:DE}{pos:Pos}(ha:PE X a (LE ta))(hb:PE X b (LE tb))(hs:o_ b:=by intro _ _;rfl):PE X (.Subscript a b pos) (LE (aE mL ta tb)):=PE.imp (Ib KO ha hb hs) fun _ _ _ h=>LE.op h
def items?(st:ag):D->Option (List D)
 | .lst xs=>some xs
 | .tup xs=>some xs
 | .ref n=>(match st[n]? with|some (.lst xs)=>some xs|_=>none)
 |_=>none
@[simp] theorem J8(st:ag)(xs:List D):items? st (.lst xs)=some xs:=rfl
@[simp] theorem J3(st:ag)(xs:List D):items? st (.tup xs)=some xs:=rfl
@[simp] theorem items_int(st:ag)(i:Int):items? st (.int i)=none:=rfl
@[simp] theorem KI(st:ag)(i:Bool):items? st (.bl i)=none:=rfl
@[simp] theorem items_str(st:ag)(i:Str):items? st (.str i)=none:=rfl
@[simp] theorem Ko(st:ag):items? st .aC=none:=rfl
theorem aH{st:ag}{n:Nat}{xs:List D}(h:st[n]?=some (.lst xs)):items? st (.ref n)=some xs:=by unfold items?;simp only[h]
theorem lh{α:List (Option Addr)}{H:Hp}{st:ag}{d:D}{v:V}{xs:List D}(S:aL α st H)(r:Rep α H d v)(e:items? st d=some xs):
 ∃p vs,v= .ref p/\aG α H xs vs/\(Rd H p (.lst vs)\/H p=some (.tup vs)):=by
 cases d<;>try(cases e;done)
 . unfold items? at e;simp only at e;split at e
   . rename_i ys q;cases e;obtain⟨a,ea,vs,h1,h2⟩:=S.eX q;have r':=cY ea r;subst r';exact⟨a,vs,rfl,h2,.inl (.of h1)⟩
   . cases e
 . cases e;unfold Rep at r;obtain⟨a,vs,rfl,_,h1,h2⟩:=r;exact⟨a,vs,rfl,h2,.inl h1⟩
 . cases e;unfold Rep at r;obtain⟨a,vs,rfl,_,h1,h2⟩:=r;exact⟨a,vs,rfl,h2,.inr h1⟩
theorem zj{K:PySem.W.Frag}{G F H:Hp}(P:bj G F H){p:Addr}{vs:List V}(h:Rd G p (.lst vs)\/G p=some (.tup vs)):jz K H p vs\/gn K H p vs:=h.elim (fun z=> .inl (.inl (eK P z))) fun z=> .inr (.of (P.get z))
theorem fJ{α:List (Option Addr)}{H:Hp}{ds:List D}{xs:List V}{d:D}(r:aG α H ds xs)(e:ds=[d]):∃v,xs=[v]/\Rep α H d v:=by
 subst e;unfold aG at r;obtain⟨v,q,rfl,h1,h2⟩:=r;unfold aG at h2;subst h2;exact⟨v,rfl,h1⟩
theorem j0{α:List (Option Addr)}{H:Hp}{ds:List D}{xs:List V}{d e:D}(r:aG α H ds xs)(q:ds=[d,e]):∃v u,xs=[v,u]/\Rep α H d v/\Rep α H e u:=by
 subst q;unfold aG at r;obtain⟨v,q,rfl,h1,h2⟩:=r;obtain⟨u,rfl,h3⟩:=fJ h2 rfl;exact⟨v,u,rfl,h1,h3⟩
def uC:d4:=fun ds st K=>match ds with
 | [.str x]=>x.length<=sizeLine/\K (.int x.length) st
 | [d]=>(match items? st d with|some xs=>K (.int xs.length) st|none=>False)
 |_=>False
theorem JV:bc X (.builtin "len") (fy uC):=fun pins s σ H xs us Q I rs ⟨α,ds,st,K,G,F',P,r,S,q,k⟩=>by
 unfold uC at q;split at q
 . rename_i x;obtain⟨v,rfl,r1⟩:=fJ r rfl;unfold Rep at r1;subst r1;exact vV pins s σ H _ us Q I rs ⟨x,rfl,q.1,k.here P q.2 S (by unfold Rep;rfl)⟩
 . rename_i d _;split at q
   . rename_i ys e;obtain⟨v,rfl,r1⟩:=fJ r rfl;obtain⟨p,vs,rfl,r2,h⟩:=lh S r1 e;refine uX pins s σ H _ us Q I rs ⟨p,vs,rfl,zj P h,k.here P q S (by unfold Rep;rw[r2.length])⟩
   . exact q.elim
 . exact q.elim
def Kk(g:Int->Int):d4:=fun ds st K=>match ds with| [.int i]=>K (.int (g i)) st|_=>False
abbrev ya:d4:=Kk fun i=>if i<0 then-i else i
theorem IJ:bc X (.builtin "abs") (fy ya):=bc.imp BH fun xs H Q ⟨α,ds,st,K,G,F',P,r,S,q,k⟩=>by
 unfold ya Kk at q;split at q
 . obtain⟨v,rfl,r1⟩:=fJ r rfl;unfold Rep at r1;subst r1;exact⟨_,rfl,k.here P q S (by unfold Rep;rfl)⟩
 . exact q.elim
def yy(g:Int->Int->Int):d4:=fun ds st K=>match ds with| [.int i,.int j]=>K (.int (g i j)) st|_=>False
abbrev yG:d4:=yy fun i j=>if j>i then j else i
abbrev zg:d4:=yy fun i j=>if j<i then j else i
theorem Jx(hc:X.calm=true):bc X (.builtin "max") (fy yG):=bc.imp (zC hc) fun xs H Q ⟨α,ds,st,K,G,F',P,r,S,q,k⟩=>by
 unfold yG yy at q;split at q
 . obtain⟨v,u,rfl,r1,r2⟩:=j0 r rfl;unfold Rep at r1 r2;subst r1 r2;exact⟨_,_,rfl,k.here P q S (by unfold Rep;rfl)⟩
 . exact q.elim
theorem Ja(hc:X.calm=true):bc X (.builtin "min") (fy zg):=bc.imp (Bc hc) fun xs H Q ⟨α,ds,st,K,G,F',P,r,S,q,k⟩=>by
 unfold zg yy at q;split at q
 . obtain⟨v,u,rfl,r1,r2⟩:=j0 r rfl;unfold Rep at r1 r2;subst r1 r2;exact⟨_,_,rfl,k.here P q S (by unfold Rep;rfl)⟩
 . exact q.elim
def x9:d4:=fun ds st K=>match ds with| [.int i]=>K (.int i) st| [.bl b]=>K (.int (if b then 1 else 0)) st|_=>False
theorem IE:bc X (.type "int") (fy x9):=bc.imp zM fun xs H Q ⟨α,ds,st,K,G,F',P,r,S,q,k⟩=>by
 unfold x9 at q;split at q
 . obtain⟨v,rfl,r1⟩:=fJ r rfl;unfold Rep at r1;subst r1;exact .inl ⟨_,rfl,k.here P q S (by unfold Rep;rfl)⟩
 . obtain⟨v,rfl,r1⟩:=fJ r rfl;unfold Rep at r1;subst r1;exact .inr ⟨_,rfl,k.here P q S (by unfold Rep;rfl)⟩
 . exact q.elim
def oW:d4:=fun ds st K=>match ds with| [d]=>(match items? st d with|some xs=>K (.tup xs) st|none=>False)|_=>False
theorem DW:bc X (.type "tuple") (fy oW):=bc.imp uj fun xs H Q ⟨α,ds,st,K,G,F',P,r,S,q,k⟩=>by
 unfold oW at q;split at q
 . rename_i d;split at q
   . rename_i ys e;obtain⟨v,rfl,r1⟩:=fJ r rfl;cases d with
     |tup zs=>
      cases e;have r0:=r1;unfold Rep at r1;obtain⟨a,vs,rfl,na,h1,h2⟩:=r1;exact⟨a,vs,rfl,.inr ⟨.of (P.get h1),k.here P q S r0⟩⟩
     |_=>
      obtain⟨p,vs,rfl,r2,h⟩:=lh S r1 e;refine⟨p,vs,rfl,?_⟩;rcases h with h|h
      . exact .inl ⟨.inl (eK P h),fun l hl=>k.tup P q S r2 hl⟩
      . first
         |(cases e;done)
         |(exfalso
           unfold items? at e;simp only at e
           first
            |(split at e
              . rename_i z;obtain⟨a,ea,vs',h1,h2⟩:=S.eX z;have e':=cY ea r1;cases e';rw[h]at h1;cases h1
              . cases e)
            |(unfold Rep at r1
              obtain⟨a,vs',e',_,h1,_⟩:=r1;cases e';rcases h1 with h1|⟨o,h1⟩<;>(rw[h]at h1;cases h1)))
   . exact q.elim
 . exact q.elim
def rE:d4:=fun ds st K=>match ds with| [d]=>(match items? st d with|some xs=>K (.lst xs) st|none=>False)|_=>False
theorem FZ:bc X (.type "list") (fy rE):=bc.imp ow fun xs H Q ⟨α,ds,st,K,G,F',P,r,S,q,k⟩=>by
 unfold rE at q;split at q
 . split at q
   . rename_i ys e;obtain⟨v,rfl,r1⟩:=fJ r rfl;obtain⟨p,vs,rfl,r2,h⟩:=lh S r1 e;exact⟨p,vs,rfl,zj P h,fun l hl=>k.lst P q S r2 hl⟩
   . exact q.elim
 . exact q.elim
def pf:d4:=fun ds st K=>match ds with| [d]=>(match items? st d with|some xs=>K (.ref st.length) (st++[.lst xs])|none=>False)|_=>False
theorem ED:bc X (.type "list") (fy pf):=bc.imp ow fun xs H Q ⟨α,ds,st,K,G,F',P,r,S,q,k⟩=>by
 unfold pf at q;split at q
 . split at q
   . rename_i ys e;obtain⟨v,rfl,r1⟩:=fJ r rfl;obtain⟨p,vs,rfl,r2,h⟩:=lh S r1 e;exact⟨p,vs,rfl,zj P h,fun l hl=>k.new P q S r2 hl⟩
   . exact q.elim
 . exact q.elim
def jF:List D->Option (List Bool)
 | []=>some []
 | .bl b::r=>(jF r).map (b:: ·)
 |_::_=>none
theorem qE{α:List (Option Addr)}{H:Hp}:∀ {ds:List D} {vs:List V} {bs:List Bool},aG α H ds vs->jF ds=some bs->vs=bs.map V.bl
 | [],vs,bs,r,e=>by
   unfold aG at r;cases e;exact r
 |d::ds,vs,bs,r,e=>by
  unfold aG at r;obtain⟨v,q,rfl,h1,h2⟩:=r;cases d<;>try(cases e;done)
  unfold jF at e;cases z:jF ds with
  |none=>rw[z]at e;cases e
  |some cs=>
   rw[z]at e;cases e;unfold Rep at h1;rw[h1,qE h2 z];rfl
theorem qH:∀ {bs:List Bool} {us:List Value},Vals (bs.map V.bl) us->us=bs.map Value.bool
 | [],_,.nil=>rfl
 |b::bs,_,.cons h t=>by
  have h:_=Value.bool b:=h;rw[h,qH t];rfl
def uA:d4:=fun ds st K=>match ds with| [.lst xs]=>(match jF xs with|some bs=>K (.bl (bs.all id)) st|none=>False)|_=>False
theorem range_all{α:Type}(l:List α)(f:α->Bool)(tr:Nat->Bool)(h:∀i x,l[i]?=some x->tr i=f x):(List.range l.length).all tr=l.all f:=by
 induction l generalizing tr with
 |nil=>rfl
 |cons a l ih=>
  rw[List.length_cons,List.range_succ_eq_map,List.all_cons,List.all_cons,List.all_map,h 0 a rfl];congr 1;exact ih (tr∘Nat.succ) fun i x e=>h (i+1) x (by simpa using e)
theorem JK(hc:X.calm=true):bc X (.builtin "all") (fy uA):=fun pins s σ H xs us Q I rs ⟨α,ds,st,K,G,F',P,r,S,q,k⟩=>by
 unfold uA at q;split at q
 . rename_i ys;split at q
   . rename_i bs e;obtain⟨v,rfl,r1⟩:=fJ r rfl;unfold Rep at r1;obtain⟨a,vs,rfl,na,h1,h2⟩:=r1;obtain⟨u,rfl,ru⟩:=vals1 rs;cases ru;have hv:=qE h2 e;subst hv;obtain⟨z,its,n,rv,hl,eo⟩:=Inv.sG I (eK P h1);have hits:=qH rv;subst hits;have isL:s.heap.IsList a (bs.map Value.bool).toArray:=⟨_,eo,rfl,n,rfl⟩
     refine call_all_walk (wpAny_pyIter_list isL ?_);have hne:a≠s.heap.objs.size:=Nat.ne_of_lt (Heap.lt_size eo);refine⟨s.heap.objs.size,_,_,_,_,_,fun i=>(bs[i]?).getD true,rfl,Walks.list (A:=X.A.in1) (I.ok.hd hc) _ a hne (bs.map Value.bool).toArray,⟨⟨_,Heap.get?_push_size _ rfl,rfl,rfl⟩,⟨_,Heap.get?_push_of_some _ eo,rfl,n,rfl⟩⟩,?_,?_⟩
     . intro i w s' Q' E' hP hQ;rw[List.getElem?_toArray,List.getElem?_map]at hP;cases zb:bs[i]? with
       |none=>rw[zb]at hP;cases hP
       |some b=>
        rw[zb]at hP;cases hP;simp only[zb]at hQ;exact wpAny_truthy_bool hQ
     . intro h' tk hk
       have kp:∀b o,s.heap.get? b=some o->h'.get? b=some o:=fun b o q=>hk b o (by
        intro hb;have:b=s.heap.objs.size:=by simpa using hb
        exact absurd (Heap.lt_size q) (by rw[this];exact Nat.lt_irrefl _)) (Heap.get?_push_of_some _ q)
       have ea:(List.range (bs.map Value.bool).toArray.size).all (fun i=>(bs[i]?).getD true)=bs.all id:=by
        rw[List.size_toArray,List.length_map];exact range_all bs id _ fun i x e=>by rw[e];rfl
       rw[ea];exact⟨.bl (bs.all id),H,I.kept (t':=tk) kp,rfl,k.here P q S (by unfold Rep;rfl)⟩
   . exact q.elim
 . exact q.elim
def gL(st:ag):D->Option String
 | .aC=>some "NoneType"
 | .bl _=>some "bool"
 | .int _=>some "int"
 | .str _=>some "str"
 | .lst _=>some "list"
 | .tup _=>some "tuple"
 | .ref n=>(match st[n]? with|some (.lst _)=>some "list"|_=>none)
 | .ty _=>none
@[simp] theorem Lp(st:ag)(xs:List D):gL st (.lst xs)=some "list":=rfl
@[simp] theorem LD(st:ag)(xs:List D):gL st (.tup xs)=some "tuple":=rfl
@[simp] theorem ty_int(st:ag)(i:Int):gL st (.int i)=some "int":=rfl
@[simp] theorem LF(st:ag)(i:Bool):gL st (.bl i)=some "bool":=rfl
@[simp] theorem ty_str(st:ag)(i:Str):gL st (.str i)=some "str":=rfl
@[simp] theorem Lo(st:ag):gL st .aC=some "NoneType":=rfl
def qt(t c:String):Bool:=t==c||(t=="bool"&&c=="int")
theorem vU{α:List (Option Addr)}{H:Hp}{st:ag}{K:PySem.W.Frag}{d:D}{v:V}{t:String}(S:aL α st H)(r:Rep α H d v)(e:gL st d=some t):gR K H v (.type t):=by
 cases d<;>unfold gL at e<;>try(cases e;done)
 . unfold Rep at r;cases e;subst r;exact .aC
 . unfold Rep at r;cases e;subst r;exact .bl _
 . unfold Rep at r;cases e;subst r;exact .int _
 . unfold Rep at r;cases e;subst r;exact .str _
 . simp only at e;split at e
   . rename_i z;cases e;obtain⟨a,ea,vs',h1,h2⟩:=S.eX z;have r':=cY ea r;subst r';exact .lst h1
   . cases e
 . cases e;unfold Rep at r;obtain⟨a,vs,rfl,na,h1,h2⟩:=r;rcases h1 with h1|⟨o,h1⟩
   . exact .lst h1
   . exact .e9 h1
 . cases e;unfold Rep at r;obtain⟨a,vs,rfl,na,h1,h2⟩:=r;exact .tup h1
theorem w9{G F H:Hp}{K:PySem.W.Frag}(P:bj G F H){x:V}{t:Value}(h:gR K G x t):gR K H x t:=by
 cases h with
 |aC=>exact .aC
 |bl x=>exact .bl x
 |int x=>exact .int x
 |str x=>exact .str x
 |oq x=>exact .oq x
 |lst e=>exact .lst (P.get e)
 |e9 e=>exact .e9 (P.get e)
 |tup e=>exact .tup (P.get e)
 |dK e=>exact .dK (P.get e)
 |dT e=>exact .dT (P.get e)
 |ins e a b c d f=>exact .ins (P.get e) a b c d f
def oV:List String:=["NoneType","bool","int","str","list","tuple"]
def ki:List String:=["bool","int","str","list","tuple"]
theorem xG(K:PySem.W.Frag){t c:String}(ht:t∈oV)(hc:c∈ki):PySem.W.kitOne K (.type t) (.type c)=some (qt t c):=by
 simp only[oV,ki,List.mem_cons,List.not_mem_nil,or_false]at ht hc;rcases ht with rfl|rfl|rfl|rfl|rfl|rfl<;>rcases hc with rfl|rfl|rfl|rfl|rfl<;>with_unfolding_all rfl
theorem vD{st:ag}{d:D}{t:String}(e:gL st d=some t):t∈oV:=by
 cases d<;>unfold gL at e<;>first
  |(cases e;done)
  |(cases e;decide)
  |(simp only at e;split at e<;>cases e;decide)
theorem kitx_of{pins:List (Addr×Obj)}{σ:L2.St}{H:Hp}{s:Shared}{x:V}{u:Value}{t:String}(I:Inv X pins σ H s)(rx:RelV x u)(ty:gR X.K H x (.type t)):
 ∃Hh:Heap->Prop,PySem.W.KitX X.K u (.type t) Hh/\Hh s.heap/\u≠ .builtin "__main__.__loader__#opaque":=by
 cases ty with
 |aC=>cases (show u=Value.none from rx);exact⟨_,PySem.W.kitx_none,True.intro,fun z=>nomatch z⟩
 |bl y=>cases (show u=Value.bool y from rx);exact⟨_,PySem.W.kitx_bool,True.intro,fun z=>nomatch z⟩
 |int i=>obtain⟨t,q⟩:=(show∃t,u=Value.int i t from rx);cases q;exact⟨_,PySem.W.kitx_int,True.intro,fun z=>nomatch z⟩
 |str y=>obtain⟨t,q⟩:=(show∃t,u=Value.str y t from rx);cases q;exact⟨_,PySem.W.kitx_str,True.intro,fun z=>nomatch z⟩
 |oq y=>obtain⟨t,q⟩:=(show∃t,u=Value.float y t from rx);cases q;exact⟨_,PySem.W.kitx_float,True.intro,fun z=>nomatch z⟩
 | @lst a xs ea=>
   cases (show u=Value.ref a from rx);obtain⟨_,_,n,_,h1⟩:=(show cu X.prog X.w H s.heap a (.lst xs)from I.aB a _ ea)
   exact⟨_,PySem.W.kitx_list,⟨_,h1,rfl⟩,fun z=>nomatch z⟩
 | @e9 a ob xs ea=>
   cases (show u=Value.ref a from rx);obtain⟨_,_,_,n,_,h1⟩:=(show cu X.prog X.w H s.heap a (.e9 ob (.lst xs))from I.aB a _ ea)
   exact⟨_,PySem.W.kitx_list,⟨_,h1,rfl⟩,fun z=>nomatch z⟩
 | @tup a xs ea=>
   cases (show u=Value.ref a from rx);obtain⟨_,_,_,p⟩:=(show cu X.prog X.w H s.heap a (.tup xs)from I.aB a _ ea)
   obtain⟨o,h1,h2,_⟩:=p;exact⟨_,PySem.W.kitx_tuple,⟨o,h1,h2⟩,fun z=>nomatch z⟩
 | @dK a kvs ea=>
   cases (show u=Value.ref a from rx);obtain⟨_,_,vs,_,p⟩:=(show cu X.prog X.w H s.heap a (.dK kvs)from I.aB a _ ea)
   obtain⟨o,es,ep,h1,h2,_⟩:=p;exact⟨_,PySem.W.kitx_dict,⟨o,h1,h2.1⟩,fun z=>nomatch z⟩
 | @dT a kvs ea=>
   cases (show u=Value.ref a from rx);obtain⟨_,_,xs,_,o,es,ep,h1,h2,_⟩:=(show cu X.prog X.w H s.heap a (.dT kvs)from I.aB a _ ea)
   exact⟨_,PySem.W.kitx_dict,⟨o,h1,h2.1⟩,fun z=>nomatch z⟩
def mz:List D->Option (List String)
 | []=>some []
 | .ty b::r=>(mz r).map (b:: ·)
 |_::_=>none
theorem uQ{α:List (Option Addr)}{H:Hp}:∀ {ds:List D} {vs:List V} {bs:List String},aG α H ds vs->mz ds=some bs->vs=bs.map V.ty
 | [],vs,bs,r,e=>by
   unfold aG at r;cases e;exact r
 |d::ds,vs,bs,r,e=>by
  unfold aG at r;obtain⟨v,q,rfl,h1,h2⟩:=r;cases d<;>try(cases e;done)
  unfold mz at e;cases z:mz ds with
  |none=>rw[z]at e;cases e
  |some cs=>
   rw[z]at e;cases e;unfold Rep at h1;rw[h1,uQ h2 z];rfl
theorem vP:∀ {bs:List String} {us:List Value},Vals (bs.map V.ty) us->us=bs.map Value.type
 | [],_,.nil=>rfl
 |b::bs,_,.cons h t=>by
  have h:_=Value.type b:=h;rw[h,vP t];rfl
theorem xt(K:PySem.W.Frag){t:String}(ht:t∈oV):∀cs:List String,(∀c∈cs,c∈ki)->PySem.W.kitAny K (.type t) (cs.map Value.type)=some (cs.any (qt t))
 | [],_=>rfl
 |c::cs,h=>by
  show(match PySem.W.kitOne K (.type t) (.type c)with|some true=>some true|some false=>PySem.W.kitAny K (.type t) (cs.map Value.type)|none=>none)=_;rw[xG K ht (h c List.mem_cons_self),List.any_cons];cases qt t c with
  |true=>rfl
  |false=>exact xt K ht cs fun c hc=>h c (List.mem_cons_of_mem _ hc)
def uo:d4:=fun ds st K=>match ds with
 | [d,.ty c]=>(match gL st d with|some t=>c∈ki/\K (.bl (qt t c)) st|none=>False)
 | [d,.tup cs]=>(match gL st d,mz cs with|some t,some cl=>(∀c∈cl,c∈ki)/\K (.bl (cl.any (qt t))) st|_,_=>False)
 |_=>False
theorem Jw:bc X (.builtin "isinstance") (fy uo):=fun pins s σ H xs us Q I rs ⟨α,ds,st,K,G,F',P,r,S,q,k⟩=>by
 unfold uo at q;split at q
 . rename_i d c;split at q
   . rename_i t e;obtain⟨v,v2,rfl,r1,r2⟩:=j0 r rfl;obtain⟨u,u2,rfl,ru,ru2⟩:=vals2 rs;unfold Rep at r2;subst r2;cases (show u2=Value.type c from ru2);exact AN I ru (w9 P (vU S r1 e)) (xG _ (vD e) q.1) fun tk=>⟨.bl (qt t c),H,I.tok tk,rfl,k.here P q.2 S (by unfold Rep;rfl)⟩
   . exact q.elim
 . rename_i d cs;split at q
   . rename_i t cl e ec;obtain⟨v,v2,rfl,r1,r2⟩:=j0 r rfl;obtain⟨u,u2,rfl,ru,ru2⟩:=vals2 rs;unfold Rep at r2;obtain⟨a,vs,rfl,na,h1,h2⟩:=r2;cases (show u2=Value.ref a from ru2);have hv:=uQ h2 ec;subst hv;obtain⟨Hh,Z,hh,hne⟩:=kitx_of I ru (w9 P (vU S r1 e));obtain⟨its,r',pl,hz⟩:=I.tuple (gn.of (P.get h1));have hi:=vP r';subst hi;obtain⟨⟨cls,dd,data,sl⟩,ho,hc,n,hd⟩:=pl;simp only at hc hd;subst hc hd;exact PySem.W.kia_tup Z I.d5 hh ho (xt _ (vD e) cl q.1) hne fun tk=>⟨.bl _,H,I.tok tk,rfl,k.here P q.2 S (by unfold Rep;rfl)⟩
   . exact q.elim
 . exact q.elim
end
end L3
namespace L3
open PySem PySem.Spec L2 PySem.SeqAt
open PyProof.Rows hiding St
mutual
def bU:D->D->Bool
 | .aC,.aC=>true
 | .bl a,.bl b=>a==b
 | .bl a,.int b=>(if a then 1 else 0)==b
 | .int a,.bl b=>a==(if b then 1 else 0)
 | .int a,.int b=>a==b
 | .str a,.str b=>a==b
 | .lst xs,.lst ys=>i8 xs ys
 | .tup xs,.tup ys=>i8 xs ys
 |_,_=>false
def i8:List D->List D->Bool
 | [],[]=>true
 |x::xs,y::ys=>bU x y&&i8 xs ys
 |_,_=>false
end
def pl:Nat->D->Bool
 |_,.aC=>true
 |_,.bl _=>true
 |_,.int _=>true
 |_,.str _=>true
 |n+1,.lst xs=>xs.all (pl n)
 |n+1,.tup xs=>xs.all (pl n)
 |_,_=>false
mutual
theorem qu:∀(n:Nat) (d:D),pl n d=true->bU d d=true
 |_,.aC,_=>rfl
 |_,.bl _,_=>by simp[bU]
 |_,.int _,_=>by simp[bU]
 |_,.str _,_=>by simp[bU]
 |n+1,.lst xs,h=>by unfold bU;exact nU n xs (by unfold pl at h;exact h)
 |n+1,.tup xs,h=>by unfold bU;exact nU n xs (by unfold pl at h;exact h)
 |0,.lst xs,h=>by cases h
 |0,.tup xs,h=>by cases h
 |_,.ref _,h=>by unfold pl at h;cases h
 |_,.ty _,h=>by unfold pl at h;cases h
theorem nU:∀(n:Nat) (xs:List D),xs.all (pl n)=true->i8 xs xs=true
 |_,[],_=>by unfold i8;rfl
 |n,x::xs,h=>by
  rw[List.all_cons,Bool.and_eq_true]at h;unfold i8;rw[qu n x h.1,nU n xs h.2];rfl
end
mutual
theorem Rep.inj{α:List (Option Addr)}{H:Hp}:∀ {d e:D} {v:V} (n:Nat),pl n d=true->pl n e=true->Rep α H d v->Rep α H e v->d=e
 | .aC,e,v,n,_,he,h1,h2=>by
   unfold Rep at h1;subst h1;cases e<;>first|(unfold pl at he;cases he;done)|(unfold Rep at h2;cases h2;rfl)|(unfold Rep at h2;cases h2;done)|(unfold Rep at h2;obtain⟨_,_,h2,_⟩:=h2;cases h2)|rfl|(cases h2;done)|(obtain⟨_,_,h2,_⟩:=h2;cases h2)|(obtain⟨_,_,h2⟩:=h2;cases h2)
 | .bl b,e,v,n,_,he,h1,h2=>by
   unfold Rep at h1;subst h1;cases e<;>first|(unfold pl at he;cases he;done)|(unfold Rep at h2;cases h2;rfl)|(unfold Rep at h2;cases h2;done)|(unfold Rep at h2;obtain⟨_,_,h2,_⟩:=h2;cases h2)|(cases h2;rfl)|(cases h2;done)|(obtain⟨_,_,h2,_⟩:=h2;cases h2)|(obtain⟨_,_,h2⟩:=h2;cases h2)
 | .int b,e,v,n,_,he,h1,h2=>by
   unfold Rep at h1;subst h1;cases e<;>first|(unfold pl at he;cases he;done)|(unfold Rep at h2;cases h2;rfl)|(unfold Rep at h2;cases h2;done)|(unfold Rep at h2;obtain⟨_,_,h2,_⟩:=h2;cases h2)|(cases h2;rfl)|(cases h2;done)|(obtain⟨_,_,h2,_⟩:=h2;cases h2)|(obtain⟨_,_,h2⟩:=h2;cases h2)
 | .str b,e,v,n,_,he,h1,h2=>by
   unfold Rep at h1;subst h1;cases e<;>first|(unfold pl at he;cases he;done)|(unfold Rep at h2;cases h2;rfl)|(unfold Rep at h2;cases h2;done)|(unfold Rep at h2;obtain⟨_,_,h2,_⟩:=h2;cases h2)|(cases h2;rfl)|(cases h2;done)|(obtain⟨_,_,h2,_⟩:=h2;cases h2)|(obtain⟨_,_,h2⟩:=h2;cases h2)
 | .ty b,e,v,n,hd,he,h1,h2=>by unfold pl at hd;cases hd
 | .ref b,e,v,n,hd,he,h1,h2=>by unfold pl at hd;cases hd
 | .lst xs,e,v,0,hd,he,h1,h2=>by cases hd
 | .tup xs,e,v,0,hd,he,h1,h2=>by cases hd
 | .lst xs,e,v,n+1,hd,he,h1,h2=>by
   unfold Rep at h1;obtain⟨a,vs,rfl,na,ha,ra⟩:=h1;cases e<;>unfold Rep at h2<;>try(cases h2;done)
   . unfold pl at he;cases he
   . obtain⟨a',vs',e',na',ha',ra'⟩:=h2;cases e'
     have:vs=vs':=by
      rcases ha with ha|⟨o,ha⟩<;>rcases ha' with ha'|⟨o',ha'⟩<;>(rw[ha]at ha';first|(cases ha';rfl)|(cases ha';done))
     subst this;rw[aG.inj n (by unfold pl at hd;exact hd) (by unfold pl at he;exact he) ra ra']
   . obtain⟨a',vs',e',na',ha',ra'⟩:=h2;cases e';rcases ha with ha|⟨o,ha⟩<;>(rw[ha]at ha';cases ha')
 | .tup xs,e,v,n+1,hd,he,h1,h2=>by
   unfold Rep at h1;obtain⟨a,vs,rfl,na,ha,ra⟩:=h1;cases e<;>unfold Rep at h2<;>try(cases h2;done)
   . unfold pl at he;cases he
   . obtain⟨a',vs',e',na',ha',ra'⟩:=h2;cases e';rcases ha' with ha'|⟨o,ha'⟩<;>(rw[ha]at ha';cases ha')
   . obtain⟨a',vs',e',na',ha',ra'⟩:=h2;cases e';rw[ha]at ha';cases ha';rw[aG.inj n (by unfold pl at hd;exact hd) (by unfold pl at he;exact he) ra ra']
theorem aG.inj{α:List (Option Addr)}{H:Hp}:∀ {ds es:List D} {vs:List V} (n:Nat),ds.all (pl n)=true->es.all (pl n)=true->aG α H ds vs->aG α H es vs->ds=es
 | [],es,vs,n,_,_,h1,h2=>by
   unfold aG at h1;subst h1;cases es with
   |nil=>rfl
   |cons e es=>unfold aG at h2;obtain⟨_,_,h,_⟩:=h2;cases h
 |d::ds,es,vs,n,hd,he,h1,h2=>by
  unfold aG at h1;obtain⟨v,r,rfl,r1,r2⟩:=h1;cases es with
  |nil=>unfold aG at h2;cases h2
  |cons e es=>
   unfold aG at h2;obtain⟨v',r',h,q1,q2⟩:=h2;cases h;rw[List.all_cons,Bool.and_eq_true]at hd he;rw[Rep.inj n hd.1 he.1 r1 q1,aG.inj n hd.2 he.2 r2 q2]
end
theorem kP:∀ {xs ys:List D},xs.length≠ys.length->i8 xs ys=false
 | [],[],h=>absurd rfl h
 | [],_::_,_=>by unfold i8;rfl
 |_::_,[],_=>by unfold i8;rfl
 |x::xs,y::ys,h=>by
  unfold i8;rw[kP (by simpa using h),Bool.and_false]
theorem kT:∀ {xs ys:List D},xs.length=ys.length->i8 xs ys=(List.range xs.length).all fun j=>bU (xs.getD j .aC) (ys.getD j .aC)
 | [],[],_=>by unfold i8;rfl
 | [],_::_,h=>by cases h
 |_::_,[],h=>by cases h
 |x::xs,y::ys,h=>by
  unfold i8;rw[List.length_cons,List.range_succ_eq_map,List.all_cons,List.all_map,kT (by simpa using h)];rfl
section
variable {X:Cx}{pins:List (Addr×Obj)}{σ:L2.St}{H:Hp}{s:Shared}{α:List (Option Addr)}
theorem ix{xs:List D}{vs:List V}{its:List Value}(r:aG α H xs vs)(v:Vals vs its)(j:Nat)(hj:j<its.length):∃x,xs[j]?=some (xs.getD j .aC)/\Rep α H (xs.getD j .aC) x/\RelV x its[j]:=by
 have h1:=r.length;have h2:=v.length;have hx:j<xs.length:=by omega
 have e:xs[j]?=some (xs.getD j .aC):=by rw[List.getElem?_eq_getElem hx,List.getD_eq_getElem?_getD,List.getElem?_eq_getElem hx];rfl
 obtain⟨x,q,rr⟩:=r.get e;obtain⟨u,q2,rv⟩:=v.get q;rw[List.getElem?_eq_getElem hj]at q2;cases q2;exact⟨x,e,rr,rv⟩
theorem gB{xs:List D}{n:Nat}(h:xs.all (pl n)=true)(j:Nat):pl n (xs.getD j .aC)=true:=by
 rw[List.getD_eq_getElem?_getD];cases e:xs[j]? with
 |none=>cases n<;>rfl
 |some d=>exact List.all_eq_true.mp h d (List.mem_of_getElem? e)
def tR:D->Bool
 | .aC=>true
 | .bl _=>true
 | .int _=>true
 | .str _=>true
 |_=>false
theorem xi{A:Around}{d e:D}{x y:V}{u v:Value}(hd:tR d=true)(he:tR e=true)(rd:Rep α H d x)(re:Rep α H e y)(rx:RelV x u)(ry:RelV y v):RcAt A s u v (bU d e)/\EqAt A s u v (bU d e):=by
 cases d<;>cases e<;>try(first|(cases hd;done)|(cases he;done))
 all_goals(unfold Rep at rd re;subst rd re)
 all_goals(first|(obtain⟨t,rfl⟩:=rx;obtain⟨t',rfl⟩:=ry)|(obtain⟨t,rfl⟩:=rx;cases ry)|(cases rx;obtain⟨t,rfl⟩:=ry)|(cases rx;cases ry))
 all_goals unfold bU
 . exact⟨RcAt.none_none,EqAt.same _⟩
 . exact⟨RcAt.none_bool _,EqAt.none_bool _⟩
 . exact⟨RcAt.none_int _ _,EqAt.none_int _ _⟩
 . exact⟨RcAt.none_str _ _,EqAt.none_str _ _⟩
 . exact⟨RcAt.bool_none _,EqAt.bool_none _⟩
 . exact⟨RcAt.bool_bool _ _,EqAt.bool_bool _ _⟩
 . exact⟨RcAt.bool_int _ _ _,EqAt.bool_int _ _ _⟩
 . exact⟨RcAt.bool_str _ _ _,EqAt.bool_str _ _ _⟩
 . exact⟨RcAt.int_none _ _,EqAt.int_none _ _⟩
 . exact⟨RcAt.int_bool _ _ _,EqAt.int_bool _ _ _⟩
 . exact⟨RcAt.int_int _ _ _ _,EqAt.int_int _ _ _ _⟩
 . exact⟨RcAt.int_str _ _ _ _,EqAt.int_str _ _ _ _⟩
 . exact⟨RcAt.str_none _ _,EqAt.str_none _ _⟩
 . exact⟨RcAt.str_bool _ _ _,EqAt.str_bool _ _ _⟩
 . exact⟨RcAt.str_int _ _ _ _,EqAt.str_int _ _ _ _⟩
 . exact⟨RcAt.str_str _ _ _ _,EqAt.str_str _ _ _ _⟩
theorem lst_is(I:Inv X pins σ H s){xs:List D}{x:V}{u:Value}(r:Rep α H (.lst xs) x)(rx:RelV x u):∃a vs its,u= .ref a/\aG α H xs vs/\Vals vs its/\s.heap.IsList a its.toArray:=by
 unfold Rep at r;obtain⟨a,vs,rfl,na,ha,ra⟩:=r;cases rx;obtain⟨z,its,n,rv,hl,eo⟩:=Inv.sG I ha;exact⟨a,vs,its,rfl,ra,rv,⟨_,eo,rfl,n,rfl⟩⟩
theorem tup_is(I:Inv X pins σ H s){xs:List D}{x:V}{u:Value}(r:Rep α H (.tup xs) x)(rx:RelV x u):∃a vs its,u= .ref a/\aG α H xs vs/\Vals vs its/\s.heap.IsTuple a its.toArray:=by
 unfold Rep at r;obtain⟨a,vs,rfl,na,ha,ra⟩:=r;cases rx;obtain⟨its,r',p,hz⟩:=I.tuple (gn.of ha);exact⟨a,vs,its,rfl,ra,r',p⟩
theorem t6(I:Inv X pins σ H s){A:Around}{xs:List D}{e:D}{x y:V}{u v:Value}(he:tR e=true)(rd:Rep α H (.lst xs) x)(re:Rep α H e y)(rx:RelV x u)(ry:RelV y v)(hu:A.units<cLine):
 (RcAt A s u v (bU (.lst xs) e)/\EqAt A s u v (bU (.lst xs) e))/\RcAt A s v u (bU e (.lst xs))/\EqAt A s v u (bU e (.lst xs)):=by
 obtain⟨a,vs,its,rfl,_,_,hl⟩:=lst_is I rd rx;cases e<;>try(cases he;done)
 all_goals(unfold Rep at re;subst re)
 all_goals(first|(obtain⟨t,rfl⟩:=ry)|(cases ry))
 all_goals unfold bU
 . exact⟨⟨RcAt.list_none hl hu,EqAt.list_none hl hu⟩,RcAt.none_list hl hu,EqAt.none_list hl hu⟩
 . exact⟨⟨RcAt.list_bool _ hl hu,EqAt.list_bool _ hl hu⟩,RcAt.bool_list _ hl hu,EqAt.bool_list _ hl hu⟩
 . exact⟨⟨RcAt.list_int _ _ hl hu,EqAt.list_int _ _ hl hu⟩,RcAt.int_list _ _ hl hu,EqAt.int_list _ _ hl hu⟩
 . exact⟨⟨RcAt.list_str _ _ hl hu,EqAt.list_str _ _ hl hu⟩,RcAt.str_list _ _ hl hu,EqAt.str_list _ _ hl hu⟩
theorem tT(I:Inv X pins σ H s){A:Around}{xs:List D}{e:D}{x y:V}{u v:Value}(he:tR e=true)(rd:Rep α H (.tup xs) x)(re:Rep α H e y)(rx:RelV x u)(ry:RelV y v)(hu:A.units<cLine):
 (RcAt A s u v (bU (.tup xs) e)/\EqAt A s u v (bU (.tup xs) e))/\RcAt A s v u (bU e (.tup xs))/\EqAt A s v u (bU e (.tup xs)):=by
 obtain⟨a,vs,its,rfl,_,_,hl⟩:=tup_is I rd rx;cases e<;>try(cases he;done)
 all_goals(unfold Rep at re;subst re)
 all_goals(first|(obtain⟨t,rfl⟩:=ry)|(cases ry))
 all_goals unfold bU
 . exact⟨⟨RcAt.tuple_none hl hu,EqAt.tuple_none hl hu⟩,RcAt.none_tuple hl hu,EqAt.none_tuple hl hu⟩
 . exact⟨⟨RcAt.tuple_bool _ hl hu,EqAt.tuple_bool _ hl hu⟩,RcAt.bool_tuple _ hl hu,EqAt.bool_tuple _ hl hu⟩
 . exact⟨⟨RcAt.tuple_int _ _ hl hu,EqAt.tuple_int _ _ hl hu⟩,RcAt.int_tuple _ _ hl hu,EqAt.int_tuple _ _ hl hu⟩
 . exact⟨⟨RcAt.tuple_str _ _ hl hu,EqAt.tuple_str _ _ hl hu⟩,RcAt.str_tuple _ _ hl hu,EqAt.str_tuple _ _ hl hu⟩
theorem xj{A:Around}{n:Nat}{d e:D}{x y:V}{a b:Addr}(hd:pl n d=true)(he:pl n e=true)(rd:Rep α H d x)(re:Rep α H e y)(rx:RelV x (.ref a))(ry:RelV y (.ref b))(h:RcAt A s (.ref a) (.ref b) (bU d e)):
 RcAt A s (.ref a) (.ref b) (bU d e)/\EqAt A s (.ref a) (.ref b) (bU d e):=by
 refine⟨h,?_⟩;by_cases hab:a=b
 . subst hab;have hx:x=y:=RelV.inj rx ry;subst hx;have:=Rep.inj n hd he rd re;subst this;rw[qu n d hd];exact EqAt.same _
 . exact EqAt.of_refs hab h
theorem yl(I:Inv X pins σ H s):∀(n:Nat) (A:Around) (d e:D) (x y:V) (u v:Value),pl n d=true->pl n e=true->Rep α H d x->Rep α H e y->RelV x u->RelV y v->A.units+n<cLine->
 RcAt A s u v (bU d e)/\EqAt A s u v (bU d e):=by
 intro n;induction n with
 |zero=>
  intro A d e x y u v hd he rd re rx ry hu;refine xi ?_ ?_ rd re rx ry
  . cases d<;>first|rfl|(cases hd)
  . cases e<;>first|rfl|(cases he)
 |succ n ih=>
  intro A d e x y u v hd he rd re rx ry hu;have hu0:A.units<cLine:=by omega
  have hin:A.in1.units+n<cLine:=by rw[Around.in1_units];omega
  cases d<;>try(cases hd;done)
  case lst xs=>
   cases e<;>try(cases he;done)
   case lst ys=>
    have rd0:=rd;have re0:=re;have rx0:=rx;have ry0:=ry;obtain⟨a,vs,its,rfl,r1,v1,l1⟩:=lst_is I rd rx;obtain⟨b,ws,jts,rfl,r2,v2,l2⟩:=lst_is I re ry;have e1:=r1.length;have e2:=v1.length;have e3:=r2.length;have e4:=v2.length;refine xj hd he rd0 re0 rx0 ry0 ?_;unfold bU;by_cases hlen:xs.length=ys.length
    . rw[kT hlen];have hsz:its.toArray.size=jts.toArray.size:=by simp only[List.size_toArray];omega
      have hx:xs.length=its.toArray.size:=by simp only[List.size_toArray];omega
      rw[hx];refine RcAt.lists l1 l2 hsz hu0 fun j h1 h2=>?_;have h1':j<its.length:=by simpa using h1
      have h2':j<jts.length:=by simpa using h2
      obtain⟨p,_,q1,q2⟩:=ix r1 v1 j h1';obtain⟨p',_,q1',q2'⟩:=ix r2 v2 j h2';exact(ih A.in1 _ _ p p' _ _ (gB (by unfold pl at hd;exact hd) j) (gB (by unfold pl at he;exact he) j) q1 q1' (by simpa using q2) (by simpa using q2') hin).2
    . rw[kP hlen];exact RcAt.lists_lengths l1 l2 (by simp only[List.size_toArray,bne_iff_ne,ne_eq];omega) hu0
   case tup ys=>
    obtain⟨a,vs,its,rfl,r1,v1,l1⟩:=lst_is I rd rx;obtain⟨b,ws,jts,rfl,r2,v2,l2⟩:=tup_is I re ry;unfold bU;exact⟨RcAt.list_tuple l1 l2 hu0,EqAt.list_tuple l1 l2 hu0⟩
   all_goals exact(t6 I rfl rd re rx ry hu0).1
  case tup xs=>
   cases e<;>try(cases he;done)
   case tup ys=>
    have rd0:=rd;have re0:=re;have rx0:=rx;have ry0:=ry;obtain⟨a,vs,its,rfl,r1,v1,l1⟩:=tup_is I rd rx;obtain⟨b,ws,jts,rfl,r2,v2,l2⟩:=tup_is I re ry;have e1:=r1.length;have e2:=v1.length;have e3:=r2.length;have e4:=v2.length;refine xj hd he rd0 re0 rx0 ry0 ?_;unfold bU
    have key:=RcAt.tuples (e:=fun j=>bU (xs.getD j .aC) (ys.getD j .aC)) l1 l2 hu0 fun j h1 h2=>by
     have h1':j<its.length:=by simpa using h1
     have h2':j<jts.length:=by simpa using h2
     obtain⟨p,_,q1,q2⟩:=ix r1 v1 j h1';obtain⟨p',_,q1',q2'⟩:=ix r2 v2 j h2';exact(ih A.in1 _ _ p p' _ _ (gB (by unfold pl at hd;exact hd) j) (gB (by unfold pl at he;exact he) j) q1 q1' (by simpa using q2) (by simpa using q2') hin).2
    by_cases hlen:xs.length=ys.length
    . rw[kT hlen];have hsz:its.toArray.size=jts.toArray.size:=by simp only[List.size_toArray];omega
      have hx:xs.length=its.toArray.size:=by simp only[List.size_toArray];omega
      rw[hsz,Nat.min_self,beq_self_eq_true,Bool.and_true,<-hsz,<-hx]at key;exact key
    . rw[kP hlen];have hne:(its.toArray.size==jts.toArray.size)=false:=by simp only[List.size_toArray,beq_eq_false_iff_ne,ne_eq];omega
      rw[hne,Bool.and_false]at key;exact key
   case lst ys=>
    obtain⟨a,vs,its,rfl,r1,v1,l1⟩:=tup_is I rd rx;obtain⟨b,ws,jts,rfl,r2,v2,l2⟩:=lst_is I re ry;unfold bU;exact⟨RcAt.tuple_list l1 l2 hu0,EqAt.tuple_list l1 l2 hu0⟩
   all_goals exact(tT I rfl rd re rx ry hu0).1
  all_goals
   cases e<;>try(cases he;done)
   case lst ys=>exact(t6 I rfl re rd ry rx hu0).2
   case tup ys=>exact(tT I rfl re rd ry rx hu0).2
   all_goals exact xi rfl rfl rd re rx ry
def Gy:cx:=fun x y st K=>pl 40 x=true/\pl 40 y=true/\K (.bl (bU x y)) st
theorem KR{k:Nat}(hr:bO k X.A):bG X (compareOp .Eq) (LR Gy):=fun pins s σ H x y v u Q I rx ry ⟨α,d,e,st,K,G,F',P,r1,r2,S,q,k⟩=>by
 have hu:=hr.units;exact(yl I 40 X.A d e x y v u q.1 q.2.1 (r1.mono P.same) (r2.mono P.same) rx ry (by omega)).1 _ _ _ _ ⟨.bl (bU d e),H,I,rfl,k.here P q.2.2 S (by unfold Rep;rfl)⟩
def GU:cx:=fun x y st K=>match x,y with
 | .int i,.int j=>K (.bl (!decide (i=j))) st
 | .bl i,.bl j=>K (.bl (!decide (i=j))) st
 | .str i,.str j=>K (.bl (!decide (i=j))) st
 |_,_=>False
theorem K8:bG X (compareOp .NotEq) (LR GU):=bG.imp JQ fun x y H Q ⟨α,d,e,st,K,G,F',P,r1,r2,S,q,k⟩=>by
 cases d<;>cases e<;>try exact q.elim
 all_goals(unfold Rep at r1 r2;subst r1 r2)
 . exact⟨rfl,k.here P q S (by unfold Rep;congr 2;exact decide_eq_decide.mpr ⟨fun h=>by cases h;rfl,fun h=>by rw[h]⟩)⟩
 . exact⟨rfl,k.here P q S (by unfold Rep;congr 2;exact decide_eq_decide.mpr ⟨fun h=>by cases h;rfl,fun h=>by rw[h]⟩)⟩
 . exact⟨rfl,k.here P q S (by unfold Rep;congr 2;exact decide_eq_decide.mpr ⟨fun h=>by cases h;rfl,fun h=>by rw[h]⟩)⟩
end
end L3
namespace L3
open PySem PySem.Spec L2
open PyProof.Rows hiding St
def LC(α:List (Option Addr))(G F:Hp)(K:a_->ag->Prop)(Q:L2.St->Hp->Prop):Prop:=∀σd' st',K σd' st'->∀α' G' H' σ',Step α G α' G'->bj G' F H'->cC α' G' σd' σ'->aL α' st' G'->Q σ' H'
structure qI(α:List (Option Addr))(G F:Hp)(DD:g_)(D:Ends):Prop where
 nx:LC α G F DD.nx D.nx
 rt:LK α G F DD.rt D.rt
 bk:LC α G F DD.bk D.bk
 ct:LC α G F DD.ct D.ct
inductive Kv(t:DS)(D:Ends)(σ:L2.St)(H:Hp):Prop
 |mk (α:List (Option Addr)) (σd:a_) (st:ag) (DD:g_) (G F:Hp) (P:bj G F H) (R:cC α G σd σ) (S:aL α st G) (h:t DD σd st) (k:qI α G F DD D):Kv t D σ H
def LS(t:DS):TS:=Kv t
theorem LC.at{α α1:List (Option Addr)}{G F G1:Hp}{K:a_->ag->Prop}{Q:L2.St->Hp->Prop}(h:LC α G F K Q)(s:Step α G α1 G1):LC α1 G1 F K Q:=fun d st' k α' G' H' v s' P R S=>h d st' k α' G' H' v (s.trans s') P R S
theorem LC.here{α:List (Option Addr)}{G F H:Hp}{K:a_->ag->Prop}{Q:L2.St->Hp->Prop}(h:LC α G F K Q)(P:bj G F H){σd:a_}{st:ag}{σ:L2.St}(k:K σd st)(R:cC α G σd σ)(S:aL α st G):Q σ H:=h σd st k α G H σ Step.refl P R S
theorem qI.at{α α1:List (Option Addr)}{G F G1:Hp}{DD:g_}{D:Ends}(h:qI α G F DD D)(s:Step α G α1 G1):qI α1 G1 F DD D:=⟨h.nx.at s,h.rt.at s,h.bk.at s,h.ct.at s⟩
section
variable {X:Cx}{a b c e o i:Expr}{es:List Expr}{ta tb tc te:DE}{pos:Pos}{st:Stmt}{sts:List Stmt}{t u:DS}
theorem PS.imp{t t':TS}(h:PS X st t)(f:∀D σ H,t' D σ H->t D σ H):PS X st t':=fun pins s σ H D I q=>h pins s σ H D I (f D σ H q)
theorem c9.imp{t t':TS}(h:c9 X sts t)(f:∀D σ H,t' D σ H->t D σ H):c9 X sts t':=fun pins s σ H D I q=>h pins s σ H D I (f D σ H q)
def dw:DS:=fun D σ st=>D.nx σ st
def aO(t u:DS):DS:=fun D σ st=>t {D with nx:=u D} σ st
theorem xB:c9 X [] (LS dw):=c9.imp rV fun D σ H ⟨α,σd,st,DD,G,F,P,R,S,t,k⟩=>k.nx.here P t R S
theorem ES(h:PS X st (LS t)):c9 X [st] (LS t):=l7 h
theorem Cv(h:PS X st (LS t))(h2:c9 X sts (LS u)):c9 X (st::sts) (LS (aO t u)):=c9.imp (ia h h2) fun D σ H ⟨α,σd,st,DD,G,F,P,R,S,t,k⟩=>
 ⟨α,σd,st,_,G,F,P,R,S,t,fun σd' st' q α' G' H' σ' s' P' R' S'=>⟨α',σd',st',DD,G',F,P',R',S',q,k.at s'⟩,k.rt,k.bk,k.ct⟩
def cj(te:DE):DS:=fun D σ st=>te σ st D.rt
theorem F2(h:PE X e (LE te)):PS X (.Return (some e) pos) (LS (cj te)):=PS.imp (rD h) fun D σ H ⟨α,σd,st,DD,G,F,P,R,S,t,k⟩=>⟨α,σd,st,_,G,F,P,R,S,t,k.rt⟩
def fu(te:DE):DS:=fun D σ st=>te σ st fun _ st1=>D.nx σ st1
theorem DN(h:PE X e (LE te))(hs:swapsWith e none pos.line X.env=pure false:=by rfl):PS X (.Expr e pos) (LS (fu te)):=PS.imp (Fu h hs) fun D σ H ⟨α,σd,st,DD,G,F,P,R,S,t,k⟩=>
 ⟨α,σd,st,_,G,F,P,R,S,t,fun d st1 q α1 G1 H1 v s1 P1 S1 r1=>(k.nx.at s1).here P1 q (R.step s1) S1⟩
def dG(c:DT)(t u:DS):DS:=fun D σ st=>c σ st fun b st1=>if b=true then t D σ st1 else u D σ st1
theorem Jy{x y:List Stmt}{tc:DT}(hc:PT X c (LT tc))(ha:c9 X x (LS t))(hb:c9 X y (LS u)):PS X (.If c x y pos) (LS (dG tc t u)):=PS.imp (uy hc ha hb) fun D σ H ⟨α,σd,st,DD,G,F,P,R,S,t,k⟩=>by
 refine⟨α,σd,st,_,G,F,P,R,S,t,fun b st1 q α1 G1 H1 s1 P1 S1=>?_⟩;cases b with
 |true=>exact⟨α1,σd,st1,DD,G1,F,P1,R.step s1,S1,q,k.at s1⟩
 |false=>exact⟨α1,σd,st1,DD,G1,F,P1,R.step s1,S1,q,k.at s1⟩
abbrev eL:=D->a_->Option a_
def bo(i:Nat):eL:=fun d σ=>some (σ.set i (some d))
def kb(i j:Nat):eL:=fun d σ=>match d with| .tup [x,y]=>some ((σ.set i (some x)).set j (some y))|_=>none
inductive Kp(t:eL)(v:V)(σ:L2.St)(H:Hp)(Q:L2.St->Hp->Prop):Prop
 |mk (α:List (Option Addr)) (σd:a_) (st:ag) (d:D) (K:a_->ag->Prop) (G F:Hp) (P:bj G F H) (R:cC α G σd σ) (S:aL α st G) (r:Rep α G d v) (h:∃σ',t d σd=some σ'/\K σ' st) (k:LC α G F K Q):Kp t v σ H Q
def LG(t:eL):TG:=Kp t
theorem PG.imp{tg:Expr}{t t':TG}(h:PG X tg t)(f:∀v σ H Q,t' v σ H Q->t v σ H Q):PG X tg t':=fun pins s σ H v u Q I r q=>h pins s σ H v u Q I r (f v σ H Q q)
theorem EW{tg:Expr}{i:Nat}(h:PG X tg (gF i)):PG X tg (LG (bo i)):=PG.imp h fun v σ H Q ⟨α,σd,st,d,K,G,F,P,R,S,r,⟨σ',e,q⟩,k⟩=>by
 cases e;exact k.here P q (R.set i r) S
theorem Hc{tg:Expr}{i j:Nat}(h:PG X tg (Hl X.K 2 (qF (gF i) (qF (gF j) CA)))):PG X tg (LG (kb i j)):=PG.imp h fun v σ H Q ⟨α,σd,st,d,K,G,F,P,R,S,r,⟨σ',e,q⟩,k⟩=>by
 unfold kb at e;split at e
 . rename_i x y;cases e;unfold Rep at r;obtain⟨a,vs,rfl,na,h1,h2⟩:=r;obtain⟨v1,v2,rfl,r1,r2⟩:=j0 h2 rfl;exact⟨a,_,rfl,.of (P.get h1),rfl,v1,_,rfl,v2,_,rfl,rfl,k.here P q ((R.set i r1).set j r2) S⟩
 . cases e
def a9(i:Nat)(te:DE):DS:=fun D σ st=>te σ st fun d st1=>D.nx (σ.set i (some d)) st1
theorem GA{i:Nat}(h:PS X st (hZ (LE te) (gF i))):PS X st (LS (a9 i te)):=PS.imp h fun D σ H ⟨α,σd,st,DD,G,F,P,R,S,t,k⟩=>
 ⟨α,σd,st,_,G,F,P,R,S,t,fun d st1 q α1 G1 H1 v s1 P1 S1 r1=>(k.nx.at s1).here P1 q ((R.step s1).set i r1) S1⟩
def Ci(i j:Nat)(ta:DA):DS:=fun D σ st=>ta σ st fun ds st1=>match ds with| [x,y]=>D.nx ((σ.set i (some x)).set j (some y)) st1|_=>False
theorem HC{i j:Nat}{ta:DA}(h:PS X st (FR i j (LA ta))):PS X st (LS (Ci i j ta)):=PS.imp h fun D σ H ⟨α,σd,st,DD,G,F,P,R,S,t,k⟩=>by
 refine⟨α,σd,st,_,G,F,P,R,S,t,fun ds st1 q α1 G1 H1 vs s1 P1 S1 r1=>?_⟩;match ds,q,r1 with
 | [x,y],q,r1=>
   obtain⟨v1,v2,rfl,q1,q2⟩:=j0 r1 rfl;exact⟨v1,v2,rfl,(k.nx.at s1).here P1 q (((R.step s1).set i q1).set j q2) S1⟩
def yr(i:Nat)(r:cx)(te:DE):DS:=fun D σ st=>match σ[i]? with|some (some x)=>te σ st fun y st1=>r x y st1 fun z st2=>D.nx (σ.set i (some z)) st2|_=>False
def vG(f:Int->Int->Int):cx:=fun x y st K=>match x,y with| .int i,.int j=>K (.int (f i j)) st|_,_=>False
theorem HB{i:Nat}{f:Int->Int->Int}(h:PS X st (GB i (LE te) (Gs f))):PS X st (LS (yr i (vG f) te)):=PS.imp h fun D σ H ⟨α,σd,st,DD,G,F,P,R,S,t,k⟩=>by
 unfold yr at t;split at t
 . rename_i x e;obtain⟨v,ev,rv⟩:=R.at' i x e;refine⟨v,ev,α,σd,st,_,G,F,P,R,S,t,fun y st1 q α1 G1 H1 w s1 P1 S1 r1=>?_⟩;cases x<;>cases y<;>try exact q.elim
   have rv':=rv;unfold Rep at rv r1;exact⟨_,_,rv,r1,(k.nx.at s1).here P1 q ((R.step s1).set i (by unfold Rep;rfl)) S1⟩
 . exact t.elim
def vH(x y d:D)(st:ag)(K:ag->Prop):Prop:=match x,y with
 | .ref n,.int k=>(match st[n]? with
   |some (.lst xs)=>(match jG xs.length k with|some j=>K (st.set n (.lst (xs.set j d)))|none=>False)
   |_=>False)
 |_,_=>False
def Hj(to ti te:DE):DS:=fun D σ st=>te σ st fun d st1=>to σ st1 fun x st2=>ti σ st2 fun y st3=>vH x y d st3 fun st4=>D.nx σ st4
theorem BY{to ti:DE}(h:PS X st (hZ (LE te) (sR (LE to) (LE ti) oM))):PS X st (LS (Hj to ti te)):=PS.imp h fun D σ H ⟨α,σd,st,DD,G,F,P,R,S,t,k⟩=>by
 refine⟨α,σd,st,_,G,F,P,R,S,t,fun d st1 q α1 G1 H1 v s1 P1 S1 r1=>?_⟩;refine⟨α1,σd,st1,_,G1,F,P1,R.step s1,S1,q,fun x st2 q2 α2 G2 H2 v2 s2 P2 S2 r2=>?_⟩;refine⟨α2,σd,st2,_,G2,F,P2,(R.step s1).step s2,S2,q2,fun y st3 q3 α3 G3 H3 v3 s3 P3 S3 r3=>?_⟩;cases x<;>cases y<;>try exact q3.elim
 rename_i n kk;unfold vH at q3;simp only at q3;split at q3
 . rename_i xs e;split at q3
   . rename_i j ej;obtain⟨p,ep,vs,hv,rv⟩:=S3.eX e;have r2':=cY ep (r2.step s3);subst r2';unfold Rep at r3;have hm:some p∈α3:=List.mem_of_getElem? ep;have rd:=(r1.step s2).step s3;refine⟨p,vs,kk,j,rfl,r3,P3.get hv,by rw[<-rv.length];exact ej,?_⟩;refine(((k.nx.at s1).at s2).at s3) σd _ q3 α3 (upd G3 p (.lst (vs.set j v))) _ σ (Step.write hm) (P3.write hv) ((((R.step s1).step s2).step s3).step (Step.write hm)) ?_;exact S3.write ep ⟨vs.set j v,aK,(aI.mpr (mR rd j (aI.mp rv))).step (Step.write hm)⟩
   . exact q3.elim
 . exact q3.elim
def vX(c:DT)(tb:DS):DS:=fun D σ st=>∃W:Nat->a_->ag->Prop,(∃m,W m σ st)/\∀m σ st,W m σ st->
 c σ st fun b st1=>if b=true then tb {D with nx:=fun σ' st'=>∃m',m'<m/\W m' σ' st',ct:=fun σ' st'=>∃m',m'<m/\W m' σ' st',bk:=D.nx} σ st1 else D.nx σ st1
theorem CB{tc:DT}(h:PS X st (Az (LT tc) (LS t))):PS X st (LS (vX tc t)):=PS.imp h fun D σ H ⟨α,σd,st,DD,G,F,P,R,S,⟨W,⟨m0,w0⟩,turn⟩,k⟩=>by
 refine⟨fun m σ' H'=>∃α' σd' st' G',Step α G α' G'/\bj G' F H'/\cC α' G' σd' σ'/\aL α' st' G'/\W m σd' st',⟨m0,α,σd,st,G,Step.refl,P,R,S,w0⟩,?_⟩;rintro m σ1 H1 ⟨α1,σd1,st1,G1,s1,P1,R1,S1,w1⟩;refine⟨α1,σd1,st1,_,G1,F,P1,R1,S1,turn m σd1 st1 w1,fun b st2 q α2 G2 H2 s2 P2 S2=>?_⟩;cases b with
 |false=>exact((k.nx.at s1).at s2).here P2 q (R1.step s2) S2
 |true=>
  refine⟨fun σ' H'=>∃m',m'<m/\∃α' σd' st' G',Step α G α' G'/\bj G' F H'/\cC α' G' σd' σ'/\aL α' st' G'/\W m' σd' st',fun σ' H' z=>z,?_⟩;refine⟨α2,σd1,st2,_,G2,F,P2,R1.step s2,S2,q,?_⟩;refine⟨?_,(k.rt.at s1).at s2,(k.nx.at s1).at s2,?_⟩
  . rintro σd3 st3 ⟨m',hm,w3⟩ α3 G3 H3 σ3 s3 P3 R3 S3;exact⟨m',hm,α3,σd3,st3,G3,(s1.trans s2).trans s3,P3,R3,S3,w3⟩
  . rintro σd3 st3 ⟨m',hm,w3⟩ α3 G3 H3 σ3 s3 P3 R3 S3;exact⟨m',hm,α3,σd3,st3,G3,(s1.trans s2).trans s3,P3,R3,S3,w3⟩
abbrev DI:=a_->ag->(List D->(ag->Prop)->ag->Prop)->Prop
structure sT(J:It)(α:List (Option Addr))(G:Hp)(ok:ag->Prop)(xs:List D):Prop where
 stop:∀(n:Nat) α' G' F' H' st',Step α G α' G'->bj G' F' H'->aL α' st' G'->ok st'->xs.length<=n->J.stop n H'
 go:∀(n:Nat) d α' G' F' H' st',Step α G α' G'->bj G' F' H'->aL α' st' G'->ok st'->xs[n]?=some d->J.go n H'
 mm:∀(n:Nat) d α' G' F' H' st' x H'',Step α G α' G'->bj G' F' H'->aL α' st' G'->ok st'->xs[n]?=some d->J.mm n H' x H''->∃G'',Step α' G' α' G''/\bj G'' F' H''/\aL α' st' G''/\Rep α' G'' d x
def LI(t:DI):TI:=fun σ H R=>∃α σd st K G F,bj G F H/\cC α G σd σ/\aL α st G/\t σd st K/\∀xs ok st1,K xs ok st1->∀J α1 G1 H1,Step α G α1 G1->bj G1 F H1->aL α1 st1 G1->sT J α1 G1 ok xs->R J H1
def sM(d:D)(st1:ag)(K:List D->(ag->Prop)->ag->Prop):Prop:=match d with
 | .lst xs=>K xs (fun _=>True) st1
 | .tup xs=>K xs (fun _=>True) st1
 | .ref n=>(match st1[n]? with|some (.lst xs)=>K xs (fun st'=>st'[n]?=some (.lst xs)) st1|_=>False)
 |_=>False
def IY(t:DE):DI:=fun σ st K=>t σ st fun d st1=>sM d st1 K
theorem xp{K:PySem.W.Frag}{a:Addr}{α:List (Option Addr)}{G:Hp}{ok:ag->Prop}{xs:List D}
 (h:∀α' G' st',Step α G α' G'->aL α' st' G'->ok st'->∃vs,Rd G' a (.lst vs)/\aG α' G' xs vs):sT (Hf K a) α G ok xs where
 stop:=fun n α' G' F' H' st' s P S o hn=>by
  obtain⟨vs,h1,h2⟩:=h α' G' st' s S o;exact⟨vs,.inl (eK P h1),by rw[<-h2.length];exact hn⟩
 go:=fun n d α' G' F' H' st' s P S o hn=>by
  obtain⟨vs,h1,h2⟩:=h α' G' st' s S o;obtain⟨v,e,_⟩:=h2.get hn;exact⟨vs,v,.inl (eK P h1),e⟩
 mm:=fun n d α' G' F' H' st' x H'' s P S o hn y=>by
  obtain⟨vs,h1,h2⟩:=h α' G' st' s S o;obtain⟨v,e,r⟩:=h2.get hn;obtain⟨rfl,y⟩:=y;have:=y vs (.inl (eK P h1));rw[e]at this;cases this;exact⟨G',Step.refl,P,S,r⟩
theorem HW{K:PySem.W.Frag}{a:Addr}{α:List (Option Addr)}{G:Hp}{ok:ag->Prop}{xs:List D}
 (h:∀α' G' st',Step α G α' G'->aL α' st' G'->ok st'->∃vs,G' a=some (.tup vs)/\aG α' G' xs vs):sT (F0 K a) α G ok xs where
 stop:=fun n α' G' F' H' st' s P S o hn=>by
  obtain⟨vs,h1,h2⟩:=h α' G' st' s S o;exact⟨vs,.of (P.get h1),by rw[<-h2.length];exact hn⟩
 go:=fun n d α' G' F' H' st' s P S o hn=>by
  obtain⟨vs,h1,h2⟩:=h α' G' st' s S o;obtain⟨v,e,_⟩:=h2.get hn;exact⟨vs,v,.of (P.get h1),e⟩
 mm:=fun n d α' G' F' H' st' x H'' s P S o hn y=>by
  obtain⟨vs,h1,h2⟩:=h α' G' st' s S o;obtain⟨v,e,r⟩:=h2.get hn;obtain⟨rfl,y⟩:=y;have:=y vs (.of (P.get h1));rw[e]at this;cases this;exact⟨G',Step.refl,P,S,r⟩
theorem BP{α α':List (Option Addr)}{G G':Hp}{a:Addr}{vs:List V}{xs:List D}(s:Step α G α' G')(na:some a∉α)(h1:Rd G a (.lst vs))(h2:aG α G xs vs):Rd G' a (.lst vs)/\aG α' G' xs vs:=by
 refine⟨?_,h2.step s⟩;rcases h1 with h|⟨o,h⟩
 . exact .inl (s.ext _ _ na h)
 . exact .inr ⟨o,s.ext _ _ na h⟩
theorem Gr{l tg:Expr}{tl:DE}(hl:PE X l (LE tl)):PI X tg l (LI (IY tl)):=by
 intro pins s σ H R I h;obtain⟨α,σd,st,K,G,F,P,RS,S,t,k⟩:=h;refine bp (hl pins s σ H (fun x H1=>∃d α1 G1 st1,Step α G α1 G1/\bj G1 F H1/\aL α1 st1 G1/\Rep α1 G1 d x/\sM d st1 K) I ⟨α,σd,st,_,G,F,P,RS,S,t,fun d st1 q α1 G1 H1 v s1 P1 S1 r1=>⟨d,α1,G1,st1,s1,P1,S1,r1,q⟩⟩) fun v s1 ⟨x,H1,I1,rx,d,α1,G1,st1,s1',P1,S1,r1,q⟩=>?_;unfold sM at q
 have viaL:∀ {a:Addr} {vs:List V},x= .ref a->Rd H1 a (.lst vs)->R (Hf X.K a) H1->wpAny (model X.prog X.w) X.A (pyIter v) (CO X pins σ tg R) X.xe s1:=by
  intro a vs ex hr hR;subst ex;cases rx;obtain⟨its,rv,p,hz⟩:=I1.list (.inl hr);refine wpAny_pyIter_list p.isList ?_;refine⟨s1.heap.objs.size,[s1.heap.objs.size],_,_,H1,rfl,I1.kept (t':=s1.toks) fun b o e=>Heap.get?_push_of_some _ e,AB a _,⟨_,Heap.get?_push_size _ rfl,rfl,rfl⟩,fun b hb=>?_,hR⟩;have e:b=s1.heap.objs.size:=by simpa using hb
  subst e;exact I1.su (Nat.le_refl _) (I1.aB.fresh (Nat.le_refl _))
 have viaT:∀ {a:Addr} {vs:List V},x= .ref a->H1 a=some (.tup vs)->R (F0 X.K a) H1->wpAny (model X.prog X.w) X.A (pyIter v) (CO X pins σ tg R) X.xe s1:=by
  intro a vs ex hr hR;subst ex;cases rx;obtain⟨its,rv,p,hz⟩:=I1.tuple (gn.of hr);refine wpAny_pyIter_tuple (show s1.heap.IsTuple a its.toArray from p) ?_;refine⟨s1.heap.objs.size,[s1.heap.objs.size],_,_,H1,rfl,I1.kept (t':=s1.toks) fun b o e=>Heap.get?_push_of_some _ e,x6 a _,⟨_,Heap.get?_push_size _ rfl,rfl,rfl⟩,fun b hb=>?_,hR⟩;have e:b=s1.heap.objs.size:=by simpa using hb
  subst e;exact I1.su (Nat.le_refl _) (I1.aB.fresh (Nat.le_refl _))
 cases d<;>try exact q.elim
 . rename_i n;simp only at q;split at q
   . rename_i xs e;obtain⟨a,ea,vs,h1,h2⟩:=S1.eX e;have r1':=cY ea r1;subst r1';refine viaL rfl (eK P1 (.of h1)) (k _ _ st1 q _ α1 G1 H1 s1' P1 S1 (xp fun α' G' st' s S o=>?_));obtain⟨b,eb,ws,g1,g2⟩:=S.eX o
     have hb:b=a:=by
      rcases s.pre _ _ ea with z|z<;>(rw[z]at eb;cases eb)
      rfl
     subst hb;exact⟨ws,.of g1,g2⟩
   . exact q.elim
 . unfold Rep at r1;obtain⟨a,vs,rfl,na,ha,ra⟩:=r1;exact viaL rfl (eK P1 ha) (k _ _ st1 q _ α1 G1 H1 s1' P1 S1 (xp fun α' G' st' s S o=>⟨vs,BP s na ha ra⟩))
 . unfold Rep at r1;obtain⟨a,vs,rfl,na,ha,ra⟩:=r1;exact viaT rfl (P1.get ha) (k _ _ st1 q _ α1 G1 H1 s1' P1 S1 (HW fun α' G' st' s S o=>⟨vs,s.ext _ _ na ha,ra.step s⟩))
def cA(lo:Int)(n:Nat):List D:=(List.range n).map fun(k:Nat)=>D.int (lo+(k:Int))
theorem rG{lo:Int}{n k:Nat}:(cA lo n)[k]?=if k<n then some (.int (lo+(k:Int)))else none:=by
 unfold cA;rw[List.getElem?_map];by_cases h:k<n
 . rw[List.getElem?_range h,if_pos h];rfl
 . rw[List.getElem?_eq_none (by simpa using h),if_neg h];rfl
theorem gG{lo:Int}{n:Nat}:(cA lo n).length=n:=by unfold cA;simp
theorem u7{α:List (Option Addr)}{G:Hp}{lo:Int}{n:Nat}:sT (tJ lo n) α G (fun _=>True) (cA lo n) where
 stop:=fun m α' G' F' H' st' s P S o hn=>by rw[gG]at hn;exact hn
 go:=fun m d α' G' F' H' st' s P S o hn=>by
  rw[rG]at hn;split at hn
  . assumption
  . cases hn
 mm:=fun m d α' G' F' H' st' x H'' s P S o hn y=>by
  obtain⟨rfl,rfl⟩:=y;rw[rG]at hn;split at hn
  . cases hn;exact⟨G',Step.refl,P,S,by unfold Rep;rfl⟩
  . cases hn
theorem PI.imp{tg iter:Expr}{t t':TI}(h:PI X tg iter t)(f:∀σ H R,t' σ H R->t σ H R):PI X tg iter t':=fun pins s σ H R I q=>h pins s σ H R I (f σ H R q)
def Dl(ds:List D)(st1:ag)(K:List D->(ag->Prop)->ag->Prop):Prop:=match ds with
 | [.int j]=>(-(2^62)<=j/\j<2^62)/\K (cA 0 j.toNat) (fun _=>True) st1
 |_=>False
def Dp(ds:List D)(st1:ag)(K:List D->(ag->Prop)->ag->Prop):Prop:=match ds with
 | [.int i,.int j]=>(-(2^62)<=i/\i<2^62/\ -(2^62)<=j/\j<2^62)/\K (cA i (j-i).toNat) (fun _=>True) st1
 |_=>False
def EJ(t:DA):DI:=fun σ st K=>t σ st fun ds st1=>Dl ds st1 K
def EX(t:DA):DI:=fun σ st K=>t σ st fun ds st1=>Dp ds st1 K
theorem Af{tg iter:Expr}{t:DA}(h:PI X tg iter (yK (LA t))):PI X tg iter (LI (EJ t)):=PI.imp h fun σ H R ⟨α,σd,st,K,G,F,P,RS,S,t,k⟩=>by
 refine⟨α,σd,st,_,G,F,P,RS,S,t,fun ds st1 q α1 G1 H1 vs s1 P1 S1 r1=>?_⟩;match ds,q,r1 with
 | [.int j],q,r1=>
   obtain⟨v,rfl,r2⟩:=fJ r1 rfl;unfold Rep at r2;subst r2;exact⟨j,rfl,q.1.1,q.1.2,k _ _ st1 q.2 _ α1 G1 H1 s1 P1 S1 u7⟩
theorem zL{tg iter:Expr}{t:DA}(h:PI X tg iter (zd (LA t))):PI X tg iter (LI (EX t)):=PI.imp h fun σ H R ⟨α,σd,st,K,G,F,P,RS,S,t,k⟩=>by
 refine⟨α,σd,st,_,G,F,P,RS,S,t,fun ds st1 q α1 G1 H1 vs s1 P1 S1 r1=>?_⟩;match ds,q,r1 with
 | [.int i,.int j],q,r1=>
   obtain⟨v,u,rfl,r2,r3⟩:=j0 r1 rfl;unfold Rep at r2 r3;subst r2 r3;exact⟨i,j,rfl,q.1,k _ _ st1 q.2 _ α1 G1 H1 s1 P1 S1 u7⟩
def ff(tg:eL)(body:DS)(ok:ag->Prop)(E:g_):List D->a_->ag->Prop
 | [],σ,st=>ok st/\E.nx σ st
 |x::xs,σ,st=>ok st/\∃σ1,tg x σ=some σ1/\body {E with nx:=ff tg body ok E xs,ct:=ff tg body ok E xs,bk:=E.nx} σ1 st
def gq(src:DI)(tg:eL)(body:DS):DS:=fun D σ st=>src σ st fun xs ok st1=>ff tg body ok D xs σ st1
theorem GY{src:DI}{tg:eL}(h:PS X st (Hm (LI src) (LG tg) (LS t))):PS X st (LS (gq src tg t)):=PS.imp h fun D σ H ⟨α,σd,st,DD,G,F,P,R,S,tt,k⟩=>by
 refine⟨α,σd,st,_,G,F,P,R,S,tt,fun xs ok st1 q J α1 G1 H1 s1 P1 S1 it=>?_⟩;refine⟨fun i m σ' H'=>∃α' σd' st' G',Step α1 G1 α' G'/\bj G' F H'/\cC α' G' σd' σ'/\aL α' st' G'/\ff tg t ok DD (xs.drop i) σd' st'/\m=xs.length-i,⟨xs.length,α1,σd,st1,G1,Step.refl,P1,R.step s1,S1,q,rfl⟩,?_⟩;rintro i m σ2 H2 ⟨α2,σd2,st2,G2,s2,P2,R2,S2,q2,rfl⟩;cases e:xs[i]? with
 |none=>
  have hl:xs.length<=i:=List.getElem?_eq_none_iff.mp e;rw[List.drop_eq_nil_of_le hl]at q2;unfold ff at q2;exact .inl ⟨it.stop i α2 G2 F H2 st2 s2 P2 S2 q2.1 hl,((k.nx.at s1).at s2).here P2 q2.2 R2 S2⟩
 |some d=>
  have hl:i<xs.length:=(List.getElem?_eq_some_iff.mp e).1
  have ed:xs.drop i=d::xs.drop (i+1):=by
   rw[List.drop_eq_getElem_cons hl];congr 1;rw[List.getElem?_eq_getElem hl]at e;exact Option.some.inj e
  rw[ed]at q2;unfold ff at q2;obtain⟨aB,σ3,e3,q3⟩:=q2;refine .inr ⟨it.go i d α2 G2 F H2 st2 s2 P2 S2 aB e,fun σ' H'=>∃α' σd' st' G',Step α1 G1 α' G'/\bj G' F H'/\cC α' G' σd' σ'/\aL α' st' G'/\ff tg t ok DD (xs.drop (i+1)) σd' st',?_,?_⟩
  . rintro σ' H' ⟨α',σd',st',G',z1,z2,z3,z4,z5⟩;exact⟨xs.length-(i+1),by omega,α',σd',st',G',z1,z2,z3,z4,z5,rfl⟩
  . intro x H' y;obtain⟨G3,s3,P3,S3,r3⟩:=it.mm i d α2 G2 F H2 st2 x H' s2 P2 S2 aB e y;refine⟨α2,σd2,st2,d,fun σ' st'=>σ'=σ3/\st'=st2,G3,F,P3,R2.step s3,S3,r3,⟨σ3,e3,rfl,rfl⟩,?_⟩;rintro σ' st' ⟨rfl,rfl⟩ α4 G4 H4 σ4 s4 P4 R4 S4;have s24:=(s2.trans s3).trans s4;refine⟨α4,σ',st',_,G4,F,P4,R4,S4,q3,?_,((k.rt.at s1).at s24),(k.nx.at s1).at s24,?_⟩
    . intro σd5 st5 q5 α5 G5 H5 σ5 s5 P5 R5 S5;exact⟨α5,σd5,st5,G5,s24.trans s5,P5,R5,S5,q5⟩
    . intro σd5 st5 q5 α5 G5 H5 σ5 s5 P5 R5 S5;exact⟨α5,σd5,st5,G5,s24.trans s5,P5,R5,S5,q5⟩
end
def fE(fr:List (Option Nat))(σ:a_):a_:=fr.map fun o=>o.bind fun j=>(σ[j]?).join
theorem cC.comp{α:List (Option Addr)}{G:Hp}{σd:a_}{σ:L2.St}{fr:List (Option Nat)}(h:cC α G σd σ):cC α G (fE fr σd) (σC fr σ):=by
 refine⟨by unfold fE σC;simp,fun i d e=>?_⟩;unfold fE at e;rw[List.getElem?_map]at e;cases q:fr[i]? with
 |none=>rw[q]at e;cases e
 |some o=>
  rw[q]at e;cases o with
  |none=>simp at e
  |some j=>
   simp only[Option.map_some,Option.some.injEq,Option.bind_some]at e
   have ej:σd[j]?=some (some d):=by
    cases r:σd[j]? with
    |none=>rw[r]at e;cases e
    |some u=>rw[r]at e;simp at e;rw[e]
   obtain⟨v,ev,rv⟩:=h.at' j d ej;refine⟨v,?_,rv⟩;unfold σC;rw[List.getElem?_map,q];simp[ev]
def cX(tg:eL)(c:DT)(te:DE)(ok:ag->Prop)(σc:a_):List D->List D->ag->(List D->ag->Prop)->Prop
 | [],acc,st,K=>ok st/\K acc st
 |x::xs,acc,st,K=>ok st/\∃σ2,tg x σc=some σ2/\c σ2 st fun b st1=>if b=true then te σ2 st1 fun y st2=>cX tg c te ok σc xs (acc++[y]) st2 K else cX tg c te ok σc xs acc st1 K
def cU(src:DI)(fr:List (Option Nat))(tg:eL)(c:DT)(te:DE):DE:=fun σ st K=>src σ st fun xs ok st1=>xs.length<=sizeLine/\cX tg c te ok (fE fr σ) xs [] st1 fun ys st2=>K (.lst ys) st2
def jK(src:DI)(fr:List (Option Nat))(tg:eL)(c:DT)(te:DE):DE:=fun σ st K=>src σ st fun xs ok st1=>xs.length<=sizeLine/\cX tg c te ok (fE fr σ) xs [] st1 fun ys st2=>K (.ref st2.length) (st2++[.lst ys])
def bT:DT:=fun _ st K=>K true st
def nk(fr:List (Option Nat))(tg:eL):Prop:=∀(σ:a_) (d:D) (σ2:a_),tg d (fE fr σ)=some σ2->σ2.length=(fE fr σ).length/\∀(i:Nat) (e:D),(fE fr σ)[i]?=some (some e)->σ2[i]?=some (some e)
theorem nY{fr:List (Option Nat)}{σ:a_}{k:Nat}(h:fr[k]?=some none){e:D}(q:(fE fr σ)[k]?=some (some e)):False:=by
 unfold fE at q;rw[List.getElem?_map,h]at q;simp at q
theorem bX{fr:List (Option Nat)}{k:Nat}(h:fr[k]?=some none:=by rfl):nk fr (bo k):=fun σ d σ2 e=>by
 cases e;refine⟨List.length_set,fun i x q=>?_⟩;by_cases hi:i=k
 . subst hi;exact(nY h q).elim
 . rw[List.getElem?_set_ne (Ne.symm hi)];exact q
theorem o9{fr:List (Option Nat)}{k j:Nat}(h:fr[k]?=some none:=by rfl)(h':fr[j]?=some none:=by rfl):nk fr (kb k j):=fun σ d σ2 e=>by
 unfold kb at e;split at e
 . cases e;refine⟨by rw[List.length_set,List.length_set],fun i x q=>?_⟩;by_cases hi:i=k
   . subst hi;exact(nY h q).elim
   . by_cases hj:i=j
     . subst hj;exact(nY h' q).elim
     . rw[List.getElem?_set_ne (Ne.symm hj),List.getElem?_set_ne (Ne.symm hi)];exact q
 . cases e
section
variable {X:Cx}
theorem Gj{c:Expr}{t:DT}(h:PT X c (LT t)):nE X [c] (LT t):=D0 h
theorem BQ:nE X [] (LT bT):=fun pins s σ H Q I ⟨α,σd,st,K,G,F,P,R,S,t,k⟩=>ET pins s σ H Q I (k true st t α G H Step.refl P S)
theorem LE.comp{src:DI}{fr:List (Option Nat)}{tg:eL}{c:DT}{te:DE}(fit:nk fr tg){σ:L2.St}{H:Hp}{Q:VK}{α:List (Option Addr)}{σd:a_}{st:ag}{KE:List D->ag->Prop}{G F:Hp}(P:bj G F H)(R:cC α G σd σ)(S:aL α st G)
 (t:src σd st fun xs ok st1=>xs.length<=sizeLine/\cX tg c te ok (fE fr σd) xs [] st1 KE)
 (fin:∀ys st2 α2 G2 H2 l vs,KE ys st2->Step α G α2 G2->bj G2 (upd F l (.lst vs)) H2->F l=none->aL α2 st2 G2->aG α2 G2 ys vs->Q (.ref l) H2):
 pd (LI src) fr (LG tg) (LT c) (LE te) σ H Q:=by
 refine⟨α,σd,st,_,G,F,P,R,S,t,fun xs ok st1 q J α1 G1 H1 s1 P1 S1 it l hl=>?_⟩;obtain⟨hsz,q⟩:=q;obtain⟨hG,hF⟩:=P1.none hl
 refine⟨fun i m σ' H'=>∃α' st' G' acc vs,Step α1 G1 α' G'/\bj G' (upd F l (.lst vs)) H'/\cC α' G' (fE fr σd) σ'/\aL α' st' G'/\aG α' G' acc vs/\acc.length<=i/\i<=xs.length/\cX tg c te ok (fE fr σd) (xs.drop i) acc st' KE/\m=xs.length-i,
  ⟨xs.length,α1,st1,G1,[],[],Step.refl,P1.hide hl,(R.step s1).comp,S1,by unfold aG;rfl,Nat.le_refl _,Nat.zero_le _,q,rfl⟩,?_⟩
 rintro i m σ2 H2 ⟨α2,st2,G2,acc,vs,s2,P2,R2,S2,ra,hacc,hi,q2,rfl⟩;cases e:xs[i]? with
 |none=>
  have hl2:xs.length<=i:=List.getElem?_eq_none_iff.mp e;rw[List.drop_eq_nil_of_le hl2]at q2;unfold cX at q2;exact .inl ⟨it.stop i α2 G2 _ H2 st2 s2 P2 S2 q2.1 hl2,fin acc st2 α2 G2 H2 l vs q2.2 (s1.trans s2) P2 hF S2 ra⟩
 |some d=>
  have hl2:i<xs.length:=(List.getElem?_eq_some_iff.mp e).1
  have ed:xs.drop i=d::xs.drop (i+1):=by
   rw[List.drop_eq_getElem_cons hl2];congr 1;rw[List.getElem?_eq_getElem hl2]at e;exact Option.some.inj e
  rw[ed]at q2;unfold cX at q2;obtain⟨aB,σ3,e3,q3⟩:=q2;refine .inr ⟨it.go i d α2 G2 _ H2 st2 s2 P2 S2 aB e,fun σ' H'=>∃α' st' G' acc vs,Step α1 G1 α' G'/\bj G' (upd F l (.lst vs)) H'/\cC α' G' (fE fr σd) σ'/\aL α' st' G'/\aG α' G' acc vs/\acc.length<=i+1/\cX tg c te ok (fE fr σd) (xs.drop (i+1)) acc st' KE,?_,?_⟩
  . rintro σ' H' ⟨α',st',G',acc',vs',z1,z2,z3,z4,z5,z6,z7⟩;exact⟨xs.length-(i+1),by omega,α',st',G',acc',vs',z1,z2,z3,z4,z5,z6,hl2,z7,rfl⟩
  . intro x H' y;obtain⟨G3,s3,P3,S3,r3⟩:=it.mm i d α2 G2 _ H2 st2 x H' s2 P2 S2 aB e y;refine⟨α2,fE fr σd,st2,d,fun σ' st'=>σ'=σ3/\st'=st2,G3,_,P3,R2.step s3,S3,r3,⟨σ3,e3,rfl,rfl⟩,?_⟩;rintro σ' st' ⟨rfl,rfl⟩ α4 G4 H4 σ4 s4 P4 R4 S4;have s24:=(s2.trans s3).trans s4;have Rc:cC α4 G4 (fE fr σd) σ4:=⟨by rw[<-(fit σd d σ' e3).1];exact R4.len,fun j z hz=>R4.at' j z ((fit σd d σ' e3).2 j z hz)⟩
    refine⟨α4,σ',st',_,G4,_,P4,R4,S4,q3,fun b st5 q5 α5 G5 H5 s5 P5 S5=>?_⟩;cases b with
    |false=>exact⟨α5,st5,G5,acc,vs,s24.trans s5,P5,Rc.step s5,S5,((ra.step s3).step s4).step s5,by omega,q5⟩
    |true=>
     refine⟨α5,σ',st5,_,G5,_,P5,R4.step s5,S5,q5,fun z st6 q6 α6 G6 H6 v6 s6 P6 S6 r6=>?_⟩;have hr:=(((ra.step s3).step s4).step s5).step s6;refine⟨vs,(P6.frame aK).1,by rw[<-hr.length];omega,α6,st6,G6,acc++[z],vs++[v6],(s24.trans s5).trans s6,?_,(Rc.step s5).step s6,S6,aI.mpr (dE (aI.mp hr) (.cons r6 .nil)),by rw[List.length_append,List.length_singleton];omega,q6⟩;have:=P6.Lj (p:=l) (o':= .lst (vs++[v6])) aK;rw[Ec]at this;exact this
theorem G7{scope:Scope}{Nc:List Str}{elt tg iter:Expr}{ifs:List Expr}{pos:Pos}{src:DI}{fr:List (Option Nat)}{dtg:eL}{c:DT}{te:DE}(S:a5 X scope Nc fr)(hi:PI X tg iter (LI src))
 (hg:∀C s H ex,PG (dv X scope Nc C s H ex) tg (LG dtg)) (ht:∀C s H ex,nE (dv X scope Nc C s H ex) ifs (LT c)) (he:∀C s H ex,PE (dv X scope Nc C s H ex) elt (LE te)) (fit:nk fr dtg)
 (hx:X.xe=fun _ _=>False:=by rfl) (hc:X.calm=true:=by rfl) (hs:∀x,foldedSetIterable iter X.env x=pure x:=by intro _;rfl):PE X (.ListComp elt [⟨tg,iter,ifs,0⟩] scope pos) (LE (cU src fr dtg c te)):=
 PE.imp (xh hx hc S hi hg ht he hs) fun σ H Q ⟨α,σd,st,K,G,F,P,R,S,t,k⟩=>LE.comp fit P R S t fun ys st2 α2 G2 H2 l vs q s2 P2 hl S2 r=>by
  have hg:G2 l=none:=(P2.frame aK).2;refine k _ st2 q α2 (upd G2 l (.lst vs)) H2 (.ref l) (s2.trans (Step.laid hg)) (P2.show hl) (S2.laid hg) ?_;unfold Rep;exact⟨l,vs,rfl,S2.iH hg,.of aK,r.step (Step.laid hg)⟩
theorem EI{scope:Scope}{Nc:List Str}{elt tg iter:Expr}{ifs:List Expr}{pos:Pos}{src:DI}{fr:List (Option Nat)}{dtg:eL}{c:DT}{te:DE}(S:a5 X scope Nc fr)(hi:PI X tg iter (LI src))
 (hg:∀C s H ex,PG (dv X scope Nc C s H ex) tg (LG dtg)) (ht:∀C s H ex,nE (dv X scope Nc C s H ex) ifs (LT c)) (he:∀C s H ex,PE (dv X scope Nc C s H ex) elt (LE te)) (fit:nk fr dtg)
 (hx:X.xe=fun _ _=>False:=by rfl) (hc:X.calm=true:=by rfl) (hs:∀x,foldedSetIterable iter X.env x=pure x:=by intro _;rfl):PE X (.ListComp elt [⟨tg,iter,ifs,0⟩] scope pos) (LE (jK src fr dtg c te)):=
 PE.imp (xh hx hc S hi hg ht he hs) fun σ H Q ⟨α,σd,st,K,G,F,P,R,S,t,k⟩=>LE.comp fit P R S t fun ys st2 α2 G2 H2 l vs q s2 P2 hl S2 r=>by
  have hg:G2 l=none:=(P2.frame aK).2;refine k _ _ q (α2++[some l]) (upd G2 l (.lst vs)) H2 (.ref l) (s2.trans (Step.cell hg)) (P2.show hl) (S2.cell hg ⟨vs,aK,r.step (Step.cell hg)⟩) ?_;unfold Rep;refine .inr ⟨l,?_,rfl⟩;rw[List.getElem?_append_right (by rw[S2.len];exact Nat.le_refl _),S2.len,Nat.sub_self];rfl
theorem Eo{st:Stmt}{k:Nat}{src:DI}{fr:List (Option Nat)}{dtg:eL}{c:DT}{te:DE}(fit:nk fr dtg)(h:PS X st (hZ (pd (LI src) fr (LG dtg) (LT c) (LE te)) (gF k))):PS X st (LS (a9 k (cU src fr dtg c te))):=
 PS.imp h fun D σ H ⟨α,σd,st,DD,G,F,P,R,S,t,q⟩=>LE.comp fit P R S t fun ys st2 α2 G2 H2 l vs qq s2 P2 hl S2 r=>by
  have hg:G2 l=none:=(P2.frame aK).2;have s3:=s2.trans (Step.laid (o:= .lst vs) hg);refine q.nx _ st2 qq α2 (upd G2 l (.lst vs)) H2 _ s3 (P2.show hl) ((R.step s3).set k ?_) (S2.laid hg);unfold Rep;exact⟨l,vs,rfl,S2.iH hg,.of aK,r.step (Step.laid hg)⟩
theorem Bj{st:Stmt}{k:Nat}{src:DI}{fr:List (Option Nat)}{dtg:eL}{c:DT}{te:DE}(fit:nk fr dtg)(h:PS X st (hZ (pd (LI src) fr (LG dtg) (LT c) (LE te)) (gF k))):PS X st (LS (a9 k (jK src fr dtg c te))):=
 PS.imp h fun D σ H ⟨α,σd,st,DD,G,F,P,R,S,t,q⟩=>LE.comp fit P R S t fun ys st2 α2 G2 H2 l vs qq s2 P2 hl S2 r=>by
  have hg:G2 l=none:=(P2.frame aK).2;have s3:=s2.trans (Step.cell (o:= .lst vs) hg);refine q.nx _ _ qq (α2++[some l]) (upd G2 l (.lst vs)) H2 _ s3 (P2.show hl) ((R.step s3).set k ?_) (S2.cell hg ⟨vs,aK,r.step (Step.cell hg)⟩);unfold Rep;refine .inr ⟨l,?_,rfl⟩;rw[List.getElem?_append_right (by rw[S2.len];exact Nat.le_refl _),S2.len,Nat.sub_self];rfl
def a7(N:List Str)(ds:List D):a_:=ds.map some++List.replicate (N.length-ds.length) none
theorem cC.start{α:List (Option Addr)}{G:Hp}{N:List Str}{ds:List D}{vs:List V}(r:aG α G ds vs):cC α G (a7 N ds) (L2.start N vs):=by
 have hl:=r.length;refine⟨by unfold a7 L2.start;simp[hl],fun i d e=>?_⟩;unfold a7 at e;by_cases hi:i<ds.length
 . rw[List.getElem?_append_left (by simpa using hi),List.getElem?_map]at e;cases q:ds[i]? with
   |none=>rw[q]at e;cases e
   |some x=>
    rw[q]at e;cases e;obtain⟨v,ev,rv⟩:=r.get q;refine⟨v,?_,rv⟩;unfold L2.start;rw[List.getElem?_append_left (by rw[List.length_map];omega),List.getElem?_map,ev];rfl
 . rw[List.getElem?_append_right (by simpa using hi),List.getElem?_replicate]at e;split at e<;>cases e
theorem Jf{P:Program}{w:World}{K:PySem.W.Frag}{mg:Str->Option Value}{base:Heap}{x qual:Str}{st:Stmt}{f:Addr}{fd:FuncData}{N ps:List Str}{k:Nat}{sp:cq}{t:DS}(F:jy K x qual st f fd)(S:aY N ps (ai st))
 (hbody:∀(cdv:Value) (A:Around) (outer:List Env) (s:Shared) (H:Hp) (E:XK),bO k (A.deeper (envOfC qual (ai st) s.heap.objs.size f cdv))->c9 (eE cz P w K mg base N qual (ai st) f cdv A outer s H E).gb (d_ st) (LS t))
 (hsp:∀ds st K,sp ds st K->ds.length=ps.length/\t {nx:=fun _ st'=>K .aC st',rt:=K} (a7 N ds) st):bf P w K mg base cz (k+1) f fd ps (cH sp):=by
 refine F.ok S (fun vs H Q E h=>?_) fun cdv A outer s H vs Q E hr h=>⟨_,hbody cdv A outer s H E hr,?_⟩
 . obtain⟨α,ds,st,K,G,F,P,r,S,q,k⟩:=h;rw[<-r.length];exact(hsp ds st K q).1
 . obtain⟨α,ds,st,K,G,F,P,r,S,q,k⟩:=h;refine⟨α,a7 N ds,st,_,G,F,P,cC.start r,S,(hsp ds st K q).2,?_,k,?_,?_⟩
   . intro σd' st' kk α' G' H' σ' s' P' R' S';exact k .aC st' kk α' G' H' .aC s' P' S' (by unfold Rep;rfl)
   . intro σd' st' kk;exact kk.elim
   . intro σd' st' kk;exact kk.elim
def ma(to te:DE):DE:=fun σ st K=>to σ st fun x st1=>match x with
 | .ref n=>(match st1[n]? with
   |some (.lst _)=>te σ st1 fun y st2=>∃y',[y]=[y']/\(match st2[n]? with|some (.lst xs)=>xs.length<sizeLine/\K .aC (st2.set n (.lst (xs++[y'])))|_=>False)
   |_=>False)
 |_=>False
end
structure cm(K:PySem.W.Frag)(mg:Str->Option Value)(x qual:Str)(st:Stmt)(ps:List Str)(f:Addr)(fd:FuncData):Prop where
 fn:jy K x qual st f fd
 mg:mg x=some (.ref f)
 bd:Binds K fd ps []
def rf(sc:Scope)(N:List Str)(scope:Scope)(Nc:List Str)(fr:List (Option Nat)):Bool:=
 (scope.kind== .function)&&scope.names.all (fun x=>x.2 != .cell||scope.names.lookup x.1==some .cell)&&scope.names.all (fun x=>x.2 != .local||scope.names.lookup x.1==some .local)&&
 scope.names.all (fun x=>x.2 != .free||sc.names.lookup x.1==some .cell||sc.names.lookup x.1==some .free)&&(fr.length==Nc.length)&&
 (List.range fr.length).all fun i=>match fr[i]?,Nc[i]? with
   |some (some j),some x=>(N[j]?==some x)&&(scope.names.lookup x==some .free)&&(sc.names.lookup x==some .cell||sc.names.lookup x==some .free)
   |_,_=>true
theorem a5.look{X:Cx}{scope:Scope}{Nc:List Str}{fr:List (Option Nat)}(sc:Scope)(N:List Str)(h:rf sc N scope Nc fr=true)(hsc:X.env.scope=sc:=by rfl)(hN:X.N=N:=by rfl):a5 X scope Nc fr:=by
 unfold rf at h;simp only[Bool.and_eq_true]at h;obtain⟨⟨⟨⟨⟨h1,h2⟩,h3⟩,h4⟩,h5⟩,h6⟩:=h;subst hsc hN;refine⟨by simpa using h1,fun x hx hk=>?_,fun x hx hk=>?_,fun x hx hk=>?_,by simpa using h5,fun i j x e1 e2=>?_⟩
 . have:=List.all_eq_true.mp h2 x hx;rw[hk]at this;simpa using this
 . have:=List.all_eq_true.mp h3 x hx;rw[hk]at this;simpa using this
 . have:=List.all_eq_true.mp h4 x hx;rw[hk]at this;have z:X.env.scope.names.lookup x.1=some .cell\/X.env.scope.names.lookup x.1=some .free:=by simpa using this
   exact z
 . have hi:i<fr.length:=(List.getElem?_eq_some_iff.mp e2).1;have:=List.all_eq_true.mp h6 i (List.mem_range.mpr hi);rw[e1,e2]at this;simp only[Bool.and_eq_true,Bool.or_eq_true,beq_iff_eq]at this;exact⟨this.1.1,this.1.2,this.2⟩
section
variable {X:Cx}
theorem Kx{e:Expr}{es:List Expr}{pos p:Pos}{x:Str}{id:String}{r:d4}{t:DA}(hc:bc X (.builtin id) (fy r))(ha:PA X (e::es) (LA t))(hm:X.mg x=none)(hv:bootBuiltins x=some (.builtin id))(hg:Gl X x:=by rfl)(hn:x≠"__name__":=by decide)(hdb:(x==("__debug__":Str))=false:=by decide)
 (he:starEach (e::es) X.env=(false,eval e X.env)::starEach es X.env:=by rfl) (hpl:(backTo pos (starEach es X.env)).any (·.1)=false:=by rfl):PE X (.Call (.Name x p) (e::es) [] pos) (LE (bQ r t)):=PE.imp (m_ hc hg hm hv ha hn hdb he hpl) fun _ _ _ h=>LE.cb h
theorem K5{e:Expr}{es:List Expr}{pos p:Pos}{x:Str}{T:String}{r:d4}{t:DA}(hc:bc X (.type T) (fy r))(ha:PA X (e::es) (LA t))(hm:X.mg x=none)(hv:bootBuiltins x=some (.type T))(hg:Gl X x:=by rfl)(hn:x≠"__name__":=by decide)(hdb:(x==("__debug__":Str))=false:=by decide)
 (he:starEach (e::es) X.env=(false,eval e X.env)::starEach es X.env:=by rfl) (hpl:(backTo pos (starEach es X.env)).any (·.1)=false:=by rfl):PE X (.Call (.Name x p) (e::es) [] pos) (LE (bQ r t)):=PE.imp (zS hc hg hm hv ha hn hdb he hpl) fun _ _ _ h=>LE.cb h
theorem Kz{pos:Pos}{x:Str}{T:String}(hm:X.mg x=none)(hv:bootBuiltins x=some (.type T))(hg:Gl X x:=by rfl)(hn:x≠"__name__":=by decide)(hdb:(x==("__debug__":Str))=false:=by decide):PE X (.Name x pos) (LE (dC (.ty T))):=
 mh (v:= .ty T) (xJ hg hm hv rfl hn hdb) fun _ _=>by unfold Rep;rfl
theorem KG{e:Expr}{es:List Expr}{pos p:Pos}{x qual:Str}{st:Stmt}{ps:List Str}{f:Addr}{fd:FuncData}{k:Nat}{S:cq}{t:DA}(A:cm X.K X.mg x qual st ps f fd)(F:bf X.prog X.w X.K X.mg X.base cz k f fd ps (cH S))(hr:bO k X.A)
 (ha:PA X (e::es) (LA t)) (hg:Gl X x:=by rfl) (hdb:(x==("__debug__":Str))=false:=by decide) (he:starEach (e::es) X.env=(false,eval e X.env)::starEach es X.env:=by rfl) (hpl:(backTo pos (starEach es X.env)).any (·.1)=false:=by rfl):
 PE X (.Call (.Name x p) (e::es) [] pos) (LE (aV S t)):=FH F hr hg A.mg A.fn.kp A.bd ha hdb he hpl
def GR(d:D)(b:Bool):Bool:=match d with| .bl c=>c==b|_=>false
def Ka(d:D):Bool:=match d with| .aC=>true|_=>false
theorem ER{α:List (Option Addr)}{H:Hp}{st:ag}{d:D}{v:V}{u:Value}{b:Bool}(S:aL α st H)(hl:live st d=true)(r:Rep α H d v)(ru:RelV v u):(u==Value.bool b)=GR d b:=by
 cases d
 case ref n=>
  obtain⟨a,rfl⟩:=uU S hl r;cases ru;rfl
 all_goals unfold Rep at r
 case bl c=>
  subst r;cases ru;cases c<;>cases b<;>rfl
 all_goals first
  |(subst r;first|(cases ru;rfl)|(obtain⟨t,rfl⟩:=ru;rfl))
  |(obtain⟨a,vs,rfl,_⟩:=r;cases ru;rfl)
theorem LE.append{to te:DE}{σ:L2.St}{H:Hp}{Q:VK}(h:LE (ma to te) σ H Q):FC X.K "list" xl (LE to) (LA (af te ak)) σ H Q:=by
 obtain⟨α,σd,st,K,G,F,P,R,S,t,k⟩:=h;refine⟨α,σd,st,_,G,F,P,R,S,t,fun x st1 q α1 G1 H1 v s1 P1 S1 r1=>?_⟩;cases x<;>try exact q.elim
 rename_i n;simp only at q;split at q
 . rename_i ys e;obtain⟨p,ep,vs,h1,h2⟩:=S1.eX e;have r1':=cY ep r1;subst r1';refine⟨.inl ⟨rfl,vs,.inl (.of (P1.get h1))⟩,α1,σd,st1,fun ds st2=>∃y,ds=[y]/\(match st2[n]? with|some (.lst xs)=>xs.length<sizeLine/\K .aC (st2.set n (.lst (xs++[y])))|_=>False),G1,F,P1,R.step s1,S1,?_,?_⟩
   . refine Eq.mp ?_ q;rfl
   . rintro ds st2 ⟨y,rfl,q2⟩ α2 G2 H2 ws s2 P2 S2 r2;obtain⟨w,rfl,rw'⟩:=fJ r2 rfl;split at q2
     . rename_i xs e2;obtain⟨p2,ep2,us,g1,g2⟩:=S2.eX e2
       have:p2=p:=by
        rcases s2.pre _ _ ep with z|z<;>(rw[z]at ep2;cases ep2)
        rfl
       subst this;have hm:some p2∈α2:=List.mem_of_getElem? ep2;refine⟨p2,us,w,rfl,rfl,P2.get g1,by rw[<-g2.length];exact q2.1,?_⟩;refine((k.at s1).at s2) _ _ q2.2 α2 (upd G2 p2 (.lst (us++[w]))) _ .aC (Step.write hm) (P2.write g1) ?_ (by unfold Rep;rfl);exact S2.write ep2 ⟨us++[w],aK,(aI.mpr (dE (aI.mp g2) (.cons rw' .nil))).step (Step.write hm)⟩
     . exact q2.elim
 . exact q.elim
theorem Cj{o e:Expr}{to te:DE}{apos cpos:Pos}(ho:PE X o (LE to))(he:PE X e (LE te))(hbase:attributeBase o "append" X.env (eval o X.env)=eval o X.env:=by rfl)
 (hfew:((backTo cpos (starEach [e] X.env)).all (fun x=> !x.1)&&(backToKw cpos (keywordEach [] X.env)).all (fun x=>x.1.isSome)
   &&decide (([e]:List Expr).length+([]:List Keyword).length+(if([]:List Keyword).isEmpty then 0 else 1)<30))=true:=by rfl)
 (hline:(apos.endLine==cpos.line)=true:=by rfl) (hs:starEach [e] X.env=(false,eval e X.env)::starEach [] X.env:=by rfl) (hplain:(backTo cpos (starEach [] X.env)).any (·.1)=false:=by rfl):PE X (.Call (.Attribute o "append" apos) [e] [] cpos) (LE (ma to te)):=
 PE.imp (Dx PySem.F.plainAttrs_list PySem.F.slot_list_append PySem.F.type_list_append tf ho (mi he oy hs) hbase hfew hline hs hplain) fun _ _ _ h=>LE.append h
end
end L3
namespace L3
open PySem L2
open PySem.Spec hiding items?
open PyProof.Rows hiding St
section
variable {X:Cx}
@[irreducible] def dm:cx:=DF
theorem dU:bG X (binaryOp .Add) (LR dm):=by unfold dm;exact Ii
@[irreducible] def dn:cx:=DC
theorem ft:bG X (binaryOp .Mult) (LR dn):=by unfold dn;exact Ir
@[irreducible] def mK:cx:=zV
theorem u0:bG X (binaryOp .FloorDiv) (LR mK):=by unfold mK;exact FK
@[irreducible] def kE:cx:=Df
theorem m4:bG X (binaryOp .Mod) (LR kE):=by unfold kE;exact Ji
@[irreducible] def oH:cx:=CT
theorem x8:bG X (binaryOp .Pow) (LR oH):=by unfold oH;exact IQ
@[irreducible] def oz:cx:=HZ
theorem zr:bG X (compareOp .Lt) (LR oz):=by unfold oz;exact Ky
@[irreducible] def k_:cx:=FL
theorem qi:bG X (compareOp .Gt) (LR k_):=by unfold k_;exact KJ
@[irreducible] def w_:cx:=Gq
theorem KQ:bG X (compareOp .GtE) (LR w_):=by unfold w_;exact Kw
@[irreducible] def tF:cx:=GU
theorem K9:bG X (compareOp .NotEq) (LR tF):=by unfold tF;exact K8
@[irreducible] def kD:cx:=Gy
theorem qj{k:Nat}(hr:bO k X.A):bG X (compareOp .Eq) (LR kD):=by unfold kD;exact KR hr
@[irreducible] def i6:wa:=CZ
theorem Ij:xD X (unaryOp .USub) (Dq i6):=by unfold i6;exact Jk
@[irreducible] def bM:cx:=mL
theorem Li{a b:Expr}{ta tb:DE}{pos:Pos}(ha:PE X a (LE ta))(hb:PE X b (LE tb))(hs:o_ b:=by intro _ _;rfl):PE X (.Subscript a b pos) (LE (aE bM ta tb)):=by unfold bM;exact K3 ha hb hs
@[irreducible] def dZ:d4:=uC
theorem dy:bc X (.builtin "len") (fy dZ):=by unfold dZ;exact JV
@[irreducible] def vq:d4:=ya
theorem Iw:bc X (.builtin "abs") (fy vq):=by unfold vq;exact IJ
@[irreducible] def wC:d4:=yG
theorem IC(hc:X.calm=true):bc X (.builtin "max") (fy wC):=by unfold wC;exact Jx hc
@[irreducible] def vw:d4:=zg
theorem ID(hc:X.calm=true):bc X (.builtin "min") (fy vw):=by unfold vw;exact Ja hc
@[irreducible] def rW:d4:=x9
theorem Ic:bc X (.type "int") (fy rW):=by unfold rW;exact IE
@[irreducible] def dM:d4:=oW
theorem eQ:bc X (.type "tuple") (fy dM):=by unfold dM;exact DW
@[irreducible] def jx:d4:=rE
theorem my:bc X (.type "list") (fy jx):=by unfold jx;exact FZ
@[irreducible] def nP:d4:=pf
theorem Fh:bc X (.type "list") (fy nP):=by unfold nP;exact ED
@[irreducible] def sd:d4:=uA
theorem C1(hc:X.calm=true):bc X (.builtin "all") (fy sd):=by unfold sd;exact JK hc
@[irreducible] def p_:d4:=uo
theorem zo:bc X (.builtin "isinstance") (fy p_):=by unfold p_;exact Jw
@[irreducible] def lO:D->ag->(List D->(ag->Prop)->ag->Prop)->Prop:=sM
def cW(t:DE):DI:=fun σ st K=>t σ st fun d st1=>lO d st1 K
theorem FP{l tg:Expr}{tl:DE}(hl:PE X l (LE tl)):PI X tg l (LI (cW tl)):=by unfold cW lO;exact Gr hl
@[irreducible] def uk:List D->ag->(List D->(ag->Prop)->ag->Prop)->Prop:=Dl
@[irreducible] def uv:List D->ag->(List D->(ag->Prop)->ag->Prop)->Prop:=Dp
def dA(t:DA):DI:=fun σ st K=>t σ st fun ds st1=>uk ds st1 K
def mv(t:DA):DI:=fun σ st K=>t σ st fun ds st1=>uv ds st1 K
theorem AU{tg iter:Expr}{t:DA}(h:PI X tg iter (yK (LA t))):PI X tg iter (LI (dA t)):=by unfold dA uk;exact Af h
theorem zT{tg iter:Expr}{t:DA}(h:PI X tg iter (zd (LA t))):PI X tg iter (LI (mv t)):=by unfold mv uv;exact zL h
@[irreducible] def sq:D->D->D->ag->(ag->Prop)->Prop:=vH
def di(to ti te:DE):DS:=fun D σ st=>te σ st fun d st1=>to σ st1 fun x st2=>ti σ st2 fun y st3=>sq x y d st3 fun st4=>D.nx σ st4
theorem vN{st:Stmt}{to ti te:DE}(h:PS X st (hZ (LE te) (sR (LE to) (LE ti) oM))):PS X st (LS (di to ti te)):=by unfold di sq;exact BY h
end
section
variable {st:ag}{K:DK}{i j:Int}{b c:Bool}{xs ys:List D}{d e:D}{n:Nat}
theorem dR(k:K (.int (i+j)) st):dm (.int i) (.int j) st K:=by unfold dm;exact k
theorem xO(h:xs.length+ys.length<=sizeLine)(k:K (.tup (xs++ys)) st):dm (.tup xs) (.tup ys) st K:=by unfold dm;exact⟨h,k⟩
theorem eZ(h:IntMulOk i j)(k:K (.int (i*j)) st):dn (.int i) (.int j) st K:=by unfold dn;exact⟨h,k⟩
theorem D9(h: -(2^63)<=i/\i<2^63/\xs.length*i.toNat<=sizeLine)(k:K (.lst (List.replicate i.toNat xs).flatten) st):dn (.lst xs) (.int i) st K:=by unfold dn;exact⟨h,k⟩
theorem El(h: -(2^63)<=i/\i<2^63/\xs.length*i.toNat<=sizeLine)(k:K (.tup (List.replicate i.toNat xs).flatten) st):dn (.tup xs) (.int i) st K:=by unfold dn;exact⟨h,k⟩
theorem r_(h0:j≠0)(h:j.natAbs.log2<9000)(k:K (.int (i.fdiv j)) st):mK (.int i) (.int j) st K:=by unfold mK;exact⟨⟨h0,h⟩,k⟩
theorem kK(h0:j≠0)(k:K (.int (i.fmod j)) st):kE (.int i) (.int j) st K:=by unfold kE;exact⟨h0,k⟩
theorem va(h:wg i j)(k:K (.int (i^j.toNat)) st):oH (.int i) (.int j) st K:=by unfold oH;exact⟨h,k⟩
theorem Dh(k:K (.bl (decide (i<j))) st):oz (.int i) (.int j) st K:=by unfold oz;exact⟨trivial,k⟩
theorem yE(k:K (.bl (decide (j<i))) st):k_ (.int i) (.int j) st K:=by unfold k_;exact⟨trivial,k⟩
theorem Im(k:K (.bl (decide (j<=i))) st):w_ (.int i) (.int j) st K:=by unfold w_;exact⟨trivial,k⟩
theorem CM(k:K (.bl (!decide (i=j))) st):tF (.int i) (.int j) st K:=by unfold tF;exact k
theorem IU(h1:pl 40 d=true)(h2:pl 40 e=true)(k:K (.bl (bU d e)) st):kD d e st K:=by unfold kD;exact⟨h1,h2,k⟩
theorem EO(a b:Int):(a==b)=decide (a=b):=by
 by_cases h:a=b
 . subst h;simp
 . simp[h]
theorem AR(k:K (.bl (decide (i=j))) st):kD (.int i) (.int j) st K:=by
 refine IU rfl rfl ?_;have:bU (.int i) (.int j)=decide (i=j):=by unfold bU;exact EO i j
 rw[this];exact k
theorem jJ(k:K (.int (-i)) st):i6 (.int i) st K:=by unfold i6;exact k
theorem BB(h:items? st d=some xs)(a:c_ xs i=some e)(k:K e st):mL d (.int i) st K:=by
 cases d<;>unfold items? at h<;>first
  |(cases h;done)
  |(cases h;simp only[mL,a];exact k)
  |(simp only at h
    split at h
    . rename_i q;cases h;simp only[mL,q,a];exact k
    . cases h)
theorem aX(h:items? st d=some xs)(a:c_ xs i=some e)(k:K e st):bM d (.int i) st K:=by unfold bM;exact BB h a k
theorem cP(h:items? st d=some xs)(k:K (.int xs.length) st):dZ [d] st K:=by
 unfold dZ uC;split
 . rename_i z;cases z;cases h
 . rename_i z;cases z;rw[h];exact k
 . rename_i z1 z2;exact absurd rfl (z2 d)
theorem Fi(i:Int):(if i<0 then-i else i)=((i.natAbs:Nat):Int):=by split<;>omega
theorem Hz(k:K (.int ((i.natAbs:Nat):Int)) st):vq [.int i] st K:=by unfold vq;show K (.int (if i<0 then-i else i)) st;rw[Fi];exact k
theorem F5(k:K (.int (if j>i then j else i)) st):wC [.int i,.int j] st K:=by unfold wC;exact k
theorem GS(k:K (.int (if j<i then j else i)) st):vw [.int i,.int j] st K:=by unfold vw;exact k
theorem DZ(k:K (.int (if b then 1 else 0)) st):rW [.bl b] st K:=by unfold rW;exact k
theorem dD(h:items? st d=some xs)(k:K (.tup xs) st):dM [d] st K:=by unfold dM oW;simp only[h];exact k
theorem kg(h:items? st d=some xs)(k:K (.lst xs) st):jx [d] st K:=by unfold jx rE;simp only[h];exact k
theorem Bf(h:items? st d=some xs)(k:K (.ref st.length) (st++[.lst xs])):nP [d] st K:=by unfold nP pf;simp only[h];exact k
theorem AM{bs:List Bool}(h:jF xs=some bs)(k:K (.bl (bs.all id)) st):sd [.lst xs] st K:=by unfold sd uA;simp only[h];exact k
theorem vS{t c:String}(h:gL st d=some t)(hc:c∈ki)(k:K (.bl (qt t c)) st):p_ [d,.ty c] st K:=by unfold p_ uo;simp only[h];exact⟨hc,k⟩
theorem kH{K:List D->(ag->Prop)->ag->Prop}(h:items? st d=some xs)(k:∀ok:ag->Prop,ok st->K xs ok st):lO d st K:=by
 unfold lO sM
 cases d<;>unfold items? at h<;>first
  |(cases h;done)
  |(cases h;exact k _ trivial)
  |(simp only at h
    split at h
    . rename_i q;cases h;simp only[q];exact k _ q
    . cases h)
theorem o6{K:List D->(ag->Prop)->ag->Prop}(k:K xs (fun _=>True) st):lO (.lst xs) st K:=by unfold lO;exact k
theorem i7{K:List D->(ag->Prop)->ag->Prop}(k:K xs (fun _=>True) st):lO (.tup xs) st K:=by unfold lO;exact k
theorem fD{K:List D->(ag->Prop)->ag->Prop}(h: -(2^62)<=j/\j<2^62)(k:K (cA 0 j.toNat) (fun _=>True) st):uk [.int j] st K:=by unfold uk;exact⟨h,k⟩
theorem xN{K:List D->(ag->Prop)->ag->Prop}(h: -(2^62)<=i/\i<2^62/\ -(2^62)<=j/\j<2^62)(k:K (cA i (j-i).toNat) (fun _=>True) st):uv [.int i,.int j] st K:=by unfold uv;exact⟨h,k⟩
theorem eh{K:ag->Prop}{m:Nat}(h:st[n]?=some (.lst xs))(e:jG xs.length i=some m)(k:K (st.set n (.lst (xs.set m d)))):sq (.ref n) (.int i) d st K:=by unfold sq vH;simp only[h,e];exact k
end
def zG(K:PySem.W.Frag):Bool:=K.all fun p=>p.2.cls != .type "list"
theorem pE{a:Addr}{o:Obj}:∀ {l:List (Addr×Obj)},l.lookup a=some o->(a,o)∈l
 | [],h=>by cases h
 |(b,u)::r,h=>by
  rw[List.lookup_cons]at h;split at h
  . rename_i z;cases h;have:a=b:=by simpa using z
    subst this;exact List.mem_cons_self
  . exact List.mem_cons_of_mem _ (pE h)
theorem ui{K:PySem.W.Frag}(h:zG K=true){a:Addr}{o:Obj}(e:K.lookup a=some o):o.cls≠ .type "list":=by
 have:=List.all_eq_true.mp h (a,o) (pE e);simpa using this
theorem tW{α:List (Option Addr)}{G:Hp}:∀ns:List Int,aG α G (ns.map D.int) (ns.map V.int)
 | []=>by unfold aG;rfl
 |n::ns=>by
  rw[List.map_cons,List.map_cons];unfold aG;exact⟨_,_,rfl,by unfold Rep;rfl,tW ns⟩
def notStar:Expr->Bool
 | .Starred .. =>false
 |_=>true
theorem bw{e:Expr}{es:List Expr}{env:Env}(h:notStar e=true):starEach (e::es) env=(false,eval e env)::starEach es env:=by
 cases e<;>first|rfl|cases h
def eP:List Expr->Bool
 | []=>true
 |e::es=>notStar e&&eP es
theorem ir{pos:Pos}{env:Env}:∀ {es:List Expr},eP es=true->(backTo pos (starEach es env)).any (·.1)=false
 | [],_=>rfl
 |e::es,h=>by
  unfold eP at h;rw[Bool.and_eq_true]at h;rw[bw h.1];have ih:=ir (pos:=pos) (env:=env) h.2;unfold backTo at ih⊢;rw[List.map_cons,List.any_cons,ih];rfl
def ie:Expr->Bool
 | .Slice .. =>false
 |_=>true
def og:Expr->Bool
 | .Name .. =>true
 | .Call .. =>true
 | .Subscript .. =>true
 | .Attribute .. =>true
 |_=>false
def ja:Expr->Bool
 | .ListComp .. =>false
 | .SetComp .. =>false
 | .DictComp .. =>false
 |_=>true
section
variable {X:Cx}
theorem Ca{b:Expr}(h:ie b=true):o_ b:=by
 intro o i;cases b<;>first|rfl|cases h
theorem yf{e:Expr}(h:og e=true):∀whole,isTrue e X.env whole=(do let v <-whole;standAt e.pos;holding [v] (truthy v)):=by
 intro whole;cases e<;>first|(cases h;done)|rfl
theorem sj{e:Expr}{tg:Option Expr}{n:Nat}{env:Env}(h:ja e=true):swapsWith e tg n env=pure false:=by
 cases e<;>first|(cases h;done)|rfl
theorem Cq{e:Expr}{es:List Expr}{te:DE}{tr:DA}(ha:PE X e (LE te))(hr:PA X es (LA tr))(hs:notStar e=true:=by rfl):PA X (e::es) (LA (af te tr)):=mi ha hr (bw hs)
theorem II{e:Expr}{es:List Expr}{pos p:Pos}{x:Str}{id:String}{r:d4}{t:DA}(hc:bc X (.builtin id) (fy r))(ha:PA X (e::es) (LA t))(hm:X.mg x=none)(hv:bootBuiltins x=some (.builtin id))(hn:x≠"__name__")(hdb:(x==("__debug__":Str))=false)(hg:Gl X x:=by rfl)(hs:notStar e=true:=by rfl)(hs2:eP es=true:=by rfl):
 PE X (.Call (.Name x p) (e::es) [] pos) (LE (bQ r t)):=Kx hc ha hm hv hg hn hdb (bw hs) (ir hs2)
theorem Jb{e:Expr}{es:List Expr}{pos p:Pos}{x:Str}{T:String}{r:d4}{t:DA}(hc:bc X (.type T) (fy r))(ha:PA X (e::es) (LA t))(hm:X.mg x=none)(hv:bootBuiltins x=some (.type T))(hn:x≠"__name__")(hdb:(x==("__debug__":Str))=false)(hg:Gl X x:=by rfl)(hs:notStar e=true:=by rfl)(hs2:eP es=true:=by rfl):
 PE X (.Call (.Name x p) (e::es) [] pos) (LE (bQ r t)):=K5 hc ha hm hv hg hn hdb (bw hs) (ir hs2)
theorem IM{e:Expr}{es:List Expr}{pos p:Pos}{x qual:Str}{st:Stmt}{ps:List Str}{f:Addr}{fd:FuncData}{k:Nat}{S:cq}{t:DA}(A:cm X.K X.mg x qual st ps f fd)(F:bf X.prog X.w X.K X.mg X.base cz k f fd ps (cH S))(hr:bO k X.A)
 (ha:PA X (e::es) (LA t)) (hdb:(x==("__debug__":Str))=false) (hg:Gl X x:=by rfl) (hs:notStar e=true:=by rfl) (hs2:eP es=true:=by rfl):
 PE X (.Call (.Name x p) (e::es) [] pos) (LE (aV S t)):=KG A F hr ha hg hdb (bw hs) (ir hs2)
theorem Jn{a b:Expr}{ta tb:DE}{pos:Pos}(ha:PE X a (LE ta))(hb:PE X b (LE tb))(hs:ie b=true:=by rfl):PE X (.Subscript a b pos) (LE (aE bM ta tb)):=Li ha hb (Ca hs)
theorem D4{e:Expr}{te:DE}(he:PE X e (LE te))(h:og e=true:=by rfl):PT X e (LT (bL te)):=GL he (yf h)
theorem Bd{e:Expr}{te:DE}{pos:Pos}(he:PE X e (LE te))(h:ja e=true:=by rfl):PS X (.Expr e pos) (LS (fu te)):=DN he (sj h)
theorem E4{i:Nat}{x:Str}{e:Expr}{te:TE}{pos pos':Pos}(hN:X.N.Nodup)(hi:X.N[i]?=some x)(hx:Loc X.env.scope x)(he:PE X e te)(hf:X.fn x=true\/X.env.scope.names.lookup x=some .local:=by first|exact .inl rfl|exact .inr rfl)(h:ja e=true:=by rfl):
 PS X (.Assign [.Name x pos'] e pos) (hZ te (gF i)):=qD hN hi hx he (sj h) hf
theorem EV{i:Nat}{x:Str}{pos:Pos}(hd:(x==("__debug__":Str))=false)(hcd:(x==("__classdict__":Str))=false)(hv:tL X.env.scope x)(hN:X.N[i]?=some x:=by rfl):PE X (.Name x pos) (LE (ae i)):=Jt (vc hN hv hd hcd)
theorem H0{o i e:Expr}{to ti te:TE}{pos pos':Pos}(he:PE X e te)(ho:PE X o to)(hi:PE X i ti)(h1:ja e=true:=by rfl)(h2:ie i=true:=by rfl):PS X (.Assign [.Subscript o i pos'] e pos) (hZ te (sR to ti oM)):=
 vm he (qW ho hi set_list (by intro v;cases i<;>first|rfl|cases h2)) (by unfold swapsWithSole;exact sj h1) (by cases e<;>rfl) rfl
end
@[irreducible] def JE(X:Cx)(e:Expr)(t:DE):Prop:=PE X e (LE t)
@[irreducible] def JT(X:Cx)(e:Expr)(t:DT):Prop:=PT X e (LT t)
@[irreducible] def JW(X:Cx)(e:Expr)(t:DT):Prop:=PW X e (LT t)
@[irreducible] def JA(X:Cx)(es:List Expr)(t:DA):Prop:=PA X es (LA t)
@[irreducible] def JS(X:Cx)(s:Stmt)(t:DS):Prop:=PS X s (LS t)
@[irreducible] def JB(X:Cx)(s:List Stmt)(t:DS):Prop:=c9 X s (LS t)
@[irreducible] def JG(X:Cx)(e:Expr)(t:eL):Prop:=PG X e (LG t)
@[irreducible] def JI(X:Cx)(tg e:Expr)(t:DI):Prop:=PI X tg e (LI t)
@[irreducible] def JC(X:Cx)(es:List Expr)(t:DT):Prop:=nE X es (LT t)
section
variable {X:Cx}{a b c e o i:Expr}{es:List Expr}{ta tb tc te to ti:DE}{t u:DT}{ar:DA}{pos p pos':Pos}{s:Stmt}{ss:List Stmt}{T U:DS}
theorem zD{n:Nat}{x:Str}(hd:(x==("__debug__":Str))=false)(hcd:(x==("__classdict__":Str))=false)(hv:tL X.env.scope x)(hN:X.N[n]?=some x:=by rfl):JE X (.Name x pos) (ae n):=by unfold JE;exact EV hd hcd hv hN
theorem BD{x:Str}{T:String}(hm:X.mg x=none)(hv:bootBuiltins x=some (.type T))(hn:x≠"__name__")(hdb:(x==("__debug__":Str))=false)(hg:Gl X x):JE X (.Name x pos) (dC (.ty T)):=by unfold JE;exact Kz hm hv hg hn hdb
theorem au{k:Int}{j:Nat}:JE X (.Constant (.int k) j pos) (dC (.int k)):=by unfold JE;exact Jd
theorem mG{k:Bool}{j:Nat}:JE X (.Constant (.bool k) j pos) (dC (.bl k)):=by unfold JE;exact Le
theorem CK{k:Str}{j:Nat}:JE X (.Constant (.str k) j pos) (dC (.str k)):=by unfold JE;exact IV
theorem xZ{j:Nat}:JE X (.Constant .none j pos) (dC .aC):=by unfold JE;exact Je
theorem bB{op:Operator}{r:cx}(ho:bG X (binaryOp op) (LR r))(ha:JE X a ta)(hb:JE X b tb):JE X (.BinOp a op b pos) (aE r ta tb):=by unfold JE at*;exact KH ho ha hb
theorem kX(ha:JE X a ta):JE X (.UnaryOp .USub a pos) (nS i6 ta):=by unfold JE at*;exact KS Ij ha
theorem IK(ha:JE X a ta):JE X (.UnaryOp .Not a pos) (xT (bL ta)):=by unfold JE at*;exact IB ha
theorem CL{op:BoolOp}(ha:JE X a ta):JE X (.BoolOp op [a] pos) ta:=by unfold JE at*;exact Jm ha
theorem C5(ha:JE X a ta)(hb:JE X (.BoolOp .And (b::es) pos) tb):JE X (.BoolOp .And (a::b::es) pos) (uq ta tb):=by unfold JE at*;exact Jq ha hb
theorem zu{op:CmpOp}{r:cx}(ho:bG X (compareOp op) (LR r))(hm:behindInMarks op b=false)(ha:JE X a ta)(hb:JE X b tb):JE X (.Compare a [op] [b] pos) (aE r ta tb):=by unfold JE at*;exact Jj ho ha hb hm
theorem Ia(hc:JT X c t)(ha:JE X a ta)(hb:JE X b tb):JE X (.IfExp c a b pos) (GI t ta tb):=by unfold JE at*;unfold JT at hc;exact JJ hc ha hb
theorem j8{n:Nat}(h:JA X es ar):JE X (.Tuple es n pos) (kU ar):=by unfold JE;unfold JA at h;exact Jr h
theorem dW(h:JA X es ar):JE X (.List es pos) (fj ar):=by unfold JE;unfold JA at h;exact Jo h
theorem qO(h:JA X es ar):JE X (.List es pos) (nR ar):=by unfold JE;unfold JA at h;exact IP h
theorem aj:JA X [] ak:=by unfold JA;exact oy
theorem aa(ha:JE X e te)(hr:JA X es ar)(hs:notStar e=true:=by rfl):JA X (e::es) (af te ar):=by unfold JA at*;unfold JE at ha;exact Cq ha hr hs
theorem bx(ha:JE X a ta)(hb:JE X b tb)(hs:ie b=true:=by rfl):JE X (.Subscript a b pos) (aE bM ta tb):=by unfold JE at*;exact Jn ha hb hs
theorem c8{x:Str}{id:String}{r:d4}(hc:bc X (.builtin id) (fy r))(ha:JA X (e::es) ar)(hm:X.mg x=none)(hv:bootBuiltins x=some (.builtin id))(hn:x≠"__name__")(hdb:(x==("__debug__":Str))=false)(hg:Gl X x)(hs:notStar e=true:=by rfl)(hs2:eP es=true:=by rfl):JE X (.Call (.Name x p) (e::es) [] pos) (bQ r ar):=by
 unfold JE;unfold JA at ha;exact II hc ha hm hv hn hdb hg hs hs2
theorem fA{x:Str}{T:String}{r:d4}(hc:bc X (.type T) (fy r))(ha:JA X (e::es) ar)(hm:X.mg x=none)(hv:bootBuiltins x=some (.type T))(hn:x≠"__name__")(hdb:(x==("__debug__":Str))=false)(hg:Gl X x)(hs:notStar e=true:=by rfl)(hs2:eP es=true:=by rfl):JE X (.Call (.Name x p) (e::es) [] pos) (bQ r ar):=by
 unfold JE;unfold JA at ha;exact Jb hc ha hm hv hn hdb hg hs hs2
theorem bE{x qual:Str}{st:Stmt}{ps:List Str}{f:Addr}{fd:FuncData}{k:Nat}{S:cq}(A:cm X.K X.mg x qual st ps f fd)(F:bf X.prog X.w X.K X.mg X.base cz k f fd ps (cH S))(hr:bO k X.A)(ha:JA X (e::es) ar)(hdb:(x==("__debug__":Str))=false)(hg:Gl X x)(hs:notStar e=true:=by rfl)(hs2:eP es=true:=by rfl):
 JE X (.Call (.Name x p) (e::es) [] pos) (aV S ar):=by unfold JE;unfold JA at ha;exact IM A F hr ha hdb hg hs hs2
theorem BE{apos cpos:Pos}(ho:JE X o to)(he:JE X e te)(hbase:attributeBase o "append" X.env (eval o X.env)=eval o X.env:=by rfl)(hline:(apos.endLine==cpos.line)=true:=by rfl)(hs:notStar e=true:=by rfl):JE X (.Call (.Attribute o "append" apos) [e] [] cpos) (ma to te):=by
 unfold JE at*;refine Cj ho he hbase ?_ hline (bw hs) rfl;rw[bw hs];rfl
theorem cy{op:CmpOp}{r:cx}(ho:bG X (compareOp op) (LR r))(hm:behindInMarks op b=false)(ha:JE X a ta)(hb:JE X b tb):JT X (.Compare a [op] [b] pos) (bL (aE r ta tb)):=by unfold JE at*;unfold JT;exact HP ho ha hb hm
theorem rK(ha:JT X a t):JT X (.UnaryOp .Not a pos) (oY t):=by unfold JT at*;exact GJ ha
theorem kO(he:JE X e te)(h:og e=true:=by rfl):JT X e (bL te):=by unfold JT;unfold JE at he;exact D4 he h
theorem oR(ha:JT X a t):JW X (.BoolOp .And [a] pos) t:=by unfold JW;unfold JT at ha;exact D2 ha
theorem FF(ha:JT X a t):JW X (.BoolOp .Or [a] pos) t:=by unfold JW;unfold JT at ha;exact Gi ha
theorem mj(ha:JT X a t)(hb:JW X (.BoolOp .And (b::es) pos) u):JW X (.BoolOp .And (a::b::es) pos) (j7 t u):=by unfold JW at*;unfold JT at ha;exact Gw ha hb
theorem Jp(ha:JT X a t)(hb:JW X (.BoolOp .Or (b::es) pos) u):JW X (.BoolOp .Or (a::b::es) pos) (yn t u):=by unfold JW at*;unfold JT at ha;exact Io ha hb
theorem qU(h:JW X e t):JT X e t:=by unfold JT;unfold JW at h;exact PW.pt h
theorem dB{l tg:Expr}(hl:JE X l ta):JI X tg l (cW ta):=by unfold JI;unfold JE at hl;exact FP hl
theorem eD{tg:Expr}(hg:Gl X "range")(hm:X.mg "range"=none)(ha:JA X [a] ar)(hs:notStar a=true:=by rfl):JI X tg (.Call (.Name "range" p) [a] [] pos) (dA ar):=by unfold JI;unfold JA at ha;exact AU (A5 hg hm ha (bw hs))
theorem wF{tg:Expr}(hg:Gl X "range")(hm:X.mg "range"=none)(ha:JA X [a,b] ar)(hs:notStar a=true:=by rfl)(hs2:notStar b=true:=by rfl):JI X tg (.Call (.Name "range" p) [a,b] [] pos) (mv ar):=by unfold JI;unfold JA at ha;exact zT (zU hg hm ha (by rw[bw hs,bw hs2];rfl) (bw hs2))
theorem cB{k:Nat}{x:Str}(hN:X.N.Nodup)(hx:Loc X.env.scope x)(hf:X.fn x=true\/X.env.scope.names.lookup x=some .local)(hi:X.N[k]?=some x:=by rfl):JG X (.Name x pos) (bo k):=by unfold JG;exact EW (sN hN hi hx hf)
theorem um{k j n:Nat}{x y:Str}{px py:Pos}(hc:X.calm=true)(hN:X.N.Nodup)(hx:Loc X.env.scope x)(hf:X.fn x=true\/X.env.scope.names.lookup x=some .local)(hy:Loc X.env.scope y)(hg:X.fn y=true\/X.env.scope.names.lookup y=some .local)(hi:X.N[k]?=some x:=by rfl)(hj:X.N[j]?=some y:=by rfl):
 JG X (.Tuple [.Name x px,.Name y py] n pos) (kb k j):=by unfold JG;exact Hc (Aw hc (m5 (sN hN hi hx hf) (m5 (sN hN hj hy hg) w4)))
theorem bV:JC X [] bT:=by unfold JC;exact BQ
theorem Gx(h:JT X c t):JC X [c] t:=by unfold JC;unfold JT at h;exact Gj h
theorem dJ{scope:Scope}{Nc:List Str}{elt tg iter:Expr}{ifs:List Expr}{src:DI}{fr:List (Option Nat)}{dtg:eL}(S:a5 X scope Nc fr)(hi:JI X tg iter src)(hg:∀C s H ex,JG (dv X scope Nc C s H ex) tg dtg)(ht:∀C s H ex,JC (dv X scope Nc C s H ex) ifs t)(he:∀C s H ex,JE (dv X scope Nc C s H ex) elt te)(fit:nk fr dtg)
 (hx:X.xe=fun _ _=>False:=by rfl) (hc:X.calm=true:=by rfl) (hs:∀x,foldedSetIterable iter X.env x=pure x:=by intro _;rfl):JE X (.ListComp elt [⟨tg,iter,ifs,0⟩] scope pos) (cU src fr dtg t te):=by
 unfold JE JI JG JC at*;exact G7 S hi hg ht he fit hx hc hs
theorem sU{scope:Scope}{Nc:List Str}{elt tg iter:Expr}{ifs:List Expr}{src:DI}{fr:List (Option Nat)}{dtg:eL}(S:a5 X scope Nc fr)(hi:JI X tg iter src)(hg:∀C s H ex,JG (dv X scope Nc C s H ex) tg dtg)(ht:∀C s H ex,JC (dv X scope Nc C s H ex) ifs t)(he:∀C s H ex,JE (dv X scope Nc C s H ex) elt te)(fit:nk fr dtg)
 (hx:X.xe=fun _ _=>False:=by rfl) (hc:X.calm=true:=by rfl) (hs:∀x,foldedSetIterable iter X.env x=pure x:=by intro _;rfl):JE X (.ListComp elt [⟨tg,iter,ifs,0⟩] scope pos) (jK src fr dtg t te):=by
 unfold JE JI JG JC at*;exact EI S hi hg ht he fit hx hc hs
theorem dO:JB X [] dw:=by unfold JB;exact xB
theorem aJ(h:JS X s T):JB X [s] T:=by unfold JB;unfold JS at h;exact ES h
theorem av(h:JS X s T)(h2:JB X ss U):JB X (s::ss) (aO T U):=by unfold JB at*;unfold JS at h;exact Cv h h2
theorem bD(h:JE X e te):JS X (.Return (some e) pos) (cj te):=by unfold JS;unfold JE at h;exact F2 h
theorem d6(h:JE X e te)(hc:ja e=true:=by rfl):JS X (.Expr e pos) (fu te):=by unfold JS;unfold JE at h;exact Bd h hc
theorem eH{x y:List Stmt}(hc:JT X c t)(ha:JB X x T)(hb:JB X y U):JS X (.If c x y pos) (dG t T U):=by unfold JS;unfold JB at*;unfold JT at hc;exact Jy hc ha hb
theorem Bi{x:List Stmt}(hc:JT X c t)(hb:JB X x T)(hx:X.xe=fun _ _=>False:=by rfl):JS X (.While c x [] pos) (vX t T):=by unfold JS;unfold JB at hb;unfold JT at hc;exact CB (BU (by rw[hx];exact PassesOwn.never) hc hb)
theorem e_{tg iter:Expr}{x:List Stmt}{src:DI}{dtg:eL}(hi:JI X tg iter src)(hg:JG X tg dtg)(hb:JB X x T)(hx:X.xe=fun _ _=>False:=by rfl)(hc:X.calm=true:=by rfl)(hs:∀x,foldedSetIterable iter X.env x=pure x:=by intro _;rfl):JS X (.For tg iter x [] pos) (gq src dtg T):=by
 unfold JS;unfold JI at hi;unfold JG at hg;unfold JB at hb;exact GY (Hi (by rw[hx];exact PassesOwn.never) hc hi hg hb hs)
theorem aW{k:Nat}{x:Str}(hN:X.N.Nodup)(hx:Loc X.env.scope x)(he:JE X e te)(hf:X.fn x=true\/X.env.scope.names.lookup x=some .local:=by first|exact .inl rfl|exact .inr rfl)(h:ja e=true:=by rfl)(hi:X.N[k]?=some x:=by rfl):JS X (.Assign [.Name x pos'] e pos) (a9 k te):=by
 unfold JS;unfold JE at he;exact GA (E4 hN hi hx he hf h)
theorem sv{scope:Scope}{Nc:List Str}{elt tg iter:Expr}{ifs:List Expr}{src:DI}{fr:List (Option Nat)}{dtg:eL}{k:Nat}{x:Str}(hN:X.N.Nodup)(hl:Loc X.env.scope x)(S:a5 X scope Nc fr)(hi:JI X tg iter src)(hg:∀C s H ex,JG (dv X scope Nc C s H ex) tg dtg)(ht:∀C s H ex,JC (dv X scope Nc C s H ex) ifs t)(he:∀C s H ex,JE (dv X scope Nc C s H ex) elt te)(fit:nk fr dtg)
 (hf:X.fn x=true\/X.env.scope.names.lookup x=some .local:=by first|exact .inl rfl|exact .inr rfl) (hsw:swapsWith (.ListComp elt [⟨tg,iter,ifs,0⟩] scope p) (some (.Name x pos')) pos.line X.env=pure true:=by rfl) (hni:X.N[k]?=some x:=by rfl) (hx:X.xe=fun _ _=>False:=by rfl) (hc:X.calm=true:=by rfl) (hs:∀x,foldedSetIterable iter X.env x=pure x:=by intro _;rfl):
 JS X (.Assign [.Name x pos'] (.ListComp elt [⟨tg,iter,ifs,0⟩] scope p) pos) (a9 k (cU src fr dtg t te)):=by
 unfold JS;unfold JE JI JG JC at*;exact Eo fit (xo hx hc S hi hg ht he hN hni hl hf hsw hs)
theorem Bq{scope:Scope}{Nc:List Str}{elt tg iter:Expr}{ifs:List Expr}{src:DI}{fr:List (Option Nat)}{dtg:eL}{k:Nat}{x:Str}(hN:X.N.Nodup)(hl:Loc X.env.scope x)(S:a5 X scope Nc fr)(hi:JI X tg iter src)(hg:∀C s H ex,JG (dv X scope Nc C s H ex) tg dtg)(ht:∀C s H ex,JC (dv X scope Nc C s H ex) ifs t)(he:∀C s H ex,JE (dv X scope Nc C s H ex) elt te)(fit:nk fr dtg)
 (hf:X.fn x=true\/X.env.scope.names.lookup x=some .local:=by first|exact .inl rfl|exact .inr rfl) (hsw:swapsWith (.ListComp elt [⟨tg,iter,ifs,0⟩] scope p) (some (.Name x pos')) pos.line X.env=pure true:=by rfl) (hni:X.N[k]?=some x:=by rfl) (hx:X.xe=fun _ _=>False:=by rfl) (hc:X.calm=true:=by rfl) (hs:∀x,foldedSetIterable iter X.env x=pure x:=by intro _;rfl):
 JS X (.Assign [.Name x pos'] (.ListComp elt [⟨tg,iter,ifs,0⟩] scope p) pos) (a9 k (jK src fr dtg t te)):=by
 unfold JS;unfold JE JI JG JC at*;exact Bj fit (xo hx hc S hi hg ht he hN hni hl hf hsw hs)
theorem eB(he:JE X e te)(ho:JE X o to)(hi:JE X i ti)(h1:ja e=true:=by rfl)(h2:ie i=true:=by rfl):JS X (.Assign [.Subscript o i pos'] e pos) (di to ti te):=by unfold JS;unfold JE at*;exact vN (H0 he ho hi h1 h2)
theorem HE{k:Nat}{x:Str}{op:Operator}{f:Int->Int->Int}(hN:X.N.Nodup)(hx:Loc X.env.scope x)(he:JE X e te)(ho:FG X op (Gs f))(hf:X.fn x=true\/X.env.scope.names.lookup x=some .local:=by first|exact .inl rfl|exact .inr rfl)(hi:X.N[k]?=some x:=by rfl):JS X (.AugAssign (.Name x pos') op e pos) (yr k (vG f) te):=by
 unfold JS;unfold JE at he;exact HB (Gd hN hi hx he ho hf)
theorem Gk{k j kt k2:Nat}{x y:Str}{px py pt pt2:Pos}(hN:X.N.Nodup)(hij:k≠j)(hx:X.env.scope.names.lookup x=some .local)(hy:X.env.scope.names.lookup y=some .local)(ha:JA X [a,b] ar)
 (hw:swappedStores [.Tuple [.Name x px,.Name y py] kt pt] (.Tuple [a,b] k2 pt2) X.env=pure (some [x,y]):=by rfl) (hc:X.calm=true:=by rfl) (hi:X.N[k]?=some x:=by rfl) (hj:X.N[j]?=some y:=by rfl) (hs:swapsWithSole [.Tuple [.Name x px,.Name y py] kt pt] (.Tuple [a,b] k2 pt2) pos.line X.env=pure false:=by rfl):
 JS X (.Assign [.Tuple [.Name x px,.Name y py] kt pt] (.Tuple [a,b] k2 pt2) pos) (Ci k j ar):=by unfold JS;unfold JA at ha;exact HC (F_ hc hN hi hj hij hx hy ha hw hs)
end
theorem cw{P:Program}{w:World}{K:PySem.W.Frag}{mg:Str->Option Value}{base:Heap}{x qual:Str}{st:Stmt}{f:Addr}{fd:FuncData}{N ps:List Str}{k:Nat}{sp:cq}{t:DS}(F:jy K x qual st f fd)(S:aY N ps (ai st))
 (hbody:∀(cdv:Value) (A:Around) (outer:List Env) (s:Shared) (H:Hp) (E:XK),bO k (A.deeper (envOfC qual (ai st) s.heap.objs.size f cdv))->JB (eE cz P w K mg base N qual (ai st) f cdv A outer s H E).gb (d_ st) t)
 (hsp:∀ds st K,sp ds st K->ds.length=ps.length/\t {nx:=fun _ st'=>K .aC st',rt:=K} (a7 N ds) st):bf P w K mg base cz (k+1) f fd ps (cH sp):=by
 unfold JB at hbody;exact Jf F S hbody hsp
end L3
namespace HT
open PySem PyProof.Rows
section
variable {prog:Program}{w:World}{A:Around}{E:Value->Shared->Prop}{s:Shared}
theorem nz{t sl:Addr}{items:Array Value}{vl vu:Value}{lo hi:Option Int}{Q:Value->Shared->Prop}(ht:IsTup s.heap t items)(hs:s.heap.IsSliceOf sl vl vu .none)(pl:IsPart vl lo)(pu:IsPart vu hi)
 (hw:bz items.size 0 lo=0/\bz items.size items.size hi=items.size) (h:Q (.ref t) s):wpAny (model prog w) A (getItem (.ref t) (.ref sl)) Q E s:=by
 obtain⟨os,hos,hcs,hds⟩:=id hs;have hTs:s.TypeIs (.ref sl) "slice":=⟨os,hos,hcs⟩
 unfold getItem;try with_reducible refine wpAny_holding ?_
 first|refine wpAny_bind (wpAny_pure ?_)|skip
 refine wpAny_bind (wpAny_sequenceKey ht.typeIs (by decide) ?_)
 refine wpAny_bind (wpAny_callSpecial?_slot (name:=Str.ofString "__getitem__") ht.typeIs PyProof.Rows.slot_tuple_getitem
  (wpAny_call_entry PyProof.Rows.slot_tuple_getitem ht.typeIs entry_tuple_getitem ?_ (args_tuple_getitem _ _)))
 show wpAny _ _ (Builtin.Tuple.tupleItemsOf (.ref t) >>= _) _ _ s;refine wpAny_bind (tupleItemsOf_ ht ?_);refine wpAny_bind (wpAny_typeOf hTs ?_);rw[if_pos (by decide)];refine wpAny_bind (ku hs pl pu ?_)
 have hyes:(((bz items.size 0 lo:Nat):Int)==0&&(1:Int)==1&&(bz items.size items.size hi-bz items.size 0 lo)==items.size)=true:=by
  rw[hw.1,hw.2];simp
 show wpAny _ _ (if(((bz items.size 0 lo:Nat):Int)==0&&(1:Int)==1&&(bz items.size items.size hi-bz items.size 0 lo)==items.size)=true then _ else _) _ _ s;rw[if_pos hyes];refine wpAny_bind ?_;unfold Builtin.Tuple.tupleIsExact;exact wpAny_bind (wpAny_typeOf ht.typeIs (wpAny_pure (wpAny_bind (wpAny_rule (wpAny_pure ⟨_,rfl,wpAny_pure h⟩)))))
end
end HT
namespace L3
open PySem L2
open PySem.Spec hiding items?
open PyProof.Rows hiding St
abbrev DO:=a_->ag->(Option Int->ag->Prop)->Prop
def sI:DO:=fun _ st K=>K none st
def yB(t:DE):DO:=fun σ st K=>t σ st fun d st1=>match d with| .int i=>K (some i) st1|_=>False
def cutD(xs:List D)(lo hi:Option Int):List D:=(xs.drop (HT.bz xs.length 0 lo)).take (HT.bz xs.length xs.length hi-HT.bz xs.length 0 lo)
def vp(d:D)(lo hi:Option Int)(st:ag)(K:DK):Prop:=match d with
 | .lst xs=>K (.lst (cutD xs lo hi)) st
 | .tup xs=>K (.tup (cutD xs lo hi)) st
 | .ref n=>(match st[n]? with|some (.lst xs)=>K (.lst (cutD xs lo hi)) st|_=>False)
 |_=>False
@[irreducible] def nN:D->Option Int->Option Int->ag->DK->Prop:=vp
def uJ(t:DE)(lo hi:DO):DE:=fun σ st K=>t σ st fun d st1=>lo σ st1 fun l st2=>hi σ st2 fun u st3=>nN d l u st3 K
theorem qf{α:List (Option Addr)}{G:Hp}{xs:List D}{vs:List V}{lo hi:Option Int}(r:aG α G xs vs):aG α G (cutD xs lo hi) (mO vs lo hi):=by
 unfold cutD mO;rw[<-r.length];exact aI.mpr (pQ _ (pH _ (aI.mp r)))
def Ll(α:List (Option Addr))(G F:Hp)(K:Option Int->ag->Prop)(Q:Option Int->Hp->Prop):Prop:=∀o st',K o st'->∀α' G' H',Step α G α' G'->bj G' F H'->aL α' st' G'->Q o H'
inductive J5(t:DO)(σ:L2.St)(H:Hp)(Q:Option Int->Hp->Prop):Prop
 |mk (α:List (Option Addr)) (σd:a_) (st:ag) (K:Option Int->ag->Prop) (G F:Hp) (P:bj G F H) (R:cC α G σd σ) (S:aL α st G) (h:t σd st K) (k:Ll α G F K Q):J5 t σ H Q
def LO(t:DO):TO:=J5 t
section
variable {X:Cx}
theorem PO.imp{e:Option Expr}{t t':TO}(h:PO X e t)(f:∀σ H Q,t' σ H Q->t σ H Q):PO X e t':=fun pins s σ H Q I q=>h pins s σ H Q I (f σ H Q q)
theorem Ek:PO X none (LO sI):=PO.imp DU fun σ H Q ⟨α,σd,st,K,G,F,P,R,S,t,k⟩=>k none st t α G H Step.refl P S
theorem DV{e:Expr}{te:DE}(h:PE X e (LE te)):PO X (some e) (LO (yB te)):=PO.imp (E_ h) fun σ H Q ⟨α,σd,st,K,G,F,P,R,S,t,k⟩=>by
 refine⟨α,σd,st,_,G,F,P,R,S,t,fun d st1 q α1 G1 H1 v s1 P1 S1 r1=>?_⟩;cases d<;>try exact q.elim
 unfold Rep at r1;exact⟨_,r1,k _ st1 q α1 G1 H1 s1 P1 S1⟩
def Ls(x:V)(lo hi:Option Int)(H:Hp)(Q:VK):Prop:=∃α d st K G F,bj G F H/\Rep α G d x/\aL α st G/\nN d lo hi st K/\LK α G F K Q
theorem EB:AO X (fun x lo hi H Q=>∃a xs,x= .ref a/\H a=some (.tup xs)/\((HT.bz xs.length 0 lo=0/\HT.bz xs.length xs.length hi=xs.length)->Q (.ref a) H)/\(¬(HT.bz xs.length 0 lo=0/\HT.bz xs.length xs.length hi=xs.length)->∀p,H p=none->Q (.ref p) (upd H p (.tup (mO xs lo hi))))):=by
 intro pins s σ H x v vl vu lo hi sl Q I rx hs pl pu h;obtain⟨a,xs,rfl,hx,q1,q2⟩:=h;by_cases hw:HT.bz xs.length 0 lo=0/\HT.bz xs.length xs.length hi=xs.length
 . cases rx;obtain⟨its,r,ht,hz⟩:=I.tuple (gn.of hx);have hlen:its.toArray.size=xs.length:=by rw[List.size_toArray];exact r.length.symm
   exact⟨"tuple",_,PyProof.Rows.slot_tuple_getitem.lookup,ht.typeIs,HT.nz ht hs pl pu (by rw[hlen];exact hw) ⟨.ref a,H,I,rfl,q1 hw⟩⟩
 . exact Gz pins s σ H _ v vl vu lo hi sl Q I rx hs pl pu ⟨a,xs,rfl,.of hx,hw,q2 hw⟩
theorem A9{xs:List D}{lo hi:Option Int}(hw:HT.bz xs.length 0 lo=0/\HT.bz xs.length xs.length hi=xs.length):cutD xs lo hi=xs:=by
 unfold cutD;rw[hw.1,hw.2];simp
theorem FJ:AO X Ls:=by
 intro pins s σ H x v vl vu lo hi sl Q I rx hs pl pu ⟨α,d,st,K,G,F',P,r1,S,q,k⟩;unfold nN vp at q;cases d<;>try exact q.elim
 . rename_i n;simp only at q;split at q
   . rename_i xs e;obtain⟨a,ea,vs,h1,h2⟩:=S.eX e;have r1':=cY ea r1;subst r1';exact xI pins s σ H _ v vl vu lo hi sl Q I rx hs pl pu ⟨a,vs,rfl,.inl (.of (P.get h1)),fun p hp=>k.lst P q S (qf h2) hp⟩
   . exact q.elim
 . unfold Rep at r1;obtain⟨a,vs,rfl,na,ha,ra⟩:=r1;exact xI pins s σ H _ v vl vu lo hi sl Q I rx hs pl pu ⟨a,vs,rfl,.inl (eK P ha),fun p hp=>k.lst P q S (qf ra) hp⟩
 . rename_i xs;have r0:=r1;unfold Rep at r1;obtain⟨a,vs,rfl,na,ha,ra⟩:=r1;refine EB pins s σ H _ v vl vu lo hi sl Q I rx hs pl pu ⟨a,vs,rfl,P.get ha,fun hw=>?_,fun _ p hp=>k.tup P q S (qf ra) hp⟩;rw[<-ra.length]at hw;simp only at q;rw[A9 hw]at q;exact k.here P q S r0
theorem Fe{e:Expr}{lo hi:Option Expr}{te:DE}{tl th:DO}{p2 pos:Pos}(he:PE X e (LE te))(hl:PO X lo (LO tl))(hh:PO X hi (LO th)):PE X (.Subscript e (.Slice lo hi none p2) pos) (LE (uJ te tl th)):=PE.imp (CI FJ he hl hh) fun σ H Q ⟨α,σd,st,K,G,F,P,R,S,t,k⟩=>by
 refine⟨α,σd,st,_,G,F,P,R,S,t,fun d st1 q α1 G1 H1 v s1 P1 S1 r1=>?_⟩;refine⟨α1,σd,st1,_,G1,F,P1,R.step s1,S1,q,fun l st2 q2 α2 G2 H2 s2 P2 S2=>?_⟩;refine⟨α2,σd,st2,_,G2,F,P2,(R.step s1).step s2,S2,q2,fun u st3 q3 α3 G3 H3 s3 P3 S3=>?_⟩;exact⟨α3,d,st3,K,G3,F,P3,(r1.step s2).step s3,S3,q3,((k.at s1).at s2).at s3⟩
@[irreducible] def JO(X:Cx)(e:Option Expr)(t:DO):Prop:=PO X e (LO t)
theorem D5:JO X none sI:=by unfold JO;exact Ek
theorem Fm{e:Expr}{te:DE}(h:JE X e te):JO X (some e) (yB te):=by unfold JO;unfold JE at h;exact DV h
theorem Fq{e:Expr}{lo hi:Option Expr}{te:DE}{tl th:DO}{p2 pos:Pos}(he:JE X e te)(hl:JO X lo tl)(hh:JO X hi th):JE X (.Subscript e (.Slice lo hi none p2) pos) (uJ te tl th):=by unfold JE at*;unfold JO at*;exact Fe he hl hh
end
theorem Al{st:ag}{K:DK}{xs:List D}{lo hi:Option Int}{n:Nat}(h:st[n]?=some (.lst xs))(k:K (.lst (cutD xs lo hi)) st):nN (.ref n) lo hi st K:=by unfold nN vp;simp only[h];exact k
section
variable {prog:Program}{w:World}{A:Around}{E:Value->Shared->Prop}{s:Shared}
theorem y_{iT tp:Addr}{n:Nat}{its:Array Value}{v:Value}{Q:Value->Shared->Prop}(hI:s.heap.IsTupleIter iT tp n)(hT:s.heap.IsTuple tp its)(hv:its[n]?=some v)
 (q:∀g,g.IsTupleIter iT tp (n+1)->Heap.SameBut iT s.heap g->Q v {s with heap:=g}):wpAny (model prog w) A (Builtin.SmallTypes.nextOf (.ref iT)) Q E s:=by
 obtain⟨oI,eI,cI,dI⟩:=id hI;obtain⟨oT,eT,_,nT,dT⟩:=hT;unfold Builtin.SmallTypes.nextOf;refine wpAny_bind (wpAny_callSpecial?_slot (name:=Str.ofString "__next__") hI.typeIs F.slot_tuple_iterator_next (wpAny_call_entry F.slot_tuple_iterator_next hI.typeIs F.entry_tuple_iterator_next ?_ (F.args_tuple_iterator_next_1 _)));show wpAny _ _ (field (.ref iT) 0 >>= _) _ _ s;refine wpAny_bind (wpAny_field eI dI (x:= .ref tp) rfl ?_);show wpAny _ _ (if(Value.ref tp==Value.none)=true then _ else _) _ _ s;rw[if_neg (show¬((Value.ref tp==Value.none)=true)from Bool.false_ne_true)];show wpAny _ _ (field (.ref iT) 1 >>= _) _ _ s;refine wpAny_bind (wpAny_field eI dI (x:= .int n 0) rfl ?_);show wpAny _ _ (seqItems? (.ref tp) >>= _) _ _ s;refine wpAny_bind (wpAny_seqItems eT dT ?_);simp only[Int.toNat_natCast,hv];refine wpAny_bind (wpAny_setField eI dI (by simp) (wpAny_pure ⟨v,rfl,wpAny_pure (q _ ?_ (Heap.SameBut.update ..))⟩));refine⟨_,Heap.get?_update_self _ eI (Obj.isFreed_of_fields (Obj.data_mapFields dI _)),(Obj.cls_mapFields ..).trans cI,?_⟩;rw[Obj.data_mapFields dI];simp[rawInt]
theorem Au{iT tp:Addr}{n:Nat}{its:Array Value}{Q:Value->Shared->Prop}(hh:A.handled=none)(hI:s.heap.IsTupleIter iT tp n)(hT:s.heap.IsTuple tp its)(hv:its[n]?=none)
 (q:∀g e,Heap.ExtBut iT s.heap g->(∃o,g.get? e=some o/\o.cls= .type "StopIteration")->E (.ref e) {s with heap:=g}):wpAny (model prog w) A (Builtin.SmallTypes.nextOf (.ref iT)) Q E s:=by
 obtain⟨oI,eI,cI,dI⟩:=id hI;obtain⟨oT,eT,_,nT,dT⟩:=hT;unfold Builtin.SmallTypes.nextOf;refine wpAny_bind (wpAny_callSpecial?_slot (name:=Str.ofString "__next__") hI.typeIs F.slot_tuple_iterator_next (wpAny_call_entry F.slot_tuple_iterator_next hI.typeIs F.entry_tuple_iterator_next ?_ (F.args_tuple_iterator_next_1 _)));show wpAny _ _ (field (.ref iT) 0 >>= _) _ _ s;refine wpAny_bind (wpAny_field eI dI (x:= .ref tp) rfl ?_);show wpAny _ _ (if(Value.ref tp==Value.none)=true then _ else _) _ _ s;rw[if_neg (show¬((Value.ref tp==Value.none)=true)from Bool.false_ne_true)];show wpAny _ _ (field (.ref iT) 1 >>= _) _ _ s;refine wpAny_bind (wpAny_field eI dI (x:= .int n 0) rfl ?_);show wpAny _ _ (seqItems? (.ref tp) >>= _) _ _ s;refine wpAny_bind (wpAny_seqItems eT dT ?_);simp only[Int.toNat_natCast,hv];refine wpAny_bind (wpAny_rule (wpAny_bind (wpAny_setField eI dI (by simp) ?_)));show wpAny _ _ (newExc (.type "StopIteration") [] >>= _) _ _ _;refine wpAny_bind ?_;simp only[newExc,newTuple];refine wpAny_bind (wpAny_newObj_type ?_ (by size_fits));refine wpAny_bind (m:=firstArgMember _ _) (wpAny_of_eq (a:=Value.none) (by first|rfl|(simp only[firstArgMember];rfl)) ?_);refine wpAny_newObj_type ?_ (by size_fits);simp only[raiseNew];refine wpAny_bind (wpAny_handled ?_);first|rw[show A.in1.handled=none from hh]|rw[hh]
 refine wpAny_bind (wpAny_pure (wpAny_throw ?_));exact q _ _ (((Heap.SameBut.update ..).extBut.push _).push _) ⟨_,Heap.get?_push_size _ rfl,rfl⟩
end
section
variable {st:ag}{K:DK}{i j:Int}{b c:Bool}{xs ys:List D}{d e:D}{n:Nat}
theorem eqT(h:i=j)(k:K (.bl true) st):kD (.int i) (.int j) st K:=AR (by rw[decide_eq_true h];exact k)
theorem Ku(h:i≠j)(k:K (.bl false) st):kD (.int i) (.int j) st K:=AR (by rw[decide_eq_false h];exact k)
theorem eq2(h1:i=j->K (.bl true) st)(h2:i≠j->K (.bl false) st):kD (.int i) (.int j) st K:=by
 by_cases h:i=j
 . exact eqT h (h1 h)
 . exact Ku h (h2 h)
theorem neT(h:i≠j)(k:K (.bl true) st):tF (.int i) (.int j) st K:=CM (by rw[decide_eq_false h];exact k)
theorem Ln(h:i=j)(k:K (.bl false) st):tF (.int i) (.int j) st K:=CM (by rw[decide_eq_true h];exact k)
theorem ne2(h1:i≠j->K (.bl true) st)(h2:i=j->K (.bl false) st):tF (.int i) (.int j) st K:=by
 by_cases h:i=j
 . exact Ln h (h2 h)
 . exact neT h (h1 h)
theorem Kr(h:i<j)(k:K (.bl true) st):oz (.int i) (.int j) st K:=Dh (by rw[decide_eq_true h];exact k)
theorem J0(h:j<=i)(k:K (.bl false) st):oz (.int i) (.int j) st K:=Dh (by rw[decide_eq_false (by omega)];exact k)
theorem FE(h1:i<j->K (.bl true) st)(h2:j<=i->K (.bl false) st):oz (.int i) (.int j) st K:=by
 by_cases h:i<j
 . exact Kr h (h1 h)
 . exact J0 (by omega) (h2 (by omega))
theorem FD(h:j<i)(k:K (.bl true) st):k_ (.int i) (.int j) st K:=yE (by rw[decide_eq_true h];exact k)
theorem HX(h:i<=j)(k:K (.bl false) st):k_ (.int i) (.int j) st K:=yE (by rw[decide_eq_false (by omega)];exact k)
theorem DH(h1:j<i->K (.bl true) st)(h2:i<=j->K (.bl false) st):k_ (.int i) (.int j) st K:=by
 by_cases h:j<i
 . exact FD h (h1 h)
 . exact HX (by omega) (h2 (by omega))
theorem Ks{P:Prop}(h:xs.length<=1000)(k:P):xs.length<=sizeLine/\P:=⟨by rw[sizeLine_eq];omega,k⟩
theorem bP{m:Nat}(h:m<=1000):m<=sizeLine:=by rw[sizeLine_eq];omega
theorem sO(h0:0<=i)(e:xs[i.toNat]?=some d):c_ xs i=some d:=by
 have:=fS e;rw[Int.toNat_of_nonneg h0]at this;exact this
theorem kB{m:Nat}(h0:0<=i)(h:i.toNat<m):jG m i=some i.toNat:=by
 unfold jG;have:i<(m:Int):=by omega
 simp[h0,this]
end
theorem fP{tg:eL}{body:DS}{ok:ag->Prop}{E:g_}(I:List D->a_->ag->Prop)(hend:∀σ st,I [] σ st->ok st/\E.nx σ st)
 (hstep:∀x xs σ st,I (x::xs) σ st->(∀σ' st',I xs σ' st'->ff tg body ok E xs σ' st')->ok st/\∃σ1,tg x σ=some σ1/\body {E with nx:=ff tg body ok E xs,ct:=ff tg body ok E xs,bk:=E.nx} σ1 st):
 ∀xs σ st,I xs σ st->ff tg body ok E xs σ st
 | [],σ,st,h=>by unfold ff;exact hend σ st h
 |x::xs,σ,st,h=>by unfold ff;exact hstep x xs σ st h fun σ' st' h'=>fP I hend hstep xs σ' st' h'
theorem i5{tg:eL}{c:DT}{te:DE}{ok:ag->Prop}{σc:a_}{K:List D->ag->Prop}(I:List D->List D->ag->Prop)(hend:∀acc st,I [] acc st->ok st/\K acc st)
 (hstep:∀x xs acc st,I (x::xs) acc st->(∀acc' st',I xs acc' st'->cX tg c te ok σc xs acc' st' K)->ok st/\∃σ2,tg x σc=some σ2/\c σ2 st fun b st1=>if b=true then te σ2 st1 fun y st2=>cX tg c te ok σc xs (acc++[y]) st2 K else cX tg c te ok σc xs acc st1 K):
 ∀xs acc st,I xs acc st->cX tg c te ok σc xs acc st K
 | [],acc,st,h=>by unfold cX;exact hend acc st h
 |x::xs,acc,st,h=>by unfold cX;exact hstep x xs acc st h fun acc' st' h'=>i5 I hend hstep xs acc' st' h'
theorem comp_map{tg:eL}{te:DE}{ok:ag->Prop}{σc:a_}{st:ag}{K:List D->ag->Prop}{g:D->D}(aB:ok st)(xs:List D)(hx:∀x∈xs,∀K',K' (g x) st->∃σ2,tg x σc=some σ2/\te σ2 st K')(k:K (xs.map g) st):cX tg bT te ok σc xs [] st K:=by
 refine i5 (fun r acc st'=>st'=st/\(∀x∈r,x∈xs)/\acc++r.map g=xs.map g) (fun acc st' h=>?_) (fun x r acc st' h next=>?_) xs [] st ⟨rfl,fun _ h=>h,rfl⟩
 . obtain⟨rfl,_,e⟩:=h;rw[List.map_nil,List.append_nil]at e;rw[e];exact⟨aB,k⟩
 . obtain⟨rfl,hm,e⟩:=h;obtain⟨σ2,e2,q⟩:=hx x (hm x List.mem_cons_self) (fun y st2=>cX tg bT te ok σc r (acc++[y]) st2 K) (next _ _ ⟨rfl,fun z hz=>hm z (List.mem_cons_of_mem _ hz),by rw[<-e];simp⟩);exact⟨aB,σ2,e2,q⟩
theorem eO{A B:DS}{E:g_}{σ:a_}{st:ag}(J:a_->ag->Prop)(h:∀nx,(∀σ' st',J σ' st'->nx σ' st')->A {E with nx:=nx} σ st)(k:∀σ' st',J σ' st'->B E σ' st'):aO A B E σ st:=h (B E) k
def Gh(n:Nat)(K:DK)(y:D)(st2:ag):Prop:=∃y',[y]=[y']/\(match st2[n]? with|some (.lst xs)=>xs.length<sizeLine/\K .aC (st2.set n (.lst (xs++[y'])))|_=>False)
theorem l9{n:Nat}{K:DK}{y:D}{st:ag}{xs:List D}(e:st[n]?=some (.lst xs))(h:xs.length<sizeLine)(k:K .aC (st.set n (.lst (xs++[y])))):Gh n K y st:=by
 refine⟨y,rfl,?_⟩;simp only[e];exact⟨h,k⟩
@[irreducible] def gH(to te:DE):DE:=ma to te
theorem oA{σ:a_}{st:ag}{K:DK}{i n:Nat}{xs:List D}{te:DE}(ei:σ[i]?=some (some (.ref n)))(e:st[n]?=some (.lst xs))(h:te σ st (Gh n K)):gH (ae i) te σ st K:=by
 unfold gH ma ae;simp only[ei,e];exact h
theorem jM{X:Cx}{o e:Expr}{to te:DE}{apos cpos:Pos}(ho:JE X o to)(he:JE X e te)(hbase:attributeBase o "append" X.env (eval o X.env)=eval o X.env:=by rfl)(hline:(apos.endLine==cpos.line)=true:=by rfl)(hs:notStar e=true:=by rfl):JE X (.Call (.Attribute o "append" apos) [e] [] cpos) (gH to te):=by
 unfold gH;exact BE ho he hbase hline hs
section
variable {X:Cx}
end
structure Src(P:Program)(w:World)(t a:Addr)(J:Nat->Heap->Prop)(us:Array Value):Prop where
 fr:∀n g k,J n g->(∀b,b=t\/b=a->∀o,g.get? b=some o->k.get? b=some o)->J n k
 lv:∀n g,J n g->(∃o,g.get? t=some o)/\∃o,g.get? a=some o
 nx:∀n (A:Around) (s:Shared) (Q:Value->Shared->Prop) (E:Value->Shared->Prop) v,J n s.heap->us[n]?=some v->(∀k,J (n+1) k->Heap.SameBut t s.heap k->Q v {s with heap:=k})->wpAny (model P w) A (Builtin.SmallTypes.nextOf (.ref t)) Q E s
 en:∀n (A:Around) (s:Shared) (Q:Value->Shared->Prop) (E:Value->Shared->Prop),A.handled=none->J n s.heap->us[n]?=none->(∀k e,Heap.ExtBut t s.heap k->(∃o,k.get? e=some o/\o.cls= .type "StopIteration")->E (.ref e) {s with heap:=k})->wpAny (model P w) A (Builtin.SmallTypes.nextOf (.ref t)) Q E s
section
variable {P:Program}{w:World}
theorem src_list(t a:Addr)(hne:a≠t)(us:Array Value):Src P w t a (fun n g=>g.IsListIter t a n/\g.IsList a us) us where
 fr:=fun n g k j kp=>⟨j.1.at fun o e=>kp t (.inl rfl) o e,j.2.at fun o e=>kp a (.inr rfl) o e⟩
 lv:=fun n g j=>⟨let⟨o,e,_⟩:=j.1;⟨o,e⟩,let⟨o,e,_⟩:=j.2;⟨o,e⟩⟩
 nx:=fun n A s Q E v j hv q=>wpAny_nextOf_list_item j.1 j.2 hv fun k jk sb=>q k ⟨jk,j.2.extBut sb.extBut hne⟩ sb
 en:=fun n A s Q E hh j hv q=>wpAny_nextOf_list_end hh j.1 j.2 hv q
theorem E7(t a:Addr)(hne:a≠t)(us:Array Value):Src P w t a (fun n g=>g.IsTupleIter t a n/\g.IsTuple a us) us where
 fr:=fun n g k j kp=>by
  obtain⟨⟨o,e,r⟩,⟨o2,e2,r2⟩⟩:=j;exact⟨⟨o,kp t (.inl rfl) o e,r⟩,⟨o2,kp a (.inr rfl) o2 e2,r2⟩⟩
 lv:=fun n g j=>⟨let⟨o,e,_⟩:=j.1;⟨o,e⟩,let⟨o,e,_⟩:=j.2;⟨o,e⟩⟩
 nx:=fun n A s Q E v j hv q=>y_ j.1 j.2 hv fun k jk sb=>q k ⟨jk,j.2.extBut sb.extBut hne⟩ sb
 en:=fun n A s Q E hh j hv q=>Au hh j.1 j.2 hv q
theorem Src.ext{t a c:Addr}{J:Nat->Heap->Prop}{us:Array Value}(S:Src P w t a J us){n:Nat}{g k:Heap}(j:J n g)(x:Heap.ExtBut c g k)(h1:c≠t)(h2:c≠a):J n k:=
 S.fr n g k j fun b hb o e=>x b o (by rcases hb with rfl|rfl;exact Ne.symm h1;exact Ne.symm h2) e
structure xw(z ti to t1 t2 a1 a2:Addr):Prop where
 nd: [z,ti,to,t1,t2].Nodup
 a1:a1∉[z,ti,to,t1,t2]
 a2:a2∉[z,ti,to,t1,t2]
section
variable {z ti to t1 t2 a1 a2:Addr}
theorem xw.n(D:xw z ti to t1 t2 a1 a2):(ti≠z/\to≠z/\t1≠z/\t2≠z)/\(ti≠to/\ti≠t1/\ti≠t2)/\(to≠t1/\to≠t2)/\t1≠t2:=by
 have:=D.nd;simp only[List.nodup_cons,List.mem_cons,not_or,List.not_mem_nil,not_false_eq_true,and_true,List.nodup_nil]at this;obtain⟨⟨b1,b2,b3,b4⟩,⟨b5,b6,b7⟩,⟨b8,b9⟩,b10⟩:=this;exact⟨⟨Ne.symm b1,Ne.symm b2,Ne.symm b3,Ne.symm b4⟩,⟨b5,b6,b7⟩,⟨b8,b9⟩,b10⟩
theorem As{A:Around}{s:Shared}{E:Value->Shared->Prop}{J1 J2:Nat->Heap->Prop}{us vs:Array Value}{n:Nat}{x y a b:Value}{Q:Value->Shared->Prop}(D:xw z ti to t1 t2 a1 a2)(S1:Src P w t1 a1 J1 us)(S2:Src P w t2 a2 J2 vs)
 (Z:IsZip s.heap z ti to .none) (pI:IsPair s.heap ti (.ref t1) (.ref t2)) (pO:IsPair s.heap to a b) (j1:J1 n s.heap) (j2:J2 n s.heap) (ex:us[n]?=some x) (ey:vs[n]?=some y)
 (q:∀k,IsZip k z ti to (rawInt s.heap.objs.size)->IsPair k to x y->J1 (n+1) k->J2 (n+1) k->IsPair k s.heap.objs.size x y->k.objs.size=s.heap.objs.size+1->
   (∀c o,c≠z->c≠to->c≠t1->c≠t2->s.heap.get? c=some o->k.get? c=some o)->Q (.ref s.heap.objs.size) {s with heap:=k}):
 wpAny (model P w) A (Builtin.«zip.__next__» ⟨[.ref z],[]⟩) (fun fin s'=>∃v,fin= .done (.ret v)/\Q v s') E s:=by
 obtain⟨⟨n1,n2,n3,n4⟩,⟨n5,n6,n7⟩,⟨n8,n9⟩,n10⟩:=D.n;have m1:=D.a1;have m2:=D.a2;simp only[List.mem_cons,not_or,List.not_mem_nil,not_false_eq_true,and_true]at m1 m2;show wpAny _ _ (field (.ref z) 2 >>= _) _ _ _;refine wpAny_bind (wpAny_field Z rfl (x:= .bool false) rfl ?_);show wpAny _ _ (field (.ref z) 3 >>= _) _ _ _;refine wpAny_bind (wpAny_field Z rfl (x:= .ref ti) rfl ?_);refine wpAny_bind (wpAny_seqItems pI rfl ?_);show wpAny _ _ (Builtin.SmallTypes.ownedTupleIsFree (.ref z) >>= _) _ _ _;refine wpAny_bind ?_;unfold Builtin.SmallTypes.ownedTupleIsFree;refine wpAny_bind (wpAny_field Z rfl (x:= .none) rfl (wpAny_pure ?_));simp only[if_true];refine wpAny_bind (wpAny_rule ?_);refine wpAny_bind (wpAny_field Z rfl (x:= .ref to) rfl ?_);refine wpAny_bind (wpAny_setField_rec Z (by simp) fun k1 Z1 b1=>?_);replace Z1:IsZip k1 z ti to .ellipsis:=Z1;refine wpAny_bind ?_;simp only[List.zipIdx_cons,List.zipIdx_nil,List.forIn_cons,List.forIn_nil];refine wpAny_bind (wpAny_bind (wpAny_onRaise ?_));show wpAny _ _ (Builtin.SmallTypes.nextOf (.ref t1) >>= _) _ _ _;refine wpAny_bind (S1.nx n _ _ _ _ x (S1.ext j1 b1.extBut (Ne.symm n3) (Ne.symm m1.1)) ex fun k2 j1b b2=>wpAny_pure ?_);have pO2:IsPair k2 to a b:=b2.extBut _ _ n8 (b1.extBut _ _ n2 pO);refine wpAny_bind (wpAny_seqItems pO2 rfl ?_);refine wpAny_bind (wpAny_updateSeq_pair pO2 fun k3 pO3 b3=>?_);replace pO3:IsPair k3 to x b:=pO3;refine wpAny_bind (wpAny_letGo (wpAny_pure ?_));refine wpAny_bind (wpAny_bind (wpAny_onRaise ?_));show wpAny _ _ (Builtin.SmallTypes.nextOf (.ref t2) >>= _) _ _ _;have j2c:J2 n k3:=S2.ext (S2.ext (S2.ext j2 b1.extBut (Ne.symm n4) (Ne.symm m2.1)) b2.extBut n10 (Ne.symm m2.2.2.2.1)) b3.extBut n9 (Ne.symm m2.2.2.1);refine wpAny_bind (S2.nx n _ _ _ _ y j2c ey fun k4 j2d b4=>wpAny_pure ?_);have pO4:IsPair k4 to x b:=b4.extBut _ _ n9 pO3;refine wpAny_bind (wpAny_seqItems pO4 rfl ?_);refine wpAny_bind (wpAny_updateSeq_pair pO4 fun k5 pO5 b5=>?_);replace pO5:IsPair k5 to x y:=pO5;refine wpAny_bind (wpAny_letGo (wpAny_pure (wpAny_pure ?_)));refine wpAny_bind (wpAny_seqItems pO5 rfl ?_);refine wpAny_bind (wpAny_newTuple ?_);have sz:k5.objs.size=s.heap.objs.size:=by rw[b5.1,b4.1,b3.1,b2.1,b1.1]
 have Z5:IsZip k5 z ti to .ellipsis:=b5.extBut _ _ (Ne.symm n2) (b4.extBut _ _ (Ne.symm n4) (b3.extBut _ _ (Ne.symm n2) (b2.extBut _ _ (Ne.symm n3) Z1)));have kp5:∀c o,c≠z->c≠to->c≠t1->c≠t2->s.heap.get? c=some o->k5.get? c=some o:=fun c o c1 c2 c3 c4 e=>b5.extBut _ _ c2 (b4.extBut _ _ c4 (b3.extBut _ _ c2 (b2.extBut _ _ c3 (b1.extBut _ _ c1 e))));have j1e:J1 (n+1) k5:=S1.ext (S1.ext (S1.ext j1b b3.extBut n8 (Ne.symm m1.2.2.1)) b4.extBut (Ne.symm n10) (Ne.symm m1.2.2.2.2)) b5.extBut n8 (Ne.symm m1.2.2.1);have j2e:J2 (n+1) k5:=S2.ext j2d b5.extBut n9 (Ne.symm m2.2.2.1);have ltz:z<k5.objs.size:=Heap.lt_size Z5;show wpAny _ _ (Builtin.SmallTypes.ownedTupleHandOut (.ref z) (.ref k5.objs.size) >>= _) _ _ _;refine wpAny_bind ?_;unfold Builtin.SmallTypes.ownedTupleHandOut;have Z6:IsZip (k5.push {cls:= .type "tuple",data:= .seq #[x,y]}) z ti to .ellipsis:=Heap.get?_push_of_some _ Z5;refine wpAny_bind (wpAny_setField_rec Z6 (by simp) fun k7 Z7 b7=>?_);replace Z7:IsZip k7 z ti to (rawInt k5.objs.size):=Z7;refine wpAny_setField_rec Z7 (by simp) fun k8 Z8 b8=>?_;replace Z8:IsZip k8 z ti to (rawInt k5.objs.size):=Z8;have up:∀c o,c≠z->k5.get? c=some o->k8.get? c=some o:=fun c o c1 e=>b8.extBut _ _ c1 (b7.extBut _ _ c1 (Heap.get?_push_of_some _ e));have pT:IsPair k8 k5.objs.size x y:=b8.extBut _ _ (Nat.ne_of_gt ltz) (b7.extBut _ _ (Nat.ne_of_gt ltz) (Heap.get?_push_size _ rfl));have sz8:k8.objs.size=k5.objs.size+1:=by rw[b8.1,b7.1,Heap.size_push]
 rw[sz]at Z8 pT sz8;refine wpAny_pure ⟨_,rfl,?_⟩;show Q (.ref k5.objs.size) _;rw[sz];refine q k8 Z8 (up _ _ n2 pO5) (S1.fr _ _ _ j1e fun b hb o e=>up b o ?_ e) (S2.fr _ _ _ j2e fun b hb o e=>up b o ?_ e) pT sz8 fun c o c1 c2 c3 c4 e=>up c o c1 (kp5 c o c1 c2 c3 c4 e)
 . rcases hb with rfl|rfl
   . exact n3
   . exact m1.1
 . rcases hb with rfl|rfl
   . exact n4
   . exact m2.1
theorem BR{A:Around}{s:Shared}{E:Value->Shared->Prop}{J1 J2:Nat->Heap->Prop}{us vs:Array Value}{n:Nat}{a b:Value}{Q:Fin->Shared->Prop}(hh:A.handled=none)(D:xw z ti to t1 t2 a1 a2)(S1:Src P w t1 a1 J1 us)(S2:Src P w t2 a2 J2 vs)
 (Z:IsZip s.heap z ti to .none) (pI:IsPair s.heap ti (.ref t1) (.ref t2)) (pO:IsPair s.heap to a b) (j1:J1 n s.heap) (j2:J2 n s.heap) (he:us[n]?=none\/vs[n]?=none)
 (q:∀k e,(∀c o,c≠z->c≠to->c≠t1->c≠t2->s.heap.get? c=some o->k.get? c=some o)->(∃o,k.get? e=some o/\o.cls= .type "StopIteration")->E (.ref e) {s with heap:=k}):
 wpAny (model P w) A (Builtin.«zip.__next__» ⟨[.ref z],[]⟩) Q E s:=by
 obtain⟨⟨n1,n2,n3,n4⟩,⟨n5,n6,n7⟩,⟨n8,n9⟩,n10⟩:=D.n;have m1:=D.a1;have m2:=D.a2;simp only[List.mem_cons,not_or,List.not_mem_nil,not_false_eq_true,and_true]at m1 m2;show wpAny _ _ (field (.ref z) 2 >>= _) _ _ _;refine wpAny_bind (wpAny_field Z rfl (x:= .bool false) rfl ?_);show wpAny _ _ (field (.ref z) 3 >>= _) _ _ _;refine wpAny_bind (wpAny_field Z rfl (x:= .ref ti) rfl ?_);refine wpAny_bind (wpAny_seqItems pI rfl ?_);show wpAny _ _ (Builtin.SmallTypes.ownedTupleIsFree (.ref z) >>= _) _ _ _;refine wpAny_bind ?_;unfold Builtin.SmallTypes.ownedTupleIsFree;refine wpAny_bind (wpAny_field Z rfl (x:= .none) rfl (wpAny_pure ?_));simp only[if_true];refine wpAny_bind (wpAny_rule ?_);refine wpAny_bind (wpAny_field Z rfl (x:= .ref to) rfl ?_);refine wpAny_bind (wpAny_setField_rec Z (by simp) fun k1 Z1 b1=>?_);replace Z1:IsZip k1 z ti to .ellipsis:=Z1;refine wpAny_bind ?_;simp only[List.zipIdx_cons,List.zipIdx_nil,List.forIn_cons,List.forIn_nil];refine wpAny_bind (wpAny_bind (wpAny_onRaise ?_));show wpAny _ _ (Builtin.SmallTypes.nextOf (.ref t1) >>= _) _ _ _;have j1a:J1 n k1:=S1.ext j1 b1.extBut (Ne.symm n3) (Ne.symm m1.1);cases ex:us[n]? with
 |none=>
  refine wpAny_bind (S1.en n _ _ _ _ hh j1a ex fun k2 e b2 hx=>?_);obtain⟨oe,he1,he2⟩:=hx;have Z2:IsZip k2 z ti to .ellipsis:=b2 _ _ (Ne.symm n3) Z1;have hez:e≠z:=fun c=>by subst c;rw[Z2]at he1;cases he1;simp at he2
  refine wpAny_setField_rec Z2 (by simp) fun k3 _ b3=>q k3 e (fun c o c1 _ c3 _ f=>b3.extBut _ _ c1 (b2 _ _ c3 (b1.extBut _ _ c1 f))) ⟨oe,b3.extBut _ _ hez he1,he2⟩
 |some x=>
  have ey:vs[n]?=none:=by
   rcases he with h|h
   . rw[ex]at h;cases h
   . exact h
  refine wpAny_bind (S1.nx n _ _ _ _ x j1a ex fun k2 j1b b2=>wpAny_pure ?_);have pO2:IsPair k2 to a b:=b2.extBut _ _ n8 (b1.extBut _ _ n2 pO);refine wpAny_bind (wpAny_seqItems pO2 rfl ?_);refine wpAny_bind (wpAny_updateSeq_pair pO2 fun k3 pO3 b3=>?_);refine wpAny_bind (wpAny_letGo (wpAny_pure ?_));refine wpAny_bind (wpAny_bind (wpAny_onRaise ?_));show wpAny _ _ (Builtin.SmallTypes.nextOf (.ref t2) >>= _) _ _ _;have j2c:J2 n k3:=S2.ext (S2.ext (S2.ext j2 b1.extBut (Ne.symm n4) (Ne.symm m2.1)) b2.extBut n10 (Ne.symm m2.2.2.2.1)) b3.extBut n9 (Ne.symm m2.2.2.1);refine wpAny_bind (S2.en n _ _ _ _ hh j2c ey fun k4 e b4 hx=>?_);obtain⟨oe,he1,he2⟩:=hx;have Z4:IsZip k4 z ti to .ellipsis:=b4 _ _ (Ne.symm n4) (b3.extBut _ _ (Ne.symm n2) (b2.extBut _ _ (Ne.symm n3) Z1));have hez:e≠z:=fun c=>by subst c;rw[Z4]at he1;cases he1;simp at he2
  refine wpAny_setField_rec Z4 (by simp) fun k5 _ b5=>q k5 e (fun c o c1 c2 c3 c4 f=>b5.extBut _ _ c1 (b4 _ _ c4 (b3.extBut _ _ c2 (b2.extBut _ _ c3 (b1.extBut _ _ c1 f))))) ⟨oe,b5.extBut _ _ hez he1,he2⟩
end
end
theorem Dz{X:Cx}{pins:List (Addr×Obj)}{σ:L2.St}{H:Hp}{s:Shared}{g:Heap}{tk:Nat}{fp:List Addr}{T:Addr}{xs:List V}(I:Inv X pins σ H s)(hf:∀b∈fp,i3 X pins H b)
 (k:∀b o,b∉fp->s.heap.get? b=some o->g.get? b=some o) (hT:s.heap.objs.size<=T) (new:cu X.prog X.w (upd H T (.tup xs)) g T (.tup xs)):Inv X pins σ (upd H T (.tup xs)) {s with heap:=g,toks:=tk}:=by
 have hn:H T=none:=I.aB.fresh hT;have nfp:∀b u,H b=some u->b∉fp:=fun b u e z=>by rw[(hf b z).1]at e;cases e
 have nT:∀b u,H b=some u->b≠T:=fun b u e=>cv e hn
 refine I.step (g':=s.gens) (d':=s.drawn) (ch:=fp) (fun b hb=>?_) (fun b o _ _ hc e _=>k b o hc e) (fun b o _ _ hc e _=>⟨o.slots,k b o hc e⟩) (fun b o _ e n=>?_) (fun b o hc e=>⟨o,k b o hc e⟩)
  (fun b ys e=>by rw[az (nT b _ e)];exact e) (fun b o u e=>by rw[az (nT b _ e)];exact e) (fun b ps e=>⟨#[],by rw[az (nT b _ e),e];simp⟩) (fun m hm=>?_) (fun b u e=>?_) I.bare
 . obtain⟨f0,f1,f2,f3,f4,f5⟩:=hf b hb;exact⟨f3,f1,f4,f5⟩
 . rw[az (Nat.ne_of_lt (Nat.lt_of_lt_of_le (Heap.lt_size e) hT))];exact n
 . obtain⟨o,es,ep,ho,r⟩:=hm;exact⟨o,es,ep,k _ o (fun z=>(hf _ z).2.1 rfl) ho,r⟩
 . by_cases hb:b=T
   . subst hb;rw[aK]at e;cases e;exact new
   . rw[az hb]at e;refine(I.aB b u e).jS (fun c v hc q=>k c v ?_ q) (fun c q=>by rw[az (nT c _ q)];exact q) fun c ys q=>by rw[az (nT c _ q)];exact q
     rcases hc with z|z
     . rw[z];exact nfp b u e
     . exact nfp c _ z
theorem Dw{X:Cx}{pins:List (Addr×Obj)}{σ:L2.St}{H:Hp}{s:Shared}{g:Heap}{tk:Nat}{fp:List Addr}(I:Inv X pins σ H s)(hf:∀b∈fp,i3 X pins H b)
 (k:∀b o,b∉fp->s.heap.get? b=some o->g.get? b=some o):Inv X pins σ H {s with heap:=g,toks:=tk}:=by
 have nfp:∀b u,H b=some u->b∉fp:=fun b u e z=>by rw[(hf b z).1]at e;cases e
 refine I.step (g':=s.gens) (d':=s.drawn) (ch:=fp) (fun b hb=>?_) (fun b o _ _ hc e _=>k b o hc e) (fun b o _ _ hc e _=>⟨o.slots,k b o hc e⟩) (fun b o _ e n=>n) (fun b o hc e=>⟨o,k b o hc e⟩)
  (fun b ys e=>e) (fun b o u e=>e) (fun b ps e=>⟨#[],by rw[e];simp⟩) (fun m hm=>?_) (fun b u e=>?_) I.bare
 . obtain⟨f0,f1,f2,f3,f4,f5⟩:=hf b hb;exact⟨f3,f1,f4,f5⟩
 . obtain⟨o,es,ep,ho,r⟩:=hm;exact⟨o,es,ep,k _ o (fun z=>(hf _ z).2.1 rfl) ho,r⟩
 . refine(I.aB b u e).jS (fun c v hc q=>k c v ?_ q) (fun c q=>q) fun c ys q=>q;rcases hc with z|z
   . rw[z];exact nfp b u e
   . exact nfp c _ z
inductive SK where
 |l|t
def mf(k:SK)(K:PySem.W.Frag)(H:Hp)(a:Addr)(xs:List V):Prop:=match k with
 | .l=>jz K H a xs
 | .t=>gn K H a xs
def ni(k:SK)(t a:Addr)(n:Nat)(g:Heap):Prop:=match k with
 | .l=>g.IsListIter t a n
 | .t=>g.IsTupleIter t a n
def jL(k:SK)(g:Heap)(a:Addr)(us:Array Value):Prop:=match k with
 | .l=>g.IsList a us
 | .t=>g.IsTuple a us
def wy(k:SK)(a:Addr):Obj:=match k with
 | .l=>{cls:= .type "list_iterator",data:= .fields #[.ref a,.int 0 0]}
 | .t=>{cls:= .type "tuple_iterator",data:= .fields #[.ref a,.int 0 0]}
theorem j9{P:Program}{w:World}(k:SK)(t a:Addr)(hne:a≠t)(us:Array Value):Src P w t a (fun n g=>ni k t a n g/\jL k g a us) us:=by
 cases k
 . exact src_list t a hne us
 . exact E7 t a hne us
theorem iN{X:Cx}{pins:List (Addr×Obj)}{σ:L2.St}{H:Hp}{s:Shared}{k:SK}{a:Addr}{xs:List V}(I:Inv X pins σ H s)(h:mf k X.K H a xs):∃its:List Value,Vals xs its/\jL k s.heap a its.toArray:=by
 cases k
 . obtain⟨its,rv,p,_⟩:=I.list h;exact⟨its,rv,p.isList⟩
 . obtain⟨its,rv,p,_⟩:=I.tuple h;exact⟨its,rv,p⟩
theorem sP{X:Cx}{pins:List (Addr×Obj)}{σ:L2.St}{H:Hp}{s:Shared}{k:SK}{a:Addr}{xs ys:List V}(I:Inv X pins σ H s)(h:mf k X.K H a xs)(h':mf k X.K H a ys):xs=ys:=by
 cases k
 . exact I.vB h h'
 . exact I.tM h h'
theorem Ap{P:Program}{w:World}{A:Around}{s:Shared}{E:Value->Shared->Prop}{k:SK}{a:Addr}{us:Array Value}{Q:Value->Shared->Prop}(h:jL k s.heap a us)(q:Q (.ref s.heap.objs.size) {s with heap:=s.heap.push (wy k a)}):wpAny (model P w) A (pyIter (.ref a)) Q E s:=by
 cases k
 . exact wpAny_pyIter_list h q
 . exact wpAny_pyIter_tuple h q
theorem jL.push{k:SK}{g:Heap}{a:Addr}{us:Array Value}(h:jL k g a us)(o:Obj):jL k (g.push o) a us:=by
 cases k
 . obtain⟨o',e,r⟩:=h;exact⟨o',Heap.get?_push_of_some _ e,r⟩
 . obtain⟨o',e,r⟩:=h;exact⟨o',Heap.get?_push_of_some _ e,r⟩
theorem jL.some{k:SK}{g:Heap}{a:Addr}{us:Array Value}(h:jL k g a us):∃o,g.get? a=Option.some o:=by
 cases k
 . obtain⟨o',e,r⟩:=h;exact⟨o',e⟩
 . obtain⟨o',e,r⟩:=h;exact⟨o',e⟩
theorem xR{k:SK}{g h:Heap}{t a:Addr}(e:g.get? t=Option.some (wy k a)):ni k t a 0 g:=by
 cases k
 . exact⟨_,e,rfl,rfl⟩
 . exact⟨_,e,rfl,rfl⟩
theorem l_{k:SK}{t a:Addr}{n:Nat}{g g':Heap}(h:ni k t a n g)(kp:∀o,g.get? t=Option.some o->g'.get? t=Option.some o):ni k t a n g':=by
 cases k
 . obtain⟨o,e,r⟩:=h;exact⟨o,kp o e,r⟩
 . obtain⟨o,e,r⟩:=h;exact⟨o,kp o e,r⟩
theorem kr{k:SK}{t a:Addr}{n:Nat}{g:Heap}(h:ni k t a n g):∃o,g.get? t=Option.some o/\∀v,o.data≠ .cell v:=by
 cases k
 . obtain⟨o,e,c,d⟩:=h;exact⟨o,e,fun v z=>by rw[d]at z;cases z⟩
 . obtain⟨o,e,c,d⟩:=h;exact⟨o,e,fun v z=>by rw[d]at z;cases z⟩
def Kf(K:PySem.W.Frag)(k1 k2:SK)(a1 a2:Addr):It:=
 ⟨fun i H=>∃xs ys x y,mf k1 K H a1 xs/\mf k2 K H a2 ys/\xs[i]?=some x/\ys[i]?=some y,
  fun i H v H'=>∃T x y,H T=none/\v= .ref T/\H'=upd H T (.tup [x,y])/\(∀xs,mf k1 K H a1 xs->xs[i]?=some x)/\∀ys,mf k2 K H a2 ys->ys[i]?=some y,
  fun i H=>∃xs ys,mf k1 K H a1 xs/\mf k2 K H a2 ys/\(xs.length<=i\/ys.length<=i)⟩
def IZ(z ti to t1 t2 a1 a2:Addr)(k1 k2:SK)(i:Nat)(h:Heap):Prop:=IsZip h z ti to .none/\IsPair h ti (.ref t1) (.ref t2)/\(∃a b,IsPair h to a b)/\ni k1 t1 a1 i h/\ni k2 t2 a2 i h
theorem Bs{P:Program}{w:World}{K:PySem.W.Frag}{elts:List Expr}{kx:Nat}{pos:Pos}{z ti to t1 t2 a1 a2:Addr}(k1 k2:SK)(D:xw z ti to t1 t2 a1 a2):
 Turn P w K (.Tuple elts kx pos) (Kf K k1 k2 a1 a2) [z,ti,to,t1,t2] z (IZ z ti to t1 t2 a1 a2 k1 k2) where
 mem:=by simp
 obj:=fun i h st b hb=>by
  obtain⟨Z,pI,⟨a,b',pO⟩,i1,i2⟩:=st;simp only[List.mem_cons,List.not_mem_nil,or_false]at hb;rcases hb with rfl|rfl|rfl|rfl|rfl
  . exact⟨_,Z,fun v e=>by cases e⟩
  . exact⟨_,pI,fun v e=>by cases e⟩
  . exact⟨_,pO,fun v e=>by cases e⟩
  . exact kr i1
  . exact kr i2
 keep:=fun i h h' st k=>by
  obtain⟨Z,pI,⟨a,b',pO⟩,i1,i2⟩:=st;exact⟨k z (by simp) _ Z,k ti (by simp) _ pI,⟨a,b',k to (by simp) _ pO⟩,l_ i1 (k t1 (by simp)),l_ i2 (k t2 (by simp))⟩
 item:=by
  intro X hP hw hK hc i pins s σ H E I hf st hg;subst hP hw hK;obtain⟨Z,pI,⟨a,b',pO⟩,i1,i2⟩:=st;obtain⟨xs,ys,x,y,q1,q2,ex,ey⟩:=hg;obtain⟨us,r1,l1⟩:=iN I q1;obtain⟨vs,r2,l2⟩:=iN I q2;obtain⟨u,eu,ru⟩:=r1.get ex;obtain⟨v,ev,rv⟩:=r2.get ey;have m1:=D.a1;have m2:=D.a2;simp only[List.mem_cons,not_or,List.not_mem_nil,not_false_eq_true,and_true]at m1 m2;obtain⟨⟨n1,n2,n3,n4⟩,⟨n5,n6,n7⟩,⟨n8,n9⟩,n10⟩:=D.n;have tz:s.TypeIs (.ref z) "zip":=⟨_,Z,rfl⟩
  unfold pyNext;refine wpAny_bind (wpAny_attempt (wpAny_callSpecial?_slot (name:=Str.ofString "__next__") tz F.slot_zip_next (wpAny_call_entry F.slot_zip_next tz F.entry_zip_next (As D (j9 k1 t1 a1 m1.2.2.2.1 us.toArray) (j9 k2 t2 a2 m2.2.2.2.2 vs.toArray) Z pI pO ⟨i1,l1⟩ ⟨i2,l2⟩ (x:=u) (y:=v) (by simpa using eu) (by simpa using ev) fun k Z2 pO2 j1 j2 pT szk kp=>wpAny_pure ⟨_,rfl,?_⟩) (F.args_zip_next_1 _))));refine wpAny_letOwnedTupleGo_zip (s:={s with heap:=k}) Z2 fun k' Z3 b3=>?_;have hT:s.heap.objs.size≠z:=Nat.ne_of_gt (Heap.lt_size Z)
  have kp3:∀b o,b∉[z,ti,to,t1,t2]->s.heap.get? b=some o->k'.get? b=some o:=fun b o hb e=>by
   simp only[List.mem_cons,not_or,List.not_mem_nil,not_false_eq_true,and_true]at hb;exact b3.extBut _ _ hb.1 (kp b o hb.1 hb.2.2.1 hb.2.2.2.1 hb.2.2.2.2 e)
  refine⟨.ref s.heap.objs.size,upd H s.heap.objs.size (.tup [x,y]),Dz (s:=s) (tk:=s.toks) I hf kp3 (Nat.le_refl _) ?_,rfl,⟨s.heap.objs.size,x,y,I.aB.fresh (Nat.le_refl _),rfl,rfl,?_,?_⟩,?_,?_⟩
  . refine⟨Nat.le_of_ble_eq_true rfl,[u,v],.cons ru (.cons rv .nil),?_⟩;exact⟨_,b3.extBut _ _ hT pT,rfl,_,rfl⟩
  . intro xs' q';rw[sP I q' q1];exact ex
  . intro ys' q';rw[sP I q' q2];exact ey
  . refine⟨Z3,b3.extBut _ _ n1 (kp _ _ n1 n5 n6 n7 pI),⟨_,_,b3.extBut _ _ n2 pO2⟩,l_ j1.1 fun o e=>b3.extBut _ _ n3 e,l_ j2.1 fun o e=>b3.extBut _ _ n4 e⟩
  . intro b hb
    have:b≠s.heap.objs.size:=by
     obtain⟨o,e,_⟩:∃o,s.heap.get? b=some o/\True:=by
      simp only[List.mem_cons,List.not_mem_nil,or_false]at hb;rcases hb with rfl|rfl|rfl|rfl|rfl
      . exact⟨_,Z,trivial⟩
      . exact⟨_,pI,trivial⟩
      . exact⟨_,pO,trivial⟩
      . obtain⟨o,e,_⟩:=kr i1;exact⟨o,e,trivial⟩
      . obtain⟨o,e,_⟩:=kr i2;exact⟨o,e,trivial⟩
     exact Nat.ne_of_lt (Heap.lt_size e)
    rw[az this];exact(hf b hb).1
 done:=by
  intro X hP hw hK hc i pins s σ H E I hf st hg;subst hP hw hK;obtain⟨Z,pI,⟨a,b',pO⟩,i1,i2⟩:=st;obtain⟨xs,ys,q1,q2,he⟩:=hg;obtain⟨us,r1,l1⟩:=iN I q1;obtain⟨vs,r2,l2⟩:=iN I q2;have e1:=r1.length;have e2:=r2.length;have m1:=D.a1;have m2:=D.a2;simp only[List.mem_cons,not_or,List.not_mem_nil,not_false_eq_true,and_true]at m1 m2;have tz:s.TypeIs (.ref z) "zip":=⟨_,Z,rfl⟩
  unfold pyNext;refine wpAny_bind (wpAny_attempt (wpAny_callSpecial?_slot (name:=Str.ofString "__next__") tz F.slot_zip_next (wpAny_call_entry F.slot_zip_next tz F.entry_zip_next (BR (I.ok.hd hc) D (j9 k1 t1 a1 m1.2.2.2.1 us.toArray) (j9 k2 t2 a2 m2.2.2.2.2 vs.toArray) Z pI pO ⟨i1,l1⟩ ⟨i2,l2⟩ ?_ fun k e kp hx=>?_) (F.args_zip_next_1 _))))
  . rcases he with h|h
    . left;simp;omega
    . right;simp;omega
  . obtain⟨o,ho,hc2⟩:=hx;refine wpAny_bind (wpAny_isInstance (T:="StopIteration") (b:=true) ⟨o,ho,hc2⟩ isSubtype_stop ?_);refine wpAny_pure ⟨rfl,Dw (s:=s) (tk:=s.toks) I hf fun b o hb e=>?_⟩;simp only[List.mem_cons,not_or,List.not_mem_nil,not_false_eq_true,and_true]at hb;exact kp b o hb.1 hb.2.2.1 hb.2.2.2.1 hb.2.2.2.2 e
 self:=fun _ _ _ _ _ st h=>wpAny_pyIter_zip st.1 h
abbrev Ds(h:Heap)(k1:SK)(a1:Addr):Heap:=h.push (wy k1 a1)
abbrev CW(h:Heap)(k1 k2:SK)(a1 a2:Addr):Heap:=(Ds h k1 a1).push (wy k2 a2)
abbrev C_(h:Heap)(k1 k2:SK)(a1 a2:Addr):Heap:=(CW h k1 k2 a1 a2).push {cls:= .type "tuple",data:= .seq #[.ref h.objs.size,.ref (Ds h k1 a1).objs.size]}
abbrev CS(h:Heap)(k1 k2:SK)(a1 a2:Addr):Heap:=(C_ h k1 k2 a1 a2).push {cls:= .type "tuple",data:= .seq #[.none,.none]}
abbrev xn(h:Heap)(k1 k2:SK)(a1 a2:Addr):Heap:=(CS h k1 k2 a1 a2).push {cls:= .type "zip",data:= .fields #[.none,.bool false,.bool false,.ref (CW h k1 k2 a1 a2).objs.size,.ref (C_ h k1 k2 a1 a2).objs.size]}
theorem zP(k1 k2:SK)(a1 a2:Addr)(us vs:Array Value):Meets (Builtin.«zip.__new__» ⟨[.type "zip",.ref a1,.ref a2],[]⟩) (fun _ R s=>jL k1 s.heap a1 us/\jL k2 s.heap a2 vs/\
 R (.ok (.ret (.ref (CS s.heap k1 k2 a1 a2).objs.size))) {s with heap:=xn s.heap k1 k2 a1 a2}):=
 .of_wp fun P w A R s h=>by
  obtain⟨hp,g,d,tk,os⟩:=s;obtain⟨c1,c2,h⟩:=h;have hsub:=sub_zip;have L1:jL k1 (Shared.heap ⟨hp,g,d,tk,os⟩) a1 us:=c1;have L2:jL k2 (Shared.heap ⟨hp.push (wy k1 a1),g,d,tk,os⟩) a2 vs:=jL.push c2 _
  wp_walk using Ap L1,Ap L2
  exact⟨_,rfl,h⟩
theorem Ce{P:Program}{w:World}{A:Around}{s:Shared}{E:Value->Shared->Prop}{k1 k2:SK}{a1 a2:Addr}{us vs:Array Value}{Q:Value->Shared->Prop}(c1:jL k1 s.heap a1 us)(c2:jL k2 s.heap a2 vs)
 (q:∀g n,n=s.heap.objs.size->IsZip g (n+4) (n+2) (n+3) .none->IsPair g (n+2) (.ref n) (.ref (n+1))->IsPair g (n+3) .none .none->ni k1 n a1 0 g->ni k2 (n+1) a2 0 g->(∀c o,s.heap.get? c=some o->g.get? c=some o)->Q (.ref (n+4)) {s with heap:=g}):
 wpAny (model P w) A (call (.type "zip") [.ref a1,.ref a2]) Q E s:=by
 refine callType_new F.called_zip (by decide) (F.typeCall_zip_2 _ _) (F.newCall_zip_2 _ _) (fun ob=>F.args_object_init_3 ob _ _) F.entry_zip_new (zP k1 k2 a1 a2 us vs) ⟨c1,c2,?_⟩;have y1:(Ds s.heap k1 a1).objs.size=s.heap.objs.size+1:=Heap.size_push ..;have y2:(CW s.heap k1 k2 a1 a2).objs.size=s.heap.objs.size+2:=by rw[Heap.size_push,y1]
 have y3:(C_ s.heap k1 k2 a1 a2).objs.size=s.heap.objs.size+3:=by rw[Heap.size_push,y2]
 have y4:(CS s.heap k1 k2 a1 a2).objs.size=s.heap.objs.size+4:=by rw[Heap.size_push,y3]
 have e5:(xn s.heap k1 k2 a1 a2).get? (CS s.heap k1 k2 a1 a2).objs.size=some _:=Heap.get?_push_size _ rfl;have e4:(xn s.heap k1 k2 a1 a2).get? (C_ s.heap k1 k2 a1 a2).objs.size=some _:=Heap.get?_push_of_some _ (Heap.get?_push_size _ rfl);have e3:(xn s.heap k1 k2 a1 a2).get? (CW s.heap k1 k2 a1 a2).objs.size=some _:=Heap.get?_push_of_some _ (Heap.get?_push_of_some _ (Heap.get?_push_size _ rfl));have e2:(xn s.heap k1 k2 a1 a2).get? (Ds s.heap k1 a1).objs.size=some (wy k2 a2):=Heap.get?_push_of_some _ (Heap.get?_push_of_some _ (Heap.get?_push_of_some _ (Heap.get?_push_size _ (by cases k2<;>rfl))));have e1:(xn s.heap k1 k2 a1 a2).get? s.heap.objs.size=some (wy k1 a1):=Heap.get?_push_of_some _ (Heap.get?_push_of_some _ (Heap.get?_push_of_some _ (Heap.get?_push_of_some _ (Heap.get?_push_size _ (by cases k1<;>rfl)))));show _/\_;rw[y2,y3,y4]at e5;rw[y1,y2]at e3;rw[y3]at e4;rw[y1]at e2;rw[y4];exact⟨⟨_,e5,rfl⟩,q _ _ rfl e5 e3 e4 (xR (h:=s.heap) e1) (xR (h:=s.heap) e2) fun c o x=>Heap.get?_push_of_some _ (Heap.get?_push_of_some _ (Heap.get?_push_of_some _ (Heap.get?_push_of_some _ (Heap.get?_push_of_some _ x))))⟩
def CV:D->SK
 | .tup _=> .t
 |_=> .l
def AW(k:SK)(G:Hp)(a:Addr)(vs:List V):Prop:=match k with
 | .l=>Rd G a (.lst vs)
 | .t=>G a=some (.tup vs)
theorem g9{K:PySem.W.Frag}{k:SK}{G F H:Hp}(P:bj G F H){a:Addr}{vs:List V}(h:AW k G a vs):mf k K H a vs:=by
 cases k
 . exact .inl (eK P h)
 . exact gn.of (P.get h)
theorem kq{α:List (Option Addr)}{H:Hp}{st:ag}{d:D}{v:V}{xs:List D}(S:aL α st H)(r:Rep α H d v)(e:items? st d=some xs):∃p vs,v= .ref p/\aG α H xs vs/\AW (CV d) H p vs:=by
 cases d<;>try(cases e;done)
 . unfold items? at e;simp only at e;split at e
   . rename_i ys q;cases e;obtain⟨a,ea,vs,h1,h2⟩:=S.eX q;exact⟨a,vs,cY ea r,h2,Rd.of h1⟩
   . cases e
 . cases e;unfold Rep at r;obtain⟨a,vs,rfl,_,h1,h2⟩:=r;exact⟨a,vs,rfl,h2,h1⟩
 . cases e;unfold Rep at r;obtain⟨a,vs,rfl,_,h1,h2⟩:=r;exact⟨a,vs,rfl,h2,h1⟩
def jd(xs ys:List D):List D:=(xs.zip ys).map fun p=> .tup [p.1,p.2]
theorem mF{xs ys:List D}:(jd xs ys).length=min xs.length ys.length:=by unfold jd;simp
theorem qd{xs ys:List D}{n:Nat}{d:D}(e:(jd xs ys)[n]?=some d):∃x y,xs[n]?=some x/\ys[n]?=some y/\d= .tup [x,y]:=by
 unfold jd at e;rw[List.getElem?_map]at e;cases q:(xs.zip ys)[n]? with
 |none=>rw[q]at e;cases e
 |some p=>
  rw[q]at e;cases e;rw[List.getElem?_zip_eq_some]at q;exact⟨p.1,p.2,q.1,q.2,rfl⟩
theorem Hy{K:PySem.W.Frag}{k1 k2:SK}{a1 a2:Addr}{α:List (Option Addr)}{G:Hp}{ok:ag->Prop}{xs ys:List D}
 (h:∀α' G' st',Step α G α' G'->aL α' st' G'->ok st'->∃vs ws,AW k1 G' a1 vs/\AW k2 G' a2 ws/\aG α' G' xs vs/\aG α' G' ys ws):sT (Kf K k1 k2 a1 a2) α G ok (jd xs ys) where
 stop:=fun n α' G' F' H' st' s P S o hn=>by
  obtain⟨vs,ws,h1,h2,r1,r2⟩:=h α' G' st' s S o;rw[mF]at hn;refine⟨vs,ws,g9 P h1,g9 P h2,?_⟩;have:=r1.length;have:=r2.length;omega
 go:=fun n d α' G' F' H' st' s P S o hn=>by
  obtain⟨vs,ws,h1,h2,r1,r2⟩:=h α' G' st' s S o;obtain⟨x,y,ex,ey,rfl⟩:=qd hn;obtain⟨v,ev,_⟩:=r1.get ex;obtain⟨u,eu,_⟩:=r2.get ey;exact⟨vs,ws,v,u,g9 P h1,g9 P h2,ev,eu⟩
 mm:=fun n d α' G' F' H' st' x H'' s P S o hn y=>by
  obtain⟨vs,ws,h1,h2,r1,r2⟩:=h α' G' st' s S o;obtain⟨c,e,ec,ee,rfl⟩:=qd hn;obtain⟨T,v,u,hT,rfl,rfl,y1,y2⟩:=y;obtain⟨v',ev,rv⟩:=r1.get ec;obtain⟨u',eu,ru⟩:=r2.get ee;rw[y1 vs (g9 P h1)]at ev;rw[y2 ws (g9 P h2)]at eu;cases ev;cases eu;have hg:=(P.none hT).1;refine⟨upd G' T (.tup [v,u]),Step.laid hg,P.laid hT,S.laid hg,?_⟩;unfold Rep;refine⟨T,[v,u],rfl,S.iH hg,aK,?_⟩;unfold aG;refine⟨v,[u],rfl,rv.step (Step.laid hg),?_⟩;unfold aG;exact⟨u,[],rfl,ru.step (Step.laid hg),by unfold aG;rfl⟩
def Cu(ds:List D)(st1:ag)(K:List D->(ag->Prop)->ag->Prop):Prop:=match ds with
 | [x,y]=>(match items? st1 x,items? st1 y with
   |some xs,some ys=>K (jd xs ys) (fun st'=>items? st' x=some xs/\items? st' y=some ys) st1
   |_,_=>False)
 |_=>False
@[irreducible] def rL:List D->ag->(List D->(ag->Prop)->ag->Prop)->Prop:=Cu
def wz(t:DA):DI:=fun σ st K=>t σ st fun ds st1=>rL ds st1 K
theorem DY{n a1 a2:Nat}(h1:a1<n)(h2:a2<n):xw (n+4) (n+2) (n+3) n (n+1) a1 a2:=by
 have e0:([n+4,n+2,n+3,n,n+1]:List Nat).Nodup:=by
  simp only[List.nodup_cons,List.mem_cons,not_or,List.not_mem_nil,not_false_eq_true,and_true,List.nodup_nil];omega
 have e1:∀a:Nat,a<n->a∉([n+4,n+2,n+3,n,n+1]:List Nat):=fun a ha=>by
  simp only[List.mem_cons,not_or,List.not_mem_nil,not_false_eq_true,and_true];omega
 exact⟨e0,e1 a1 h1,e1 a2 h2⟩
theorem H_{X:Cx}{a b:Expr}{elts:List Expr}{kx:Nat}{tpos p pos:Pos}{t:DA}(hg:Gl X "zip")(hm:X.mg "zip"=none)(ha:PA X [a,b] (LA t))(hs:starEach [a,b] X.env=[(false,eval a X.env),(false,eval b X.env)])(hs2:starEach [b] X.env=[(false,eval b X.env)]):
 PI X (.Tuple elts kx tpos) (.Call (.Name "zip" p) [a,b] [] pos) (LI (wz t)):=by
 intro pins s σ H R I h;obtain⟨α,σd,st,K,G,F,P,RS,S,t,k⟩:=h;refine Call_ (jH I hg hm boot_zip (PyProof.Rows.callWith_type1 (bp (ha pos pins s σ H (fun vs H1=>∃ds α1 G1 st1,Step α G α1 G1/\bj G1 F H1/\aL α1 st1 G1/\aG α1 G1 ds vs/\rL ds st1 K) I ⟨α,σd,st,_,G,F,P,RS,S,t,fun ds st1 q α1 G1 H1 vs s1 P1 S1 r1=>⟨ds,α1,G1,st1,s1,P1,S1,r1,q⟩⟩) fun us s1 ⟨vs,H1,I1,rv,ds,α1,G1,st1,w1,P1,S1,r1,q⟩=>?_) (by rw[hs,hs2]) (by rw[hs2];rfl)));unfold rL Cu at q;split at q
 . rename_i x y;split at q
   . rename_i xs ys ex ey;obtain⟨v1,v2,rfl,q1,q2⟩:=j0 r1 rfl;obtain⟨p1,vs1,rfl,g1,c1⟩:=kq S1 q1 ex;obtain⟨p2,vs2,rfl,g2,c2⟩:=kq S1 q2 ey;obtain⟨u1,u2,rfl,ru1,ru2⟩:=vals2 rv;cases ru1;cases ru2;obtain⟨its1,_,l1⟩:=iN I1 (g9 P1 c1);obtain⟨its2,_,l2⟩:=iN I1 (g9 P1 c2);refine Ce l1 l2 fun g n hn Z pI pO i1 i2 kp=>?_;obtain⟨o1,eo1⟩:=l1.some;obtain⟨o2,eo2⟩:=l2.some;refine wpAny_pyIter_zip (s:={s1 with heap:=g}) Z ?_;refine⟨n+4,[n+4,n+2,n+3,n,n+1],_,_,H1,rfl,I1.kept (t':=s1.toks) kp,Bs (CV x) (CV y) (DY (by rw[hn];exact Heap.lt_size eo1) (by rw[hn];exact Heap.lt_size eo2)),⟨Z,pI,⟨_,_,pO⟩,i1,i2⟩,fun b hb=>?_,?_⟩
     . have hb':s1.heap.objs.size<=b:=by
        simp only[List.mem_cons,List.not_mem_nil,or_false]at hb;rcases hb with rfl|rfl|rfl|rfl|rfl<;>(rw[<-hn];first|exact Nat.le_refl _|exact Nat.le_add_right _ _)
       exact I1.su hb' (I1.aB.fresh hb')
     . refine k _ _ st1 q _ α1 G1 H1 w1 P1 S1 (Hy fun α' G' st' s' S' o=>?_);obtain⟨p1',ws1,e1,f1,d1⟩:=kq S' (q1.step s') o.1;obtain⟨p2',ws2,e2,f2,d2⟩:=kq S' (q2.step s') o.2;cases e1;cases e2;exact⟨ws1,ws2,d1,d2,f1,f2⟩
   . exact q.elim
 . exact q.elim
theorem vk{st:ag}{x y:D}{xs ys:List D}{K:List D->(ag->Prop)->ag->Prop}(ex:items? st x=some xs)(ey:items? st y=some ys)(k:∀ok:ag->Prop,(∀st',items? st' x=some xs->items? st' y=some ys->ok st')->K (jd xs ys) ok st):rL [x,y] st K:=by
 unfold rL Cu;simp only[ex,ey];exact k _ fun st' h1 h2=>⟨h1,h2⟩
theorem zc{X:Cx}{a b:Expr}{elts:List Expr}{kx:Nat}{tpos p pos:Pos}{ar:DA}(hg:Gl X "zip")(hm:X.mg "zip"=none)(ha:JA X [a,b] ar)(hs:notStar a=true:=by rfl)(hs2:notStar b=true:=by rfl):JI X (.Tuple elts kx tpos) (.Call (.Name "zip" p) [a,b] [] pos) (wz ar):=by
 unfold JI;unfold JA at ha;exact H_ hg hm ha (by rw[bw hs,bw hs2];rfl) (bw hs2)
section
variable {X:Cx}
end
section
variable {X:Cx}{pos:Pos}
end
end L3
namespace L3
open PySem L2 PySem.SeqAt
open PySem.Spec hiding items?
open PyProof.Rows hiding St
section
variable {X:Cx}{pins:List (Addr×Obj)}{σ:L2.St}{H:Hp}{s:Shared}{α:List (Option Addr)}
theorem xg{A:Around}{d e:D}{x y:V}{u v:Value}(hd:tR d=true)(he:tR e=true)(rd:Rep α H d x)(re:Rep α H e y)(rx:RelV x u)(ry:RelV y v):RcNeAt A s u v (!bU d e):=by
 cases d<;>cases e<;>try(first|(cases hd;done)|(cases he;done))
 all_goals(unfold Rep at rd re;subst rd re)
 all_goals(first|(obtain⟨t,rfl⟩:=rx;obtain⟨t',rfl⟩:=ry)|(obtain⟨t,rfl⟩:=rx;cases ry)|(cases rx;obtain⟨t,rfl⟩:=ry)|(cases rx;cases ry))
 all_goals unfold bU
 . exact RcNeAt.none_none
 . exact RcNeAt.none_bool _
 . exact RcNeAt.none_int _ _
 . exact RcNeAt.none_str _ _
 . exact RcNeAt.bool_none _
 . exact RcNeAt.bool_bool _ _
 . exact RcNeAt.bool_int _ _ _
 . exact RcNeAt.bool_str _ _ _
 . exact RcNeAt.int_none _ _
 . exact RcNeAt.int_bool _ _ _
 . exact RcNeAt.int_int _ _ _ _
 . exact RcNeAt.int_str _ _ _ _
 . exact RcNeAt.str_none _ _
 . exact RcNeAt.str_bool _ _ _
 . exact RcNeAt.str_int _ _ _ _
 . exact RcNeAt.str_str _ _ _ _
theorem tP(I:Inv X pins σ H s){A:Around}{xs:List D}{e:D}{x y:V}{u v:Value}(he:tR e=true)(rd:Rep α H (.lst xs) x)(re:Rep α H e y)(rx:RelV x u)(ry:RelV y v)(hu:A.units<cLine):
 RcNeAt A s u v (!bU (.lst xs) e)/\RcNeAt A s v u (!bU e (.lst xs)):=by
 obtain⟨a,vs,its,rfl,_,_,hl⟩:=lst_is I rd rx;cases e<;>try(cases he;done)
 all_goals(unfold Rep at re;subst re)
 all_goals(first|(obtain⟨t,rfl⟩:=ry)|(cases ry))
 all_goals unfold bU
 . exact⟨RcNeAt.list_none hl hu,RcNeAt.none_list hl hu⟩
 . exact⟨RcNeAt.list_bool _ hl hu,RcNeAt.bool_list _ hl hu⟩
 . exact⟨RcNeAt.list_int _ _ hl hu,RcNeAt.int_list _ _ hl hu⟩
 . exact⟨RcNeAt.list_str _ _ hl hu,RcNeAt.str_list _ _ hl hu⟩
theorem t4(I:Inv X pins σ H s){A:Around}{xs:List D}{e:D}{x y:V}{u v:Value}(he:tR e=true)(rd:Rep α H (.tup xs) x)(re:Rep α H e y)(rx:RelV x u)(ry:RelV y v)(hu:A.units<cLine):
 RcNeAt A s u v (!bU (.tup xs) e)/\RcNeAt A s v u (!bU e (.tup xs)):=by
 obtain⟨a,vs,its,rfl,_,_,hl⟩:=tup_is I rd rx;cases e<;>try(cases he;done)
 all_goals(unfold Rep at re;subst re)
 all_goals(first|(obtain⟨t,rfl⟩:=ry)|(cases ry))
 all_goals unfold bU
 . exact⟨RcNeAt.tuple_none hl hu,RcNeAt.none_tuple hl hu⟩
 . exact⟨RcNeAt.tuple_bool _ hl hu,RcNeAt.bool_tuple _ hl hu⟩
 . exact⟨RcNeAt.tuple_int _ _ hl hu,RcNeAt.int_tuple _ _ hl hu⟩
 . exact⟨RcNeAt.tuple_str _ _ hl hu,RcNeAt.str_tuple _ _ hl hu⟩
theorem Jz(I:Inv X pins σ H s)(n:Nat)(A:Around)(d e:D)(x y:V)(u v:Value)(hd:pl n d=true)(he:pl n e=true)(rd:Rep α H d x)(re:Rep α H e y)(rx:RelV x u)(ry:RelV y v)(hu:A.units+n<cLine):RcNeAt A s u v (!bU d e):=by
 cases n with
 |zero=>
  refine xg ?_ ?_ rd re rx ry
  . cases d<;>first|rfl|(cases hd)
  . cases e<;>first|rfl|(cases he)
 |succ n=>
  have hu0:A.units<cLine:=by omega
  have hin:A.in1.units+n<cLine:=by rw[Around.in1_units];omega
  cases d<;>try(cases hd;done)
  case lst xs=>
   cases e<;>try(cases he;done)
   case lst ys=>
    obtain⟨a,vs,its,rfl,r1,v1,l1⟩:=lst_is I rd rx;obtain⟨b,ws,jts,rfl,r2,v2,l2⟩:=lst_is I re ry;have e1:=r1.length;have e2:=v1.length;have e3:=r2.length;have e4:=v2.length;unfold bU;by_cases hlen:xs.length=ys.length
    . rw[kT hlen];have hsz:its.toArray.size=jts.toArray.size:=by simp only[List.size_toArray];omega
      have hx:xs.length=its.toArray.size:=by simp only[List.size_toArray];omega
      rw[hx];refine RcNeAt.lists l1 l2 hsz hu0 fun j h1 h2=>?_;obtain⟨p,_,q1,q2⟩:=ix r1 v1 j (by simpa using h1);obtain⟨p',_,q1',q2'⟩:=ix r2 v2 j (by simpa using h2);exact(yl I n A.in1 _ _ p p' _ _ (gB (by unfold pl at hd;exact hd) j) (gB (by unfold pl at he;exact he) j) q1 q1' (by simpa using q2) (by simpa using q2') hin).2
    . rw[kP hlen];exact RcNeAt.lists_lengths l1 l2 (by simp only[List.size_toArray,bne_iff_ne,ne_eq];omega) hu0
   case tup ys=>
    obtain⟨a,vs,its,rfl,r1,v1,l1⟩:=lst_is I rd rx;obtain⟨b,ws,jts,rfl,r2,v2,l2⟩:=tup_is I re ry;unfold bU;exact RcNeAt.list_tuple l1 l2 hu0
   all_goals exact(tP I rfl rd re rx ry hu0).1
  case tup xs=>
   cases e<;>try(cases he;done)
   case tup ys=>
    obtain⟨a,vs,its,rfl,r1,v1,l1⟩:=tup_is I rd rx;obtain⟨b,ws,jts,rfl,r2,v2,l2⟩:=tup_is I re ry;have e1:=r1.length;have e2:=v1.length;have e3:=r2.length;have e4:=v2.length;unfold bU
    have key:=RcNeAt.tuples (e:=fun j=>bU (xs.getD j .aC) (ys.getD j .aC)) l1 l2 hu0 fun j h1 h2=>by
     obtain⟨p,_,q1,q2⟩:=ix r1 v1 j (by simpa using h1);obtain⟨p',_,q1',q2'⟩:=ix r2 v2 j (by simpa using h2);exact(yl I n A.in1 _ _ p p' _ _ (gB (by unfold pl at hd;exact hd) j) (gB (by unfold pl at he;exact he) j) q1 q1' (by simpa using q2) (by simpa using q2') hin).2
    by_cases hlen:xs.length=ys.length
    . rw[kT hlen];have hsz:its.toArray.size=jts.toArray.size:=by simp only[List.size_toArray];omega
      have hx:xs.length=its.toArray.size:=by simp only[List.size_toArray];omega
      rw[hsz,Nat.min_self,beq_self_eq_true,Bool.and_true,<-hsz,<-hx]at key;exact key
    . rw[kP hlen];have hne:(its.toArray.size==jts.toArray.size)=false:=by simp only[List.size_toArray,beq_eq_false_iff_ne,ne_eq];omega
      rw[hne,Bool.and_false]at key;exact key
   case lst ys=>
    obtain⟨a,vs,its,rfl,r1,v1,l1⟩:=tup_is I rd rx;obtain⟨b,ws,jts,rfl,r2,v2,l2⟩:=lst_is I re ry;unfold bU;exact RcNeAt.tuple_list l1 l2 hu0
   all_goals exact(t4 I rfl rd re rx ry hu0).1
  all_goals
   cases e<;>try(cases he;done)
   case lst ys=>exact(tP I rfl re rd ry rx hu0).2
   case tup ys=>exact(t4 I rfl re rd ry rx hu0).2
   all_goals exact xg rfl rfl rd re rx ry
def GH:cx:=fun x y st K=>pl 40 x=true/\pl 40 y=true/\K (.bl (!bU x y)) st
theorem Iv{k:Nat}(hr:bO k X.A):bG X (compareOp .NotEq) (LR GH):=fun pins s σ H x y v u Q I rx ry ⟨α,d,e,st,K,G,F',P,r1,r2,S,q,k⟩=>by
 have hu:=hr.units;exact Jz I 40 X.A d e x y v u q.1 q.2.1 (r1.mono P.same) (r2.mono P.same) rx ry (by omega) _ _ _ _ ⟨.bl (!bU d e),H,I,rfl,k.here P q.2.2 S (by unfold Rep;rfl)⟩
@[irreducible] def nF:cx:=GH
theorem yc{k:Nat}(hr:bO k X.A):bG X (compareOp .NotEq) (LR nF):=by unfold nF;exact Iv hr
end
theorem HU{st:ag}{K:DK}{d e:D}(h1:pl 40 d=true)(h2:pl 40 e=true)(k:K (.bl (!bU d e)) st):nF d e st K:=by unfold nF;exact⟨h1,h2,k⟩
theorem qA{st:ag}{K:DK}{d:D}(h:pl 40 d=true)(k:K (.bl false) st):nF d d st K:=HU h h (by rw[qu 40 d h];exact k)
theorem nD{st:ag}{n:Nat}{xs:List D}(h:items? st (.ref n)=some xs):st[n]?=some (.lst xs):=by
 unfold items? at h;simp only at h;split at h
 . rename_i q;cases h;exact q
 . cases h
theorem o3{st:ag}{d:D}{xs:List D}{K:List D->(ag->Prop)->ag->Prop}(h:items? st d=some xs)(k:∀ok:ag->Prop,(∀st',items? st' d=some xs->ok st')->K xs ok st):lO d st K:=by
 cases d with
 |lst ys=>cases h;exact o6 (k _ fun _ _=>trivial)
 |tup ys=>cases h;exact i7 (k _ fun _ _=>trivial)
 |ref n=>
  have e:=nD h;unfold lO sM;simp only[e];exact k _ fun st' h'=>nD h'
 |_=>cases h
theorem mY{env:Env}:∀(l:List (Str×NameKind)) (x:Str),(l.lookup x=some .cell\/l.lookup x=some .free)->
 ((l.map fun(n,k)=>if(k== .free&&env.scope.kind== .function&&env.kindOf n==some .cell)then(n,.cell)else(n,k)).lookup x=some .cell\/(l.map fun(n,k)=>if(k== .free&&env.scope.kind== .function&&env.kindOf n==some .cell)then(n,.cell)else(n,k)).lookup x=some .free)
 | [],x,h=>by simp at h
 |(n,k)::l,x,h=>by
  rw[List.map_cons];dsimp only;by_cases hx:x=n
  . subst hx;rw[List.lookup_cons_self]at h;split
    . rw[List.lookup_cons_self];exact .inl rfl
    . rw[List.lookup_cons_self];exact h
  . have hb:(x==n)=false:=by simpa using hx
    have e1:List.lookup x ((n,k)::l)=List.lookup x l:=by rw[List.lookup_cons,hb]
    rw[e1]at h;have ih:=mY (env:=env) l x h;split
    . rw[List.lookup_cons,hb];exact ih
    . rw[List.lookup_cons,hb];exact ih
theorem a5.Jv{X0:Cx}{scope0 scope:Scope}{Nc0 Nc:List Str}{C:Addr}{s:Shared}{H:Hp}{ex:List Addr}{fr:List (Option Nat)}(h:rf scope0 Nc0 scope Nc fr=true):a5 (dv X0 scope0 Nc0 C s H ex) scope Nc fr:=by
 unfold rf at h;simp only[Bool.and_eq_true]at h;obtain⟨⟨⟨⟨⟨h1,h2⟩,h3⟩,h4⟩,h5⟩,h6⟩:=h;refine⟨by simpa using h1,fun x hx hk=>?_,fun x hx hk=>?_,fun x hx hk=>?_,by simpa using h5,fun i j x e1 e2=>?_⟩
 . have:=List.all_eq_true.mp h2 x hx;rw[hk]at this;simpa using this
 . have:=List.all_eq_true.mp h3 x hx;rw[hk]at this;simpa using this
 . have:=List.all_eq_true.mp h4 x hx;rw[hk]at this;have z:scope0.names.lookup x.1=some .cell\/scope0.names.lookup x.1=some .free:=by simpa using this
   exact mY _ _ z
 . have hi:i<fr.length:=(List.getElem?_eq_some_iff.mp e2).1;have:=List.all_eq_true.mp h6 i (List.mem_range.mpr hi);rw[e1,e2]at this;simp only[Bool.and_eq_true,Bool.or_eq_true,beq_iff_eq]at this;exact⟨this.1.1,this.1.2,mY _ _ this.2⟩
end L3
namespace L3
open PySem L2
open PySem.Spec hiding items?
open PyProof.Rows hiding St
section
variable {X:Cx}
def CP:cx:=fun x y st K=>match x,y with
 | .lst xs,.int k=>(-(2^63)<=k/\k<2^63/\xs.length*k.toNat<=sizeLine)/\K (.ref st.length) (st++[.lst (List.replicate k.toNat xs).flatten])
 |_,_=>False
theorem Gm:bG X (binaryOp .Mult) (LR CP):=fun pins s σ H x y v u Q I rx ry ⟨α,d,e,st,K,G,F',P,r1,r2,S,q,k⟩=>by
 cases d<;>cases e<;>try exact q.elim
 unfold Rep at r1 r2;obtain⟨a,vs,rfl,na,ha,ra⟩:=r1;refine xF pins s σ H _ _ v u Q I rx ry ⟨a,_,vs,rfl,r2,eK P ha,q.1.1,q.1.2.1,by rw[<-ra.length];exact q.1.2.2,fun p hp=>?_⟩;exact k.new P q.2 S (aI.mpr (ju (aI.mp ra) _)) hp
@[irreducible] def qK:cx:=CP
theorem Hn:bG X (binaryOp .Mult) (LR qK):=by unfold qK;exact Gm
end
theorem D8{st:ag}{K:DK}{xs:List D}{i:Int}(h: -(2^63)<=i/\i<2^63/\xs.length*i.toNat<=sizeLine)(k:K (.ref st.length) (st++[.lst (List.replicate i.toNat xs).flatten])):qK (.lst xs) (.int i) st K:=by unfold qK;exact⟨h,k⟩
theorem tD{n:Nat}{d:D}(h:d∈cA 0 n):∃i:Nat,i<n/\d= .int (i:Int):=by
 unfold cA at h;obtain⟨i,hi,rfl⟩:=List.mem_map.mp h;rw[List.mem_range]at hi;exact⟨i,hi,by rw[Int.zero_add]⟩
theorem tU{f:Nat->D}(n:Nat):(cA 0 n).map (fun d=>match d with| .int i=>f i.toNat|_=> .aC)=(List.range n).map f:=by
 unfold cA;rw[List.map_map];refine List.map_congr_left fun i _=>?_;show f ((0:Int)+(i:Int)).toNat=f i;have:((0:Int)+(i:Int)).toNat=i:=by omega
 rw[this]
theorem mX{tg:eL}{te:DE}{σc:a_}{st:ag}{K:List D->ag->Prop}(f:Nat->D)(n:Nat)(hx:∀i:Nat,i<n->∀K',K' (f i) st->∃σ2,tg (.int (i:Int)) σc=some σ2/\te σ2 st K')(k:K ((List.range n).map f) st):cX tg bT te (fun _=>True) σc (cA 0 n) [] st K:=by
 refine comp_map (g:=fun d=>match d with| .int i=>f i.toNat|_=> .aC) trivial _ (fun d hd K' q=>?_) (by rw[tU];exact k);obtain⟨i,hi,rfl⟩:=tD hd;exact hx i hi K' q
theorem gj{tg:eL}{body:DS}{E:g_}(n:Nat)(I:Nat->a_->ag->Prop)(hend:∀σ st,I n σ st->E.nx σ st)
 (hstep:∀(j:Nat) σ st (rest:List D),j<n->I j σ st->(∀σ' st',I (j+1) σ' st'->ff tg body (fun _=>True) E rest σ' st')->∃σ1,tg (.int (j:Int)) σ=some σ1/\body {E with nx:=ff tg body (fun _=>True) E rest,ct:=ff tg body (fun _=>True) E rest,bk:=E.nx} σ1 st)
 {σ:a_} {st:ag} (h0:I 0 σ st):ff tg body (fun _=>True) E (cA 0 n) σ st:=by
 refine fP (fun rest σ st=>∃j:Nat,j<=n/\rest=(List.range (n-j)).map (fun i=>D.int (((j+i:Nat):Int)))/\I j σ st) ?_ ?_ _ _ _ ⟨0,Nat.zero_le _,by unfold cA;simp,h0⟩
 . rintro σ st ⟨j,hj,hr,hI⟩
   have:n-j=0:=by
    cases q:n-j with
    |zero=>rfl
    |succ m=>rw[q,List.range_succ_eq_map]at hr;cases hr
   have hjn:j=n:=by omega
   subst hjn;exact⟨trivial,hend σ st hI⟩
 . rintro d rest σ st ⟨j,hj,hr,hI⟩ next
   cases q:n-j with
   |zero=>rw[q]at hr;cases hr
   |succ m=>
    rw[q,List.range_succ_eq_map,List.map_cons,List.map_map]at hr;simp only[List.cons.injEq]at hr;obtain⟨rfl,hrest⟩:=hr;refine⟨trivial,hstep j σ st rest (by omega) hI fun σ' st' h'=>next σ' st' ⟨j+1,by omega,?_,h'⟩⟩;have:n-(j+1)=m:=by omega
    rw[this,hrest];refine List.map_congr_left fun i _=>?_;show D.int (((j+(i+1):Nat):Int))=D.int (((j+1+i:Nat):Int));congr 2;omega
abbrev DM:=Nat->List D->ag->DK->Prop
def LiftM(r:DM)(rM:V->List V->Hp->VK->Prop):Prop:=∀(α:List (Option Addr)) (G F H:Hp) (st:ag) (K:DK) (Q:VK) (n:Nat) (a:Addr) (ds:List D) (ws:List V),bj G F H->aL α st G->α[n]?=some (some a)->aG α G ds ws->r n ds st K->LK α G F K Q->rM (.ref a) ws H Q
@[irreducible] def g8(r:DM)(to:DE)(ta:DA):DE:=fun σ st K=>to σ st fun x st1=>match x with
 | .ref n=>(match st1[n]? with|some (.lst _)=>ta σ st1 fun ds st2=>(∃xs,st2[n]?=some (.lst xs))/\r n ds st2 K|_=>False)
 |_=>False
section
variable {X:Cx}
theorem LE.K_{r:DM}{rM:V->List V->Hp->VK->Prop}(L:LiftM r rM){to:DE}{ta:DA}{σ:L2.St}{H:Hp}{Q:VK}(h:LE (g8 r to ta) σ H Q):FC X.K "list" rM (LE to) (LA ta) σ H Q:=by
 obtain⟨α,σd,st,K,G,F,P,R,S,t,k⟩:=h;unfold g8 at t;refine⟨α,σd,st,_,G,F,P,R,S,t,fun x st1 q α1 G1 H1 v s1 P1 S1 r1=>?_⟩;cases x<;>try exact q.elim
 rename_i n;simp only at q;split at q
 . rename_i ys e;obtain⟨p,ep,vs,h1,h2⟩:=S1.eX e;have r1':=cY ep r1;subst r1';refine⟨.inl ⟨rfl,vs,.inl (.of (P1.get h1))⟩,α1,σd,st1,_,G1,F,P1,R.step s1,S1,q,?_⟩;rintro ds st2 ⟨⟨xs,e2⟩,q2⟩ α2 G2 H2 ws s2 P2 S2 r2;obtain⟨p2,ep2,_⟩:=S2.eX e2
   have:p2=p:=by
    rcases s2.pre _ _ ep with z|z<;>(rw[z]at ep2;cases ep2)
    rfl
   subst this;exact L α2 G2 F H2 st2 K Q n p2 ds ws P2 S2 ep2 r2 q2 ((k.at s1).at s2)
 . exact q.elim
theorem An{r:DM}{rM:V->List V->Hp->VK->Prop}{name:Str}{id:String}(L:LiftM r rM)(slot:Slot "list" name id)(hty:typeOf (.builtin id)=pure (.type "method_descriptor"))(hm:HQ X id rM){o e:Expr}{es:List Expr}{to:DE}{ta:DA}{apos cpos:Pos}(ho:PE X o (LE to))(ha:PA X (e::es) (LA ta))
 (hbase:attributeBase o name X.env (eval o X.env)=eval o X.env) (hfew:((backTo cpos (starEach (e::es) X.env)).all (fun x=> !x.1)&&(backToKw cpos (keywordEach [] X.env)).all (fun x=>x.1.isSome)
   &&decide ((e::es).length+([]:List Keyword).length+(if([]:List Keyword).isEmpty then 0 else 1)<30))=true)
 (hline:(apos.endLine==cpos.line)=true) (hs:starEach (e::es) X.env=(false,eval e X.env)::starEach es X.env) (hplain:(backTo cpos (starEach es X.env)).any (·.1)=false):PE X (.Call (.Attribute o name apos) (e::es) [] cpos) (LE (g8 r to ta)):=
 PE.imp (Dx PySem.F.plainAttrs_list slot hty hm ho ha hbase hfew hline hs hplain) fun _ _ _ h=>LE.K_ L h
def la:DM:=fun n ds st K=>match ds with
 | [.int i]=>(match st[n]? with|some (.lst xs)=>(-(2^63)<=i/\i<2^63)/\(match jG xs.length i with|some j=>(match xs[j]? with|some d=>K d (st.set n (.lst (xs.eraseIdx j)))|none=>False)|none=>False)|_=>False)
 |_=>False
theorem n_{A B:Type}{F:A->B->Prop}:∀ {xs:List A} {ys:List B} (i:Nat),Paired F xs ys->Paired F (xs.eraseIdx i) (ys.eraseIdx i)
 |_,_,_,.nil=> .nil
 |_,_,0,.cons _ t=>t
 |_,_,i+1,.cons r t=> .cons r (n_ i t)
theorem AA:LiftM la Ba:=by
 intro α G F H st K Q n a ds ws P S ea rs q k;unfold la at q;split at q
 . rename_i i;split at q
   . rename_i xs e;obtain⟨h63,q⟩:=q;split at q
     . rename_i j ej;split at q
       . rename_i d ed;obtain⟨v,rfl,r1⟩:=fJ rs rfl;unfold Rep at r1;subst r1;obtain⟨a',ea',vs,h1,h2⟩:=S.eX e;rw[ea]at ea';cases ea';obtain⟨y,ey,ry⟩:=h2.get ed;have hm:some a∈α:=List.mem_of_getElem? ea;refine⟨a,vs,i,j,y,rfl,rfl,P.get h1,h63.1,h63.2,by rw[<-h2.length];exact(sQ ej).1,ey,?_⟩;refine k d _ q α (upd G a (.lst (vs.eraseIdx j))) _ y (Step.write hm) (P.write h1) ?_ (ry.step (Step.write hm));exact S.write ea ⟨vs.eraseIdx j,aK,(aI.mpr (n_ j (aI.mp h2))).step (Step.write hm)⟩
       . exact q.elim
     . exact q.elim
   . exact q.elim
 . exact q.elim
theorem F7{o e:Expr}{to te:DE}{apos cpos:Pos}(ho:JE X o to)(he:JE X e te)(hbase:attributeBase o "pop" X.env (eval o X.env)=eval o X.env:=by rfl)(hline:(apos.endLine==cpos.line)=true:=by rfl)(hs:notStar e=true:=by rfl):JE X (.Call (.Attribute o "pop" apos) [e] [] cpos) (g8 la to (af te ak)):=by
 unfold JE at*;refine An AA PySem.F.slot_list_pop PySem.F.type_list_pop Cy ho (mi he oy (bw hs)) hbase ?_ hline (bw hs) rfl;rw[bw hs];rfl
end
abbrev tm:=D->a_->ag->(a_->ag->Prop)->Prop
inductive Gn(t:tm)(v:V)(σ:L2.St)(H:Hp)(Q:L2.St->Hp->Prop):Prop
 |mk (α:List (Option Addr)) (σd:a_) (st:ag) (d:D) (K:a_->ag->Prop) (G F:Hp) (P:bj G F H) (R:cC α G σd σ) (S:aL α st G) (r:Rep α G d v) (h:t d σd st K) (k:LC α G F K Q):Gn t v σ H Q
def uE(t:tm):TG:=Gn t
def oP(to ti:DE):tm:=fun d σ st K=>to σ st fun x st1=>ti σ st1 fun y st2=>sq x y d st2 fun st3=>K σ st3
section
variable {X:Cx}{pos:Pos}
theorem AJ{tg:Expr}{to ti:DE}(h:PG X tg (sR (LE to) (LE ti) oM)):PG X tg (uE (oP to ti)):=PG.imp h fun v σ H Q ⟨α,σd,st,d,K,G,F,P,R,S,r,q,k⟩=>by
 unfold oP sq at q;refine⟨α,σd,st,_,G,F,P,R,S,q,fun x st2 q2 α2 G2 H2 v2 s2 P2 S2 r2=>?_⟩;refine⟨α2,σd,st2,_,G2,F,P2,R.step s2,S2,q2,fun y st3 q3 α3 G3 H3 v3 s3 P3 S3 r3=>?_⟩;cases x<;>cases y<;>try exact q3.elim
 rename_i n kk;unfold vH at q3;simp only at q3;split at q3
 . rename_i xs e;split at q3
   . rename_i j ej;obtain⟨p,ep,vs,hv,rv⟩:=S3.eX e;have r2':=cY ep (r2.step s3);subst r2';unfold Rep at r3;have hm:some p∈α3:=List.mem_of_getElem? ep;have rd:=(r.step s2).step s3;refine⟨p,vs,kk,j,rfl,r3,P3.get hv,by rw[<-rv.length];exact ej,?_⟩;refine((k.at s2).at s3) σd _ q3 α3 (upd G3 p (.lst (vs.set j v))) _ σ (Step.write hm) (P3.write hv) (((R.step s2).step s3).step (Step.write hm)) ?_;exact S3.write ep ⟨vs.set j v,aK,(aI.mpr (mR rd j (aI.mp rv))).step (Step.write hm)⟩
   . exact q3.elim
 . exact q3.elim
def rB(t u:tm):tm:=fun d σ st K=>match d with| .tup [x,y]=>t x σ st fun σ1 st1=>u y σ1 st1 K|_=>False
theorem Ee{a b:Expr}{kx:Nat}{t u:tm}(hc:X.calm=true)(ha:PG X a (uE t))(hb:PG X b (uE u))(hn:(assignEach [a,b] X.env).length=2)(hst:(assignEach [a,b] X.env).findIdx? (·.1)=none)(hs1:zR X [a,b] (qF (uE t) (qF (uE u) CA))):
 PG X (.Tuple [a,b] kx pos) (uE (rB t u)):=PG.imp (Aw hc hs1 hn hst) fun v σ H Q ⟨α,σd,st,d,K,G,F,P,R,S,r,q,k⟩=>by
 unfold rB at q;split at q
 . rename_i x y;unfold Rep at r;obtain⟨p,vs,rfl,na,h1,h2⟩:=r;obtain⟨v1,v2,rfl,r1,r2⟩:=j0 h2 rfl;refine⟨p,_,rfl,.of (P.get h1),rfl,v1,_,rfl,α,σd,st,x,_,G,F,P,R,S,r1,q,fun σ1 st1 q1 α1 G1 H1 σ1' s1 P1 R1 S1=>?_⟩;refine⟨v2,_,rfl,α1,σ1,st1,y,_,G1,F,P1,R1,S1,r2.step s1,q1,fun σ2 st2 q2 α2 G2 H2 σ2' s2 P2 R2 S2=>?_⟩;exact⟨rfl,((k.at s1).at s2).here P2 q2 R2 S2⟩
 . exact q.elim
def yZ(t:tm)(te:DE):DS:=fun E σ st=>te σ st fun d st1=>t d σ st1 E.nx
theorem E1{s:Stmt}{te:DE}{t:tm}(h:PS X s (hZ (LE te) (uE t))):PS X s (LS (yZ t te)):=PS.imp h fun D σ H ⟨α,σd,st,DD,G,F,P,R,S,q,k⟩=>
 ⟨α,σd,st,_,G,F,P,R,S,q,fun d st1 q1 α1 G1 H1 v s1 P1 S1 r1=>⟨α1,σd,st1,d,DD.nx,G1,F,P1,R.step s1,S1,r1,q1,k.nx.at s1⟩⟩
theorem Eu{o1 i1 o2 i2 e:Expr}{kx:Nat}{p1 p2 tp:Pos}{to1 ti1 to2 ti2 te:DE}(ho1:JE X o1 to1)(hi1:JE X i1 ti1)(ho2:JE X o2 to2)(hi2:JE X i2 ti2)(he:JE X e te)(hc:X.calm=true:=by rfl)
 (hs:swapsWithSole [.Tuple [.Subscript o1 i1 p1,.Subscript o2 i2 p2] kx tp] e pos.line X.env=pure false:=by rfl) (hw:swappedStores [.Tuple [.Subscript o1 i1 p1,.Subscript o2 i2 p2] kx tp] e X.env=pure none:=by rfl)
 (h1:(assignEach [.Tuple [.Subscript o1 i1 p1,.Subscript o2 i2 p2] kx tp] X.env).map (·.2)=[assign (.Tuple [.Subscript o1 i1 p1,.Subscript o2 i2 p2] kx tp) X.env]:=by rfl) (hn:(assignEach [.Subscript o1 i1 p1,.Subscript o2 i2 p2] X.env).length=2:=by rfl) (hst:(assignEach [.Subscript o1 i1 p1,.Subscript o2 i2 p2] X.env).findIdx? (·.1)=none:=by rfl)
 (ha1:∀v,assign (.Subscript o1 i1 p1) X.env v=(do
   let ov <-holding [v] (eval o1 X.env)
   let iv <-holding [v,ov] (eval i1 X.env)
   standAt p1
   holding [v,ov,iv] (setItem ov iv v)
   release [v,ov,iv] []):=by intro _;rfl) (ha2:∀v,assign (.Subscript o2 i2 p2) X.env v=(do
   let ov <-holding [v] (eval o2 X.env)
   let iv <-holding [v,ov] (eval i2 X.env)
   standAt p2
   holding [v,ov,iv] (setItem ov iv v)
   release [v,ov,iv] []):=by intro _;rfl):
 JS X (.Assign [.Tuple [.Subscript o1 i1 p1,.Subscript o2 i2 p2] kx tp] e pos) (yZ (rB (oP to1 ti1) (oP to2 ti2)) te):=by
 unfold JS;unfold JE at*;have g1:=AJ (qW ho1 hi1 set_list ha1);have g2:=AJ (qW ho2 hi2 set_list ha2);exact E1 (vm he (Ee hc g1 g2 hn hst (m5 g1 (m5 g2 w4))) hs hw h1)
end
section
variable {X:Cx}
theorem sy{M:Model}{A:Around}{E:Value->Shared->Prop}{s:Shared}{Q:Value->Shared->Prop}{x:V}{v:Value}{b:Bool}(r:RelV x v)(h:Q (.bool (!(v== .bool b))) s):wpAny M A (compareOp .IsNot v (.bool b)) Q E s:=by
 cases x
 case bl c=>
  cases r;cases c<;>cases b<;>exact wpAny_pure h
 all_goals first
  |(cases r;exact wpAny_pure h)
  |(obtain⟨t,rfl⟩:=r;exact wpAny_pure h)
def uR:cx:=fun x y st K=>match y with| .aC=>live st x=true/\K (.bl (!Ka x)) st| .bl b=>live st x=true/\K (.bl (!GR x b)) st|_=>False
theorem Bp:bG X (compareOp .IsNot) (LR uR):=fun pins s σ H x y v u Q I rx ry ⟨α,d,e,st,K,G,F',P,r1,r2,S,q,k⟩=>by
 cases e<;>try exact q.elim
 . refine DR pins s σ H x y v u Q I rx ry ⟨α,d,.aC,st,K,G,F',P,r1,r2,S,⟨q.1,?_⟩,k⟩;have q2:=q.2;cases d<;>exact q2
 . rename_i b;unfold Rep at r2;subst r2;cases ry;refine sy rx ?_;rw[ER S q.1 r1 rx];exact⟨.bl (!GR d b),H,I,rfl,k.here P q.2 S (by unfold Rep;rfl)⟩
@[irreducible] def o8:cx:=uR
theorem A_:bG X (compareOp .IsNot) (LR o8):=by unfold o8;exact Bp
end
section
variable {st:ag}{K:DK}{d:D}{b:Bool}
theorem AK(h:live st d=true)(k:K (.bl (!Ka d)) st):o8 d .aC st K:=by unfold o8;exact⟨h,k⟩
end
section
variable {X:Cx}
theorem Eb{o i elt:Expr}{gs:List Comprehension}{sc:Scope}{p:Pos}{to ti te:TE}{pos pos':Pos}(he:PE X (.ListComp elt gs sc p) te)(ho:PE X o to)(hi:PE X i ti)(h2:ie i=true:=by rfl):PS X (.Assign [.Subscript o i pos'] (.ListComp elt gs sc p) pos) (hZ te (sR to ti oM)):=
 vm he (qW ho hi set_list (by intro v;cases i<;>first|rfl|cases h2)) (by unfold swapsWithSole swapsWith;rfl) rfl rfl
theorem tx{o i elt:Expr}{gs:List Comprehension}{sc:Scope}{p pos pos':Pos}{te to ti:DE}(he:JE X (.ListComp elt gs sc p) te)(ho:JE X o to)(hi:JE X i ti)(h2:ie i=true:=by rfl):JS X (.Assign [.Subscript o i pos'] (.ListComp elt gs sc p) pos) (di to ti te):=by
 unfold JS;unfold JE at*;exact vN (Eb he ho hi h2)
end
end L3
namespace L3
open PySem L2
open PySem.Spec hiding items?
open PyProof.Rows hiding St
open AutoSeq1 (wpAny_loadPart')
theorem Er{P:Program}{w:World}{A:Around}(hh:A.handled=none)(k:SK)(t a:Addr)(hne:a≠t)(us:Array Value):Draws P w A t [t,a] us.size (fun i v=>us[i]?=some v) (fun n g=>ni k t a n g/\jL k g a us) where
 live:=fun i h z=>((j9 (P:=P) (w:=w) k t a hne us).lv i h z).1
 frame:=fun i h h' z kp=>(j9 (P:=P) (w:=w) k t a hne us).fr i h h' z fun b hb o e=>kp b (by rcases hb with rfl|rfl<;>simp) o e
 item:=fun i s Q E hi z q=>(j9 (P:=P) (w:=w) k t a hne us).nx i A s Q E us[i] z (by simp[hi]) fun g j sb=>q _ g s.toks (by simp[hi]) j sb
 done:=fun s Q E z q=>(j9 (P:=P) (w:=w) k t a hne us).en us.size A s Q E hh z (by simp) q
theorem mH(l:Addr)(items:Array Value)(n:Nat)(dct:Option Addr)(sl:Array (Option Value)):
 Meets (Builtin.«enumerate.__new__» ⟨[.type "enumerate",.ref l],[]⟩) (fun _ R s=>s.heap.get? l=some {cls:= .type "tuple",dict:=dct,data:= .seq items n,slots:=sl}/\
  R (.ok (.ret (.ref (s.heap.push {cls:= .type "tuple_iterator",data:= .fields #[.ref l,.int 0 0]}).objs.size)))
   {s with heap:=(s.heap.push {cls:= .type "tuple_iterator",data:= .fields #[.ref l,.int 0 0]}).push {cls:= .type "enumerate",data:= .fields #[.none,.bool false,.ref s.heap.objs.size,rawInt 0,.none,.none]}}):=
 .of_wp fun prog w A R s h=>by
  obtain⟨hp,g,d,tk,os⟩:=s;obtain⟨hl,h⟩:=h;have hsub:=sub_enumerate;have hL:Heap.IsTuple (Shared.heap ⟨hp,g,d,tk,os⟩) l items:=⟨_,hl,rfl,n,rfl⟩
  wp_walk using wpAny_loadPart' hl
  refine wpAny_stack_any fun st=>wpAny_pure ?_;split
  . rename_i c _ _ _ _ _;cases (c==Value.type "enumerate")
    . wp_walk using wpAny_loadPart' hl,wpAny_pyIter_tuple hL
      exact⟨_,rfl,h⟩
    . wp_walk using wpAny_loadPart' hl,wpAny_pyIter_tuple hL
      exact⟨_,rfl,h⟩
  . wp_walk using wpAny_loadPart' hl,wpAny_pyIter_tuple hL
    exact⟨_,rfl,h⟩
theorem zY{P:Program}{w:World}{A:Around}{s:Shared}{E:Value->Shared->Prop}{k:SK}{a:Addr}{us:Array Value}{Q:Value->Shared->Prop}(c:jL k s.heap a us)
 (q:∀g,IsEnum g (s.heap.objs.size+1) s.heap.objs.size 0 .none->ni k s.heap.objs.size a 0 g->(∀b o,s.heap.get? b=some o->g.get? b=some o)->Q (.ref (s.heap.objs.size+1)) {s with heap:=g}):
 wpAny (model P w) A (call (.type "enumerate") [.ref a]) Q E s:=by
 cases k
 . exact call_enumerate_list c fun g h1 h2 _ h4=>q g h1 h2 h4
 . obtain⟨⟨c,dct,dt,sl⟩,hl,hc,n,hd⟩:=c;replace hc:c= .type "tuple":=hc;replace hd:dt= .seq us n:=hd;subst hc hd
   refine callType_new F.called_enumerate (by decide) (F.typeCall_enumerate_1 _) (F.newCall_enumerate_1 _) (fun obj=>F.args_object_init_2 obj _) F.entry_enumerate_new
    (mH a us n dct sl) ⟨hl,?_⟩
   have hz:(s.heap.push {cls:= .type "tuple_iterator",data:= .fields #[.ref a,.int 0 0]}).objs.size=s.heap.objs.size+1:=Heap.size_push ..;show _/\_;rw[hz]
   have he:IsEnum ((s.heap.push {cls:= .type "tuple_iterator",data:= .fields #[.ref a,.int 0 0]}).push
    {cls:= .type "enumerate",data:= .fields #[.none,.bool false,.ref s.heap.objs.size,rawInt 0,.none,.none]}) (s.heap.objs.size+1) s.heap.objs.size 0 .none:=by
    have:=Heap.get?_push_size (s.heap.push {cls:= .type "tuple_iterator",data:= .fields #[.ref a,.int 0 0]})
     (o:={cls:= .type "enumerate",data:= .fields #[.none,.bool false,.ref s.heap.objs.size,rawInt 0,.none,.none]}) rfl
    rw[hz]at this;exact this
   exact⟨⟨_,he,rfl⟩,q _ he ⟨_,Heap.get?_push_of_some _ (Heap.get?_push_size _ rfl),rfl,rfl⟩ fun b o x=>Heap.get?_push_of_some _ (Heap.get?_push_of_some _ x)⟩
def J9(K:PySem.W.Frag)(k:SK)(a:Addr):It:=
 ⟨fun i H=>∃xs x,mf k K H a xs/\xs[i]?=some x,
  fun i H v H'=>∃T x,H T=none/\v= .ref T/\H'=upd H T (.tup [.int (i:Int),x])/\∀xs,mf k K H a xs->xs[i]?=some x,
  fun i H=>∃xs,mf k K H a xs/\xs.length<=i⟩
def KC(e t a:Addr)(k:SK)(i:Nat)(h:Heap):Prop:=(∃old,IsEnum h e t i old)/\ni k t a i h
theorem z9{P:Program}{w:World}{K:PySem.W.Frag}{elts:List Expr}{kx:Nat}{pos:Pos}{e t a:Addr}(k:SK)(n1:e≠t)(n2:a≠e)(n3:a≠t):
 Turn P w K (.Tuple elts kx pos) (J9 K k a) [e,t] e (KC e t a k) where
 mem:=by simp
 obj:=fun i h st b hb=>by
  obtain⟨⟨old,he⟩,i1⟩:=st;simp only[List.mem_cons,List.not_mem_nil,or_false]at hb;rcases hb with rfl|rfl
  . exact⟨_,he,fun v z=>by cases z⟩
  . exact kr i1
 keep:=fun i h h' st kp=>by
  obtain⟨⟨old,he⟩,i1⟩:=st;exact⟨⟨old,kp e (by simp) _ he⟩,l_ i1 (kp t (by simp))⟩
 item:=by
  intro X hP hw hK hc i pins s σ H E I hf st hg;subst hP hw hK;obtain⟨⟨old,he⟩,i1⟩:=st;obtain⟨xs,x,q1,ex⟩:=hg;obtain⟨us,r1,l1⟩:=iN I q1;obtain⟨u,eu,ru⟩:=r1.get ex
  have hlt:i<us.toArray.size:=by
   have:=(List.getElem?_eq_some_iff.mp eu).1;simpa using this
  refine wpAny_pyNext_enum_itemD (Er (A:=X.A.in1) (show X.A.in1.handled=none from I.ok.hd hc) k t a n3 us.toArray) he ⟨i1,l1⟩ hlt n1 (by simp only[List.mem_cons,List.not_mem_nil,or_false,not_or];exact⟨n1,Ne.symm n2⟩) fun y h' tk py ho hs hT hsz kp=>⟨_,rfl,?_⟩
  have hy:y=u:=by
   have:us[i]?=some y:=by simpa using py
   rw[eu]at this;cases this;rfl
  subst hy;refine wpAny_letOwnedTupleGo_enum (s:={s with heap:=h',toks:=tk+1}) ho fun k' he' sb=>?_;have hTe:s.heap.objs.size≠e:=Nat.ne_of_gt (Heap.lt_size he)
  have kp3:∀b o,b∉[e,t]->s.heap.get? b=some o->k'.get? b=some o:=fun b o hb eb=>by
   simp only[List.mem_cons,not_or,List.not_mem_nil,not_false_eq_true,and_true]at hb;exact sb.extBut _ _ hb.1 (kp b o hb.1 hb.2 eb)
  refine⟨.ref s.heap.objs.size,upd H s.heap.objs.size (.tup [.int (i:Int),x]),Dz (s:=s) (tk:=tk+1) I hf kp3 (Nat.le_refl _) ?_,rfl,⟨s.heap.objs.size,x,I.aB.fresh (Nat.le_refl _),rfl,rfl,?_⟩,?_,?_⟩
  . refine⟨Nat.le_of_ble_eq_true rfl,[.int (i:Int) tk,y],.cons ⟨tk,rfl⟩ (.cons ru .nil),?_⟩;exact⟨_,sb.extBut _ _ hTe hT,rfl,_,rfl⟩
  . intro xs' q';rw[sP I q' q1];exact ex
  . refine⟨⟨_,by simpa using he'⟩,l_ hs.1 fun o eo=>sb.extBut _ _ (Ne.symm n1) eo⟩
  . intro b hb
    have:b≠s.heap.objs.size:=by
     obtain⟨o,eb⟩:∃o,s.heap.get? b=some o:=by
      simp only[List.mem_cons,List.not_mem_nil,or_false]at hb;rcases hb with rfl|rfl
      . exact⟨_,he⟩
      . obtain⟨o,eo,_⟩:=kr i1;exact⟨o,eo⟩
     exact Nat.ne_of_lt (Heap.lt_size eb)
    rw[az this];exact(hf b hb).1
 done:=by
  intro X hP hw hK hc i pins s σ H E I hf st hg;subst hP hw hK;obtain⟨⟨old,he⟩,i1⟩:=st;obtain⟨xs,q1,hle⟩:=hg;obtain⟨us,r1,l1⟩:=iN I q1;have e1:=r1.length;have tz:s.TypeIs (.ref e) "enumerate":=⟨_,he,rfl⟩
  unfold pyNext;refine wpAny_bind (wpAny_attempt (wpAny_callSpecial?_slot (name:=Str.ofString "__next__") tz F.slot_enumerate_next (wpAny_call_entry F.slot_enumerate_next tz F.entry_enumerate_next ?_ (F.args_enumerate_next_1 _))));show wpAny _ _ (field (.ref e) 2 >>= _) _ _ _;refine wpAny_bind (wpAny_field he rfl (x:= .ref t) rfl ?_);refine wpAny_bind ((j9 k t a n3 us.toArray).en i _ s _ _ (I.ok.hd hc) ⟨i1,l1⟩ (by simp;omega) fun g x sb hx=>?_);obtain⟨o,ho,hc2⟩:=hx;refine wpAny_bind (wpAny_isInstance (T:="StopIteration") (b:=true) ⟨o,ho,hc2⟩ isSubtype_stop ?_);refine wpAny_pure ⟨rfl,Dw (s:=s) (tk:=s.toks) I hf fun b o hb eb=>?_⟩;simp only[List.mem_cons,not_or,List.not_mem_nil,not_false_eq_true,and_true]at hb;exact sb b o hb.2 eb
 self:=fun _ _ _ _ _ st h=>wpAny_pyIter_enum st.1.choose_spec h
def iV:Nat->List D->List D
 |_,[]=>[]
 |i,x::xs=> .tup [.int (i:Int),x]::iV (i+1) xs
theorem lp:∀ {xs:List D} {i:Nat},(iV i xs).length=xs.length
 | [],_=>rfl
 |_::xs,i=>by unfold iV;rw[List.length_cons,List.length_cons,lp]
theorem lg:∀ {xs:List D} {i n:Nat} {d:D},(iV i xs)[n]?=some d->∃x,xs[n]?=some x/\d= .tup [.int ((i+n:Nat):Int),x]
 | [],_,_,_,e=>by unfold iV at e;cases e
 |x::xs,i,0,d,e=>by
  unfold iV at e;rw[List.getElem?_cons_zero]at e;cases e;exact⟨x,rfl,rfl⟩
 |x::xs,i,n+1,d,e=>by
  unfold iV at e;rw[List.getElem?_cons_succ]at e;obtain⟨y,h1,h2⟩:=lg e;refine⟨y,by rw[List.getElem?_cons_succ];exact h1,?_⟩;rw[h2,show i+1+n=i+(n+1) by omega]
theorem Ew{K:PySem.W.Frag}{k:SK}{a:Addr}{α:List (Option Addr)}{G:Hp}{ok:ag->Prop}{xs:List D}
 (h:∀α' G' st',Step α G α' G'->aL α' st' G'->ok st'->∃vs,AW k G' a vs/\aG α' G' xs vs):sT (J9 K k a) α G ok (iV 0 xs) where
 stop:=fun n α' G' F' H' st' s P S o hn=>by
  obtain⟨vs,h1,r1⟩:=h α' G' st' s S o;rw[lp]at hn;refine⟨vs,g9 P h1,?_⟩;have:=r1.length;omega
 go:=fun n d α' G' F' H' st' s P S o hn=>by
  obtain⟨vs,h1,r1⟩:=h α' G' st' s S o;obtain⟨x,ex,rfl⟩:=lg hn;obtain⟨v,ev,_⟩:=r1.get ex;exact⟨vs,v,g9 P h1,ev⟩
 mm:=fun n d α' G' F' H' st' x H'' s P S o hn y=>by
  obtain⟨vs,h1,r1⟩:=h α' G' st' s S o;obtain⟨c,ec,rfl⟩:=lg hn;obtain⟨T,v,hT,rfl,rfl,y1⟩:=y;obtain⟨v',ev,rv⟩:=r1.get ec;rw[y1 vs (g9 P h1)]at ev;cases ev;have hg:=(P.none hT).1;refine⟨upd G' T (.tup [.int (n:Int),v]),Step.laid hg,P.laid hT,S.laid hg,?_⟩;unfold Rep;refine⟨T,[.int (n:Int),v],rfl,S.iH hg,aK,?_⟩;unfold aG;refine⟨.int (n:Int),[v],rfl,?_,?_⟩
  . unfold Rep;rw[Nat.zero_add]
  unfold aG;exact⟨v,[],rfl,rv.step (Step.laid hg),by unfold aG;rfl⟩
def yR(ds:List D)(st1:ag)(K:List D->(ag->Prop)->ag->Prop):Prop:=match ds with
 | [x]=>(match items? st1 x with
   |some xs=>K (iV 0 xs) (fun st'=>items? st' x=some xs) st1
   |_=>False)
 |_=>False
@[irreducible] def oh:List D->ag->(List D->(ag->Prop)->ag->Prop)->Prop:=yR
def yx(t:DA):DI:=fun σ st K=>t σ st fun ds st1=>oh ds st1 K
theorem zE:bootBuiltins "enumerate"=some (.type "enumerate"):=by decide+kernel
theorem EU{X:Cx}{a:Expr}{elts:List Expr}{kx:Nat}{tpos p pos:Pos}{t:DA}(hg:Gl X "enumerate")(hm:X.mg "enumerate"=none)(ha:PA X [a] (LA t))(hs:starEach [a] X.env=[(false,eval a X.env)]):
 PI X (.Tuple elts kx tpos) (.Call (.Name "enumerate" p) [a] [] pos) (LI (yx t)):=by
 intro pins s σ H R I h;obtain⟨α,σd,st,K,G,F,P,RS,S,t,k⟩:=h;refine Call_ (jH I hg hm zE (PyProof.Rows.callWith_type1 (bp (ha pos pins s σ H (fun vs H1=>∃ds α1 G1 st1,Step α G α1 G1/\bj G1 F H1/\aL α1 st1 G1/\aG α1 G1 ds vs/\oh ds st1 K) I ⟨α,σd,st,_,G,F,P,RS,S,t,fun ds st1 q α1 G1 H1 vs s1 P1 S1 r1=>⟨ds,α1,G1,st1,s1,P1,S1,r1,q⟩⟩) fun us s1 ⟨vs,H1,I1,rv,ds,α1,G1,st1,w1,P1,S1,r1,q⟩=>?_) (by rw[hs];rfl) (by rfl)));unfold oh yR at q;split at q
 . rename_i x;split at q
   . rename_i xs ex;obtain⟨v1,rfl,q1⟩:=fJ r1 rfl;obtain⟨p1,vs1,rfl,g1,c1⟩:=kq S1 q1 ex;obtain⟨u1,rfl,ru1⟩:=vals1 rv;cases ru1;obtain⟨its1,_,l1⟩:=iN I1 (g9 P1 c1);refine zY l1 fun g he i1 kp=>?_;obtain⟨o1,eo1⟩:=l1.some;have hp1:p1<s1.heap.objs.size:=Heap.lt_size eo1;refine wpAny_pyIter_enum (s:={s1 with heap:=g}) he ?_;refine⟨s1.heap.objs.size+1,[s1.heap.objs.size+1,s1.heap.objs.size],_,_,H1,rfl,I1.kept (t':=s1.toks) kp,z9 (CV x) (Nat.ne_of_gt (Nat.lt_succ_self _)) (Nat.ne_of_lt (Nat.lt_succ_of_lt hp1)) (Nat.ne_of_lt hp1),⟨⟨_,he⟩,i1⟩,fun b hb=>?_,?_⟩
     . have hb':s1.heap.objs.size<=b:=by
        simp only[List.mem_cons,List.not_mem_nil,or_false]at hb;rcases hb with rfl|rfl
        . exact Nat.le_succ _
        . exact Nat.le_refl _
       exact I1.su hb' (I1.aB.fresh hb')
     . refine k _ _ st1 q _ α1 G1 H1 w1 P1 S1 (Ew fun α' G' st' s' S' o=>?_);obtain⟨p1',ws1,e1,f1,d1⟩:=kq S' (q1.step s') o;cases e1;exact⟨ws1,d1,f1⟩
   . exact q.elim
 . exact q.elim
theorem Eh{st:ag}{x:D}{xs:List D}{K:List D->(ag->Prop)->ag->Prop}(ex:items? st x=some xs)(k:∀ok:ag->Prop,(∀st',items? st' x=some xs->ok st')->K (iV 0 xs) ok st):oh [x] st K:=by
 unfold oh yR;simp only[ex];exact k _ fun st' h1=>h1
theorem HL{X:Cx}{a:Expr}{elts:List Expr}{kx:Nat}{tpos p pos:Pos}{ar:DA}(hg:Gl X "enumerate")(hm:X.mg "enumerate"=none)(ha:JA X [a] ar)(hs:notStar a=true:=by rfl):JI X (.Tuple elts kx tpos) (.Call (.Name "enumerate" p) [a] [] pos) (yx ar):=by
 unfold JI;unfold JA at ha;exact EU hg hm ha (bw hs)
end L3
namespace L3
open PySem L2
open PySem.Spec hiding items?
open PyProof.Rows hiding St
section
variable {prog:Program}{w:World}{A:Around}{E:Value->Shared->Prop}{s:Shared}
end
section
variable {X:Cx}{tg:Expr}
end
section
variable {X:Cx}
def C4:cx:=fun x y st K=>match x,y with
 | .lst xs,.lst ys=>xs.length+ys.length<=sizeLine/\K (.ref st.length) (st++[.lst (xs++ys)])
 |_,_=>False
theorem F1:bG X (binaryOp .Add) (LR C4):=fun pins s σ H x y v u Q I rx ry ⟨α,d,e,st,K,G,F',P,r1,r2,S,q,k⟩=>by
 cases d<;>cases e<;>try exact q.elim
 unfold Rep at r1 r2;obtain⟨a,vs,rfl,na,ha,ra⟩:=r1;obtain⟨b,ws,rfl,nb,hb,rb⟩:=r2;refine xC pins s σ H _ _ v u Q I rx ry ⟨a,b,vs,ws,rfl,rfl,eK P ha,eK P hb,by rw[<-ra.length,<-rb.length];exact q.1,fun p hp=>?_⟩;exact k.new P q.2 S (aI.mpr (dE (aI.mp ra) (aI.mp rb))) hp
@[irreducible] def qY:cx:=C4
theorem FQ:bG X (binaryOp .Add) (LR qY):=by unfold qY;exact F1
end
theorem EC{st:ag}{K:DK}{xs ys:List D}(h:xs.length+ys.length<=sizeLine)(k:K (.ref st.length) (st++[.lst (xs++ys)])):qY (.lst xs) (.lst ys) st K:=by unfold qY;exact⟨h,k⟩
end L3
namespace L3
open PySem L2
open PySem.Spec hiding items?
open PyProof.Rows hiding St
open PySem PySem.Spec L2 PySem.SeqAt
section
variable {X:Cx}
end
end L3
namespace L3
open PySem L2
open PySem.Spec hiding items?
open PyProof.Rows hiding St
section
variable {X:Cx}
end
section
variable {P:Program}{w:World}
section
variable {z ti to t1 t2 t3 a1 a2 a3:Addr}
end
end
section
variable {X:Cx}
end
end L3
namespace L3
open PySem L2
open PySem.Spec hiding items?
open PyProof.Rows hiding St
open Sem (wp)
section
variable {prog:Program}{w:World}{A:Around}{s:Shared}{E:Value->Shared->Prop}
end
section
variable {prog:Program}{w:World}{A:Around}{R:Result->Shared->Prop}{I:Addr}{fp wr:List Addr}{G:Array GenState->Array GenState->Prop}{n:Nat}{P:Nat->Value->Prop}{Sx:Nat->Shared->Prop}
end
section
variable {prog:Program}{w:World}{A:Around}{E:Value->Shared->Prop}{s:Shared}
end
section
variable {X:Cx}{pins:List (Addr×Obj)}{σ:L2.St}{H:Hp}{s:Shared}{α:List (Option Addr)}
end
end L3
namespace L3
open PySem L2
open PySem.Spec hiding items?
open PyProof.Rows hiding St
section
variable {X:Cx}
end
def putD(f:Str)(v:D):List (Str×D)->List (Str×D)
 | []=>[(f,v)]
 |(g,x)::r=>if g=f then(g,v)::r else(g,x)::putD f v r
theorem iu.look{α:List (Option Addr)}{H:Hp}{f:Str}{v:D}:∀ {fs:List (Str×D)} {vs:List (Str×V)},iu α H fs vs->fs.lookup f=some v->∃u,vs.lookup f=some u/\Rep α H v u
 | [],_,_,e=>by cases e
 |(g,x)::fs,_,.cons (b:=q) h t,e=>by
  obtain⟨g',y⟩:=q;obtain⟨h1,h2⟩:=h;simp only at h1 h2;subst h1;rw[List.lookup_cons]at e⊢;cases hb:f==g with
  |true=>rw[hb]at e;cases e;exact⟨y,rfl,h2⟩
  |false=>rw[hb]at e;exact iu.look t e
theorem iu.none{α:List (Option Addr)}{H:Hp}{f:Str}:∀ {fs:List (Str×D)} {vs:List (Str×V)},iu α H fs vs->fs.lookup f=Option.none->vs.lookup f=Option.none
 | [],_,.nil,_=>rfl
 |(g,x)::fs,_,.cons (b:=q) h t,e=>by
  obtain⟨g',y⟩:=q;obtain⟨h1,h2⟩:=h;simp only at h1 h2;subst h1;rw[List.lookup_cons]at e⊢;cases hb:f==g with
  |true=>rw[hb]at e;cases e
  |false=>rw[hb]at e;exact iu.none t e
theorem iu.put{α:List (Option Addr)}{H:Hp}{f:Str}{d:D}{v:V}(r:Rep α H d v):∀ {fs:List (Str×D)} {vs:List (Str×V)},iu α H fs vs->iu α H (putD f d fs) (fz f v vs)
 | [],_,.nil=> .cons ⟨rfl,r⟩ .nil
 |(g,x)::fs,_,.cons (b:=q) h t=>by
  obtain⟨g',y⟩:=q;obtain⟨h1,h2⟩:=h;simp only at h1 h2;subst h1;unfold putD fz;by_cases hb:g=f
  . rw[if_pos hb,if_pos hb];exact .cons ⟨rfl,r⟩ t
  . rw[if_neg hb,if_neg hb];exact .cons ⟨rfl,h2⟩ (iu.put r t)
def Ck(C:Addr)(f:Str)(d:D)(st:ag)(K:DK):Prop:=match d with
 | .ref n=>(match st[n]? with|some (.ins C' fs)=>C'=C/\∃v,fs.lookup f=some v/\K v st|_=>False)
 |_=>False
@[irreducible] def yS(C:Addr)(f:Str):D->ag->DK->Prop:=Ck C f
def cM(C:Addr)(f:Str)(te:DE):DE:=fun σ st K=>te σ st fun d st1=>yS C f d st1 K
theorem bN{C:Addr}{f:Str}{n:Nat}{st:ag}{K:DK}{fs:List (Str×D)}{v:D}(e:st[n]?=some (.ins C fs))(h:fs.lookup f=some v)(k:K v st):yS C f (.ref n) st K:=by
 unfold yS Ck;simp only[e];exact⟨trivial,v,h,k⟩
def za(C:Addr)(f:Str)(x d:D)(st:ag)(K:ag->Prop):Prop:=match x with
 | .ref n=>(match st[n]? with|some (.ins C' fs)=>C'=C/\fs.length<1000/\K (st.set n (.ins C (putD f d fs)))|_=>False)
 |_=>False
@[irreducible] def uw(C:Addr)(f:Str):D->D->ag->(ag->Prop)->Prop:=za C f
def kY(C:Addr)(f:Str)(to te:DE):DS:=fun D σ st=>te σ st fun d st1=>to σ st1 fun x st2=>uw C f x d st2 fun st3=>D.nx σ st3
theorem ko{C:Addr}{f:Str}{n:Nat}{d:D}{st:ag}{K:ag->Prop}{fs:List (Str×D)}(e:st[n]?=some (.ins C fs))(h:fs.length<1000)(k:K (st.set n (.ins C (putD f d fs)))):uw C f (.ref n) d st K:=by
 unfold uw za;simp only[e];exact⟨trivial,h,k⟩
def yA(C:Addr)(m:Str)(x:D)(st:ag)(k:Prop):Prop:=match x with
 | .ref n=>(match st[n]? with|some (.ins C' fs)=>C'=C/\fs.lookup m=none/\k|_=>False)
 |_=>False
@[irreducible] def ux(C:Addr)(m:Str):D->ag->Prop->Prop:=yA C m
theorem iG{C:Addr}{m:Str}{n:Nat}{st:ag}{k:Prop}{fs:List (Str×D)}(e:st[n]?=some (.ins C fs))(h:fs.lookup m=none)(q:k):ux C m (.ref n) st k:=by
 unfold ux yA;simp only[e];exact⟨trivial,h,q⟩
def gZ(C:Addr)(m:Str)(S:cq)(to:DE)(t:DA):DE:=fun σ st K=>to σ st fun x st1=>ux C m x st1 (t σ st1 fun ds st2=>S (x::ds) st2 K)
def zt(C:Addr)(S:cq)(t:DA):DE:=fun σ st K=>t σ st fun ds st1=>S (.ref st1.length::ds) (st1++[.ins C []]) fun r st2=>r= .aC/\K (.ref st1.length) st2
section
variable {X:Cx}{C f g:Addr}{fd:FuncData}{k:Nat}{x m fl:Str}{e o value:Expr}{es:List Expr}{p pos pos' apos:Pos}{te to:DE}{t:DA}{S:cq}{ps:List Str}
theorem Il(c:kR X.K C)(na:eW X.K C fl)(he:PE X e (LE te))(hb:attributeBase e fl X.env (eval e X.env)=eval e X.env):PE X (.Attribute e fl pos) (LE (cM C fl te)):=PE.imp (Gb he hb) fun σ H Q ⟨α,σd,st,K,G,F,P,R,S,t,k⟩=>by
 refine⟨α,σd,st,_,G,F,P,R,S,t,fun d st1 q α1 G1 H1 v s1 P1 S1 r1=>?_⟩;unfold yS Ck at q;cases d<;>try exact q.elim
 simp only at q;split at q
 . rename_i C' fs e';obtain⟨rfl,w,hw,q⟩:=q;obtain⟨a,ea,dx,vs,h1,h2⟩:=S1.uu e';have r1':=cY ea r1;subst r1';obtain⟨u,hu,ru⟩:=h2.look hw;exact⟨a,_,dx,vs,u,rfl,P1.get h1,c,na,hu,(k.at s1).here P1 q S1 ru⟩
 . exact q.elim
theorem HF(c:kR X.K C)(na:eW X.K C fl)(ho:PE X o (LE to))(hv:PE X value (LE te))(hs:swapsWith value (some (.Attribute o fl pos')) pos.line X.env=pure false):PS X (.Assign [.Attribute o fl pos'] value pos) (LS (kY C fl to te)):=PS.imp (GQ ho hv hs) fun D σ H ⟨α,σd,st,DD,G,F,P,R,S,t,k⟩=>by
 refine⟨α,σd,st,_,G,F,P,R,S,t,fun d st1 q α1 G1 H1 v s1 P1 S1 r1=>?_⟩;refine⟨α1,σd,st1,_,G1,F,P1,R.step s1,S1,q,fun x st2 q2 α2 G2 H2 v2 s2 P2 S2 r2=>?_⟩;unfold uw za at q2;cases x<;>try exact q2.elim
 simp only at q2;split at q2
 . rename_i C' fs e';obtain⟨rfl,hl,q2⟩:=q2;obtain⟨a,ea,dx,vs,h1,h2⟩:=S2.uu e';have r2':=cY ea r2;subst r2';have hm:some a∈α2:=List.mem_of_getElem? ea;have lv:vs.length<1000:=by rw[<-h2.length];exact hl
   refine⟨a,_,dx,vs,rfl,P2.get h1,c,na,lv,?_⟩;refine((k.nx.at s1).at s2) σd _ q2 α2 (upd G2 a (.ins _ dx (fz fl v vs))) _ σ (Step.write hm) (P2.write h1) (((R.step s1).step s2).step (Step.write hm)) ?_;exact S2.write ea ⟨dx,fz fl v vs,aK,(h2.put (r1.step s2)).step (Step.write hm)⟩
 . exact q2.elim
theorem LE.JR{σ:L2.St}{H:Hp}{Q:VK}(h:LE (gZ C m S to t) σ H Q):CJ C m (cH S) [] E0 (LE to) (LA t) σ H Q:=by
 obtain⟨α,σd,st,K,G,F,P,R,Sr,tt,k⟩:=h;refine⟨α,σd,st,_,G,F,P,R,Sr,tt,fun d st1 q α1 G1 H1 v s1 P1 S1 r1=>?_⟩;unfold ux yA at q;cases d<;>try exact q.elim
 simp only at q;split at q
 . rename_i n C' fs e';obtain⟨rfl,hl,q⟩:=q;obtain⟨a,ea,dx,vs,h1,h2⟩:=S1.uu e';have r1':=cY ea r1;subst r1';refine⟨a,dx,vs,rfl,P1.get h1,h2.none hl,?_⟩;refine⟨α1,σd,st1,_,G1,F,P1,R.step s1,S1,q,fun ds st2 q2 α2 G2 H2 us s2 P2 S2 r2=>?_⟩;try dsimp only
   rw[List.append_nil];exact⟨α2,_,st2,K,G2,F,P2,by unfold aG;exact⟨_,_,rfl,r1.step s2,r2⟩,S2,q2,(k.at s1).at s2⟩
 . exact q.elim
theorem LE.make{σ:L2.St}{H:Hp}{Q:VK}(h:LE (zt C S t) σ H Q):Dm C (cH S) [] E0 (LA t) σ H Q:=by
 obtain⟨α,σd,st,K,G,F,P,R,Sr,tt,k⟩:=h;refine⟨α,σd,st,_,G,F,P,R,Sr,tt,fun ds st1 q α1 G1 H1 us s1 P1 S1 r1=>?_⟩;intro x dx hx hdx hne;have hgd:=(P1.none hdx).1;have P2:=P1.laid (o:= .own x) hdx;have S2:=S1.laid (o:= .own x) hgd;have hx2:upd H1 dx (.own x) x=none:=by rw[az (Ne.symm hne)];exact hx
 have hg2:=(P2.none hx2).1;have P3:=P2.laid (o:= .ins C dx []) hx2;have S3:=S2.cell (o:= .ins C dx []) (c:= .ins C []) hg2 ⟨dx,[],aK,.nil⟩;have s2:Step α1 G1 α1 (upd G1 dx (.own x)):=Step.laid hgd;have s3:Step α1 (upd G1 dx (.own x)) (α1++[some x]) (upd (upd G1 dx (.own x)) x (.ins C dx [])):=Step.cell hg2
 have rx:Rep (α1++[some x]) (upd (upd G1 dx (.own x)) x (.ins C dx [])) (.ref st1.length) (.ref x):=by
  unfold Rep;refine .inr ⟨x,?_,rfl⟩;rw[List.getElem?_append_right (by rw[S1.len];exact Nat.le_refl _),S1.len,Nat.sub_self];rfl
 rw[List.append_nil];refine⟨α1++[some x],.ref st1.length::ds,st1++[.ins C []],_,_,F,P3,by unfold aG;exact⟨_,_,rfl,rx,(r1.step s2).step s3⟩,S3,q,fun d st2 q2 α' G' H' v s' P' S' r'=>?_⟩;obtain⟨rfl,q2⟩:=q2;unfold Rep at r';exact⟨r',(((k.at s1).at s2).at s3) _ st2 q2 α' G' H' _ s' P' S' (rx.step s')⟩
end
section
variable {X:Cx}{tg:Expr}
end
section
variable {X:Cx}
end
section
variable {X:Cx}{e o i value:Expr}{es:List Expr}{te to ti:DE}{t:DA}{pos pos' tpos apos p:Pos}{C f:Addr}{fl m x:Str}{S:cq}{k:Nat}{fd:FuncData}{ps:List Str}
theorem zN{value o:Expr}{fl:Str}{pos':Pos}{n:Nat}{env:Env}:swapsWith value (some (.Attribute o fl pos')) n env=pure false:=by cases value<;>rfl
theorem cn(c:kR X.K C)(na:eW X.K C fl)(he:JE X e te)(hb:attributeBase e fl X.env (eval e X.env)=eval e X.env:=by rfl):JE X (.Attribute e fl pos) (cM C fl te):=by unfold JE at*;exact Il c na he hb
theorem kc(c:kR X.K C)(na:eW X.K C fl)(ho:JE X o to)(hv:JE X value te):JS X (.Assign [.Attribute o fl pos'] value pos) (kY C fl to te):=by unfold JS;unfold JE at*;exact HF c na ho hv zN
theorem jE{pl:Sem Bool}(he:JE X o to)(c:kR X.K C)(hm:Meth X.K C m f)(F:bf X.prog X.w X.K X.mg X.base cz k f fd ps (cH S))(hr:bO k X.A)(hb:Binds X.K fd ps [])(ha:JA X (e::es) t)
 (hs:notStar e=true:=by rfl) (hs2:eP es=true:=by rfl)
 (ht:eval (.Call (.Attribute o m apos) (e::es) [] pos) X.env=(do
   let ov <-eval o X.env
   standAt apos.atName
   let(f,first) <-holding [ov] (getMethod ov m pl)
   callWith pos f first (backTo pos (starEach (e::es) X.env)) (backToKw pos (keywordEach [] X.env))):=by rfl):
 JE X (.Call (.Attribute o m apos) (e::es) [] pos) (gZ C m S to t):=by
 unfold JE at*;unfold JA at ha;exact PE.imp (Ff he c hm F hr hb .nil yD ha (bw hs) (ir hs2) ht) fun _ _ _ h=>LE.JR h
theorem Hw(M:Mk X.K C f)(F:bf X.prog X.w X.K X.mg X.base cz k f fd ps (cH S))(hr:bO (k+1) X.A)(hg:Gl X x)(hmg:X.mg x=some (.ref C))(hb:Binds X.K fd ps [])(ha:JA X (e::es) t)(hdb:(x==("__debug__":Str))=false)
 (hs:notStar e=true:=by rfl) (hs2:eP es=true:=by rfl):JE X (.Call (.Name x p) (e::es) [] pos) (zt C S t):=by
 unfold JE;unfold JA at ha;exact PE.imp (En M F hr hg hmg hb .nil yD ha hdb (bw hs) (ir hs2)) fun _ _ _ h=>LE.make h
end
end L3
namespace L2
open PySem PySem.Spec PyProof.Rows
structure Entry(K:PySem.W.Frag)(ts:List (Addr×Addr))(a:Addr)(ns:List Int)(H:Hp):Prop where
 lst:jz K H a (ns.map V.int)
 tab:∀q∈ts,H q.2=some (.g5 #[])/\q.2≠a
theorem tN:∀ {vs:List Value} {ns:List Int},IntsAre vs ns->Vals (ns.map V.int) vs
 |_,_,.nil=> .nil
 |_,_,.cons n t h=> .cons ⟨t,rfl⟩ (tN h)
structure HM(K:PySem.W.Frag)(ts:List (Addr×Addr))(h:Heap):Prop where
 hd:∀q∈ts,PySem.W.codeHdIn K q.1 q.2=true
 no:∀q∈ts,K.lookup q.2=none
 at':∀q∈ts,h.get? q.2=some (PySem.W.tabObj #[])
theorem zZ{P:Program}{w:World}{K:PySem.W.Frag}{mg mb:Str->Option Value}{k:Nat}{fa a:Addr}{fd:FuncData}{x:Str}{sp:Sp}{s₁:Shared}{vs:List Value}{ns:List Int}{ts:List (Addr×Addr)}
 (KX:K.In s₁.heap) (hns:s₁.heap.Ns mainGlobals mg) (hb:s₁.heap.Ns builtinsNs mb) (hbb:∀x:Str,x≠"__name__"->mb x=bootBuiltins x) (hlim:s₁.heap.NoLimit) (hse:s₁.heap.NoSeer) (hgt:P.given.tree=none)
 (hbm:∃bm ob,mg "__builtins__"=some (.ref bm)/\bm≠builtinsNs/\s₁.heap.get? bm=some ob/\ob.cls= .type "module"/\ob.dict=some builtinsNs/\ob.data= .plain) (hT:HM K ts s₁.heap) (hg:s₁.gens= #[])
 (ha:s₁.heap.get? a=some {cls:= .type "list",data:= .seq vs.toArray}) (hi:IntsAre vs ns) (hl:ns.length<=sizeLine) (hr:bO k callerA)
 (F:∀base:Heap,K.In base->base.Ns mainGlobals mg->bf P w K mg base (fun _ _ _ _ _ _=>False) k fa fd [x] sp) (hbind:∀(s:Shared) (u:Value),BindsTo s fd ⟨[u],[]⟩ [(x,u)])
 (hsp:∀H:Hp,Entry K ts a ns H->sp [.ref a] H (fun v _=>v= .bl true) fun _ _ _=>False):
 codeAny (model P w) callerA (.call (.ref fa) ⟨[.ref a],[]⟩) (fun r s'=>r= .ok (.ret (.bool true))/\OldK s₁.heap s'.heap/\s'.os=s₁.os/\AllBare s'.gens) s₁:=by
 have rv:=tN hi;have lenV:=hi.length
 have nta:∀q∈ts,q.2≠a:=fun q hq z=>by
  have:=hT.at' q hq;rw[z,ha]at this;cases this
 let sc:Option HO:=match K.lookup a with
  |some _=>none
  |none=>some (.e9 {cls:= .type "list",data:= .seq vs.toArray} (.lst (ns.map V.int)))
 let H:Hp:=fun b=>if b=a then sc else if b∈ts.map (·.2)then some (.g5 #[])else none
 have Ha:H a=sc:=if_pos rfl
 have Ht:∀q∈ts,H q.2=some (.g5 #[]):=fun q hq=>by
  show(if q.2=a then sc else if q.2∈ts.map (·.2)then some (HO.g5 #[])else none)=_;rw[if_neg (nta q hq),if_pos (List.mem_map_of_mem hq)]
 have Hs:∀b u,H b=some u->(b=a/\K.lookup a=none/\u= .e9 {cls:= .type "list",data:= .seq vs.toArray} (.lst (ns.map V.int)))\/(∃q∈ts,q.2=b/\u= .g5 #[]):=fun b u e=>by
  have e':(if b=a then sc else if b∈ts.map (·.2)then some (HO.g5 #[])else none)=some u:=e;by_cases hba:b=a
  . rw[if_pos hba]at e'
    have e2:(match K.lookup a with
     |some _=>none
     |none=>some (HO.e9 {cls:= .type "list",data:= .seq vs.toArray} (.lst (ns.map V.int))))=some u:=e'
    cases q:K.lookup a with
    |some o=>rw[q]at e2;cases e2
    |none=>rw[q]at e2;cases e2;exact .inl ⟨hba,rfl,rfl⟩
  . rw[if_neg hba]at e';by_cases hbt:b∈ts.map (·.2)
    . rw[if_pos hbt]at e';cases e';obtain⟨q,hq,e⟩:=List.mem_map.mp hbt;exact .inr ⟨q,hq,e,rfl⟩
    . rw[if_neg hbt]at e';cases e'
 have aB:eA P w H s₁.heap:=fun b u e=>by
  rcases Hs b u e with⟨rfl,_,rfl⟩|⟨q,hq,rfl,rfl⟩
  . exact⟨ha,by rw[List.length_map];exact hl,vs,_,rv,ha⟩
  . exact hT.at' q hq
 have hE:Entry K ts a ns H:=by
  refine⟨?_,fun q hq=>⟨Ht q hq,nta q hq⟩⟩;cases q:K.lookup a with
  |some o=>
   have e:=KX a o q;rw[ha]at e;cases e;exact .inr ⟨_,vs.toArray,_,q,rfl,rfl,rfl,by rw[List.size_toArray,lenV];exact hl,by simpa using rv⟩
  |none=>
   refine .inl (.inr ⟨{cls:= .type "list",data:= .seq vs.toArray},?_⟩);rw[Ha]
   show(match K.lookup a with
    |some _=>none
    |none=>some (HO.e9 {cls:= .type "list",data:= .seq vs.toArray} (.lst (ns.map V.int))))=_
   rw[q]
 have dictNo:∀ {b:Addr} {o:Obj},s₁.heap.get? b=some o->(∀es ep,o.data≠ .seq es ep)->o.cls≠ .none->H b=none:=fun{b o} e d1 d2=>by
  cases q:H b with
  |none=>rfl
  |some u=>
   rcases Hs b u q with⟨rfl,_,_⟩|⟨t,ht,rfl,_⟩
   . rw[ha]at e;cases e;exact absurd rfl (d1 _ _)
   . rw[hT.at' t ht]at e;cases e;exact absurd rfl d2
 have nsK:∀ {b:Addr} {m:Str->Option Value},s₁.heap.Ns b m->(lJ s₁.heap H).Ns b m:=fun{b m} ⟨o,es,ep,e,d,r⟩=>by
  refine⟨o,es,ep,mT e ?_,d,r⟩;cases q:H b with
  |none=>rfl
  |some u=>
   rcases Hs b u q with⟨rfl,_,_⟩|⟨t,ht,rfl,_⟩
   . rw[ha]at e;cases e;cases d
   . rw[hT.at' t ht]at e;cases e;cases d
 have hKb:K.In (lJ s₁.heap H):=fun b o e=>mT (KX b o e) (by
  cases q:H b with
  |none=>rfl
  |some u=>
   rcases Hs b u q with⟨rfl,z,_⟩|⟨t,ht,rfl,_⟩
   . rw[z]at e;cases e
   . rw[hT.no t ht]at e;cases e)
 obtain⟨bm,ob,b1,b2,b3,b4,b5,b6⟩:=hbm;have hbmK:(lJ s₁.heap H).get? bm=some ob:=mT b3 (dictNo b3 (fun es ep z=>by rw[b6]at z;cases z) (fun z=>by rw[b4]at z;cases z))
 have seK:(lJ s₁.heap H).NoSeer:=by
  obtain⟨⟨m1,a1,a2⟩,⟨m2,c1,c2⟩,⟨m3,d1,d2⟩,⟨mg',bm',ob',e1,e2,e3,e4,e5⟩⟩:=hse;refine⟨⟨m1,nsK a1,a2⟩,⟨m2,nsK c1,c2⟩,⟨m3,nsK d1,d2⟩,⟨mg',bm',ob',nsK e1,e2,mT e3 ?_,e4,e5⟩⟩;cases q:H bm' with
  |none=>rfl
  |some u=>
   rcases Hs bm' u q with⟨rfl,_,_⟩|⟨t,ht,rfl,_⟩
   . rw[ha]at e3;cases e3;exact absurd (show Value.type "list"=Value.type "module" from e4) (by intro z;injection z with z;exact absurd z (by decide))
   . rw[hT.at' t ht]at e3;cases e3;cases e4
 have hM:Mod K mg (lJ s₁.heap H):=⟨hKb,nsK hns,⟨mb,nsK hb,hbb⟩,let⟨mc,h1,h2⟩:=hlim;⟨mc,nsK h1,h2⟩,seK,⟨bm,ob,b1,b2,hbmK,b4,b5,b6⟩⟩
 have e0:qb P w K mg (lJ s₁.heap H) callerA [] s₁ H:=⟨rfl,hM,fun b o e=>EE e,Nat.le_of_eq (zA _ _),trivial,fun b hb=>absurd (show b∈([]:List Addr)from hb) (by simp),aB,.of_eq hg,hgt⟩
 refine codeAny_mono ((F _ hKb (nsK hns)).run callerA [] s₁ H ⟨[.ref a],[]⟩ [.ref a] [.ref a] _ _ hr e0 (hbind s₁ (.ref a)) (.cons rfl .nil) (hsp H hE)) fun r s' h=>?_;cases r with
 |error e=>exact False.elim h
 |ok fl=>
  cases fl with
  |next=>exact False.elim h
  |brk=>exact False.elim h
  |cont=>exact False.elim h
  |ret u=>
   obtain⟨v,H',os,bare,un,hok',r',q⟩:=h;have q':v= .bl true:=q;subst q';obtain rfl:u=Value.bool true:=r';have noF:∀b:Addr,b∉fF ([]:List Env):=fun b z=>absurd (show b∈([]:List Addr)from z) (by simp);refine⟨rfl,⟨fun b o e=>?_,fun b o e=>un.there b o e (by simp)⟩,os,bare⟩;cases q:H b with
   |none=>exact .inl (un.keep b o e q (noF b) (by simp))
   |some u=>
    rcases Hs b u q with⟨rfl,_,rfl⟩|⟨t,ht,rfl,rfl⟩
    . obtain⟨e2,_⟩:=hok' b _ (un.iq b _ _ q);rw[ha]at e;cases e;exact .inl e2
    . obtain⟨more,e1⟩:=un.hJ _ _ q;have e2:s'.heap.get? t.2=some {cls:= .none,data:= .fields (#[]++more)}:=hok' _ _ e1;have e3:=hT.at' t ht;rw[e3]at e;cases e;have C:PySem.W.CodeHd s₁.heap t.1 t.2:=PySem.W.codeHd_of_K KX (hT.hd t ht);exact .inr (.inl ⟨(C.tab e3).isCodeTable,rfl,#[],more,rfl,e2⟩)
theorem Ih{l:PySem.W.OpenLaw}{n k:Nat}{q:Program}{loose:List Str}{XP:(Str->Option Value)->Heap->Prop}{YP:World->Heap->Prop}{d:DefRec}{K:Params->PySem.W.Frag}{sp:World->Sp}{x:Str}{ts:List (Addr×Addr)}
 (hn:l.most=some n) (hn2:n<=sizeLine) (hdf:d.params.defaults=[]) (hr:bO k callerA) (hq:importsNone q=true) (hgt:l.prog.given.tree=none)
 (hY:∀(w:World) (h:Heap),YP w h->(K w.params).In h/\HM (K w.params) ts h)
 (F:∀(w:World) (mg:Str->Option Value) (fa:Addr) (h:Heap),(K w.params).In h->h.Ns mainGlobals mg->mg d.name=some (.ref fa)->
   ∃fd:FuncData,(∀(s:Shared) (u:Value),BindsTo s fd ⟨[u],[]⟩ [(x,u)])/\
    ∀base:Heap,(K w.params).In base->base.Ns mainGlobals mg->bf l.prog w (K w.params) mg base (fun _ _ _ _ _ _=>False) k fa fd [x] (sp w))
 (hsp:∀(w:World) (H:Hp) (a:Addr) (ns:List Int),ns.length<=n->Entry (K w.params) ts a ns H->sp w [.ref a] H (fun v _=>v= .bl true) fun _ _ _=>False):
 PySem.W.WalkO q loose XP YP l.row.toRowW d [] (fun f vs=>PySem.call f vs):=by
 refine Att.wL hn hdf fun w s₀ s₁ mg mb fa o pm cd doc a vs ns G Y ho hd hcd hmg hobj hints hlen hg=>?_;obtain⟨KX,hT⟩:=hY w _ Y;obtain⟨fd,hb,hF⟩:=F w mg fa _ KX G.T.g hmg;exact zZ KX G.T.g G.T.b G.T.builtins G.T.nolimit (G.T.seer hq) hgt G.T.bmain hT hg hobj hints (Nat.le_trans hlen hn2) hr hF hb fun H hE=>hsp w H a ns hlen hE
end L2
namespace L3
open PySem PySem.Spec L2
open PyProof.Rows hiding St
section
variable {X:Cx}{pins:List (Addr×Obj)}{σ:L2.St}{H:Hp}{s:Shared}{p:Addr}{o o':Obj}{h':Heap}
theorem i9{t':Nat}(I:Inv X pins σ H s)(hd:∀v,o.data≠ .cell v)(hfr:o.isFreed=false:=by rfl):Inv X (pins++[(s.heap.objs.size,o)]) σ H {s with heap:=s.heap.push o,toks:=t'}:=by
 have I':=I.kept (h':=s.heap.push o) (t':=t') (fun b u e=>Heap.get?_push_of_some _ e);refine I'.o5 fun q hq=>?_;rcases List.mem_append.mp hq with hq|hq
 . exact I'.pin q (List.mem_append_right _ hq)
 . have e:q=(s.heap.objs.size,o):=by simpa using hq
   subst e;exact⟨Heap.get?_push_size _ hfr,I.aB.fresh (Nat.le_refl _),Nat.ne_of_gt I.lt,I.GC (Nat.le_refl _),hd⟩
theorem eg(I:Inv X (pins++[(p,o)]) σ H s):s.heap.get? p=some o/\H p=none/\p≠X.env.locals/\p∉X.fs/\∀v,o.data≠ .cell v:=
 I.pin (p,o) (List.mem_append_right _ (List.mem_append_right _ (List.mem_singleton.mpr rfl)))
theorem vM(I:Inv X (pins++[(p,o)]) σ H s):∀x c,X.env.cells.lookup x=some c->c≠p:=fun x c e z=>by
 obtain⟨v,u,hu,hd⟩:=I.cell x c e;obtain⟨h1,_,_,_,h5⟩:=eg I;rw[z,h1]at hu;cases hu;exact h5 v hd
theorem kI{t':Nat}(I:Inv X (pins++[(p,o)]) σ H s)(hs:Heap.SameBut p s.heap h')(hn:h'.get? p=some o')(hd:∀v,o'.data≠ .cell v)(h0:X.s₀.heap.objs.size<=p)(hp:∀q∈X.pn++pins,q.1≠p):
 Inv X (pins++[(p,o')]) σ H {s with heap:=h',toks:=t'}:=by
 obtain⟨_,n,neL,nfs,_⟩:=eg I;have I0:Inv X pins σ H s:=I.fH;have I1:=I0.turned (t':=t') (h':=h') (it:=p) (fun b u hb e=>(hs.2 b hb).trans e) n neL (.inr h0) (vM I) hp;refine I1.o5 fun q hq=>?_;rcases List.mem_append.mp hq with hq|hq
 . exact I1.pin q (List.mem_append_right _ hq)
 . have e:q=(p,o'):=by simpa using hq
   subst e;exact⟨hn,n,neL,nfs,hd⟩
theorem AZ{u:HO}(I:Inv X (pins++[(p,o)]) σ H s)(h0:X.s₀.heap.objs.size<=p)(hp:∀q∈X.pn++pins,q.1≠p)(new:cu X.prog X.w (upd H p u) s.heap p u):Inv X pins σ (upd H p u) s:=by
 obtain⟨e0,n,neL,nfs,_⟩:=eg I;have ne:∀ {b:Addr} {w:HO},H b=some w->b≠p:=fun e=>cv e n;have ne0:∀ {b:Addr} {w:Obj},X.s₀.heap.get? b=some w->b≠p:=fun e=>Nat.ne_of_lt (Nat.lt_of_lt_of_le (Heap.lt_size e) h0);refine⟨I.ok,I.os,I.bare,⟨I.base.keep,I.base.slot,fun b w e q hx=>?_,I.base.there,fun b xs e=>?_,fun b w y e=>?_,fun b ps e=>?_⟩,I.loc,I.cell,?_,fun x c e=>?_,fun q hq=>?_,fun b w e=>?_,I.len⟩
 . rw[az (ne0 e)];exact I.base.free b w e q hx
 . have:=I.base.iQ b xs e;rw[az (ne this)];exact this
 . have:=I.base.iq b w y e;rw[az (ne this)];exact this
 . obtain⟨m,q⟩:=I.base.hJ b ps e;exact⟨m,by rw[az (ne q)];exact q⟩
 . rw[az (Ne.symm neL)];exact I.free
 . rw[az (vM I x c e)];exact I.eS x c e
 . have hq':q∈X.pn++(pins++[(p,o)]):=by
    rcases List.mem_append.mp hq with z|z
    . exact List.mem_append_left _ z
    . exact List.mem_append_right _ (List.mem_append_left _ z)
   obtain⟨a1,a2,a3⟩:=I.pin q hq';exact⟨a1,by rw[az (hp q hq)];exact a2,a3⟩
 . by_cases hb:b=p
   . subst hb;rw[aK]at e;cases e;exact new
   . rw[az hb]at e;exact(I.aB b w e).jS (fun _ _ _ q=>q) (fun c q=>by rw[az (ne q)];exact q) fun c xs q=>by rw[az (ne q)];exact q
end
def jU(X:Cx)(pins:List (Addr×Obj))(σ:L2.St)(R:Hp->Prop)(own:List (Addr×Obj))(s:Shared):Prop:=∃H,Inv X (pins++own) σ H s/\R H
section
variable {X:Cx}{pins:List (Addr×Obj)}{σ:L2.St}{R:Hp->Prop}{s:Shared}{A:Around}{E:Value->Shared->Prop}{a kS:Addr}{e1 e:Nat}{keys:Array Value}{P:PySem.Fin->Shared->Prop}
structure Own(X:Cx)(pins:List (Addr×Obj))(p:Addr):Prop where
 ge:X.s₀.heap.objs.size<=p
 ne:∀q∈X.pn++pins,q.1≠p
theorem oO{H:Hp}(I:Inv X pins σ H s):Own X pins s.heap.objs.size:=⟨I.sz,fun q hq=>Nat.ne_of_lt (Heap.lt_size (I.pin q hq).1)⟩
theorem vt{p:Addr}{q:Addr×Obj}(h:Own X pins p)(hq:q.1≠p):Own X (pins++[q]) p:=⟨h.ge,fun r hr=>by
 rcases List.mem_append.mp hr with z|z
 . exact h.ne r (List.mem_append_left _ z)
 . rcases List.mem_append.mp z with z|z
   . exact h.ne r (List.mem_append_right _ z)
   . have e:r=q:=by simpa using z
     rw[e];exact hq⟩
theorem wd{x y:Addr×Obj}(J:jU X pins σ R [x,y] s):∃H,Inv X ((pins++[x])++[y]) σ H s/\R H:=by
 obtain⟨H,I,r⟩:=J;exact⟨H,by rw[List.append_assoc];exact I,r⟩
theorem z_{x y:Addr×Obj}{H:Hp}(I:Inv X ((pins++[x])++[y]) σ H s)(r:R H):jU X pins σ R [x,y] s:=⟨H,by rw[List.append_assoc]at I;exact I,r⟩
theorem vz{st:SortSt}(J:jU X pins σ R [(a,seqObj "list" #[] e1),(kS,seqObj "list" keys e)] s)(ha:Own X pins a)(hk:Own X pins kS)(hka:kS≠a)(hz1:keys.size<=sizeLine)(hz2:(arrOf st).size<=sizeLine)(hf:failedOf st=none)
 (h:∀s' c,jU X pins σ R [(a,seqObj "list" ((arrOf st).map (·.2)) c)] s'->P (.done (.ret .none)) s'):
 wpAny (model X.prog X.w) A (PyProof.Rows.ksk_tail a false e1 (.ref kS) st) P E s:=by
 obtain⟨H,I,r⟩:=wd J;have k1:=(eg I).1;have s1:=Heap.SameBut.update s.heap kS (Obj.mapSeq fun _=>(#[]:Array Value));have I1:=kI (t':=s.toks) I s1 (get?_update_seq k1 fun _=> #[]) (fun v z=>by cases z) hk.ge (vt hk hka.symm).ne;have I2:Inv X (pins++[(a,seqObj "list" #[] e1)]) σ H {s with heap:=s.heap.update kS (Obj.mapSeq fun _=>(#[]:Array Value)),toks:=s.toks}:=I1.fH;have a1:=(eg I2).1;have s2:=Heap.SameBut.update (s.heap.update kS (Obj.mapSeq fun _=>(#[]:Array Value))) a (Obj.mapSeq fun _=>(arrOf st).map (·.2));have I3:=kI (t':=s.toks) I2 s2 (get?_update_seq a1 fun _=>(arrOf st).map (·.2)) (fun v z=>by cases z) ha.ge ha.ne;unfold ksk_tail;simp only[Bool.false_eq_true,if_false];refine wpAny_bind (listUpdate_at k1 rfl ?_ hz1 (Nat.zero_le _));refine wpAny_bind (wpAny_letGo ?_);refine wpAny_bind (seqEpoch_at a1 rfl ?_);refine wpAny_bind (listUpdate_at a1 rfl ?_ (Nat.zero_le _) (Nat.le_succ_of_le (by rw[Array.size_map];exact hz2)));rw[hf];simp only[bne_self_eq_false,Bool.false_eq_true,if_false];exact wpAny_pure (h _ _ ⟨H,I3,r⟩)
def y6(kz:List Int)(vs out:List Value):Prop:=
 ∃ps:List (Int×Value),ps.Perm (kz.zip vs)/\out=ps.map Prod.snd/\ps.Pairwise fun p q=>p.1<=q.1
theorem xS{kz:List Int}{vs:List Value}(hk:IntsAre keys.toList kz){xs:Array Keyed}(hp:xs.Perm (keys.zip vs.toArray))(hs:SortedTo xs xs.size):y6 kz vs (xs.map (·.2)).toList:=by
 obtain⟨ps,h1,h2,h3⟩:=ksk_out hk (b:=false) hp hs;exact⟨ps,h1,h2,h3⟩
theorem E5{kz:List Int}{vs:List Value}(J:jU X pins σ R [(a,seqObj "list" #[] e1),(kS,seqObj "list" keys e)] s)(ha:Own X pins a)(hk:Own X pins kS)(hka:kS≠a)(hi:IntsAre keys.toList kz)(hl:kz.length=vs.length)(h64:vs.length<64)
 (h:∀s' out c,jU X pins σ R [(a,seqObj "list" out c)] s'->y6 kz vs out.toList->P (.done (.ret .none)) s'):
 wpAny (model X.prog X.w) A (ksk_end a false vs.toArray e1 (.ref kS) keys) P E s:=by
 have hsz:keys.size=vs.length:=by have:=hi.length;rw[Array.length_toList]at this;omega
 have hzs:(keys.zip vs.toArray).size=vs.length:=by rw[Array.size_zip,hsz,List.size_toArray,Nat.min_self]
 have hbig:vs.length<=sizeLine:=Nat.le_trans (Nat.le_of_lt h64) (by decide);unfold ksk_end;simp only[Bool.false_eq_true,if_false];by_cases h2:vs.toArray.size<2
 . rw[if_pos h2,if_pos h2];refine wpAny_bind (wpAny_pure ?_);rw[StateT.run_pure];refine wpAny_bind (wpAny_pure ?_);refine vz (st:=SortSt.mk' general' (keys.zip vs.toArray) #[] 7 none) J ha hk hka (by omega) (by show(keys.zip vs.toArray).size<=_;omega) rfl fun s' c J'=>h s' _ c J' ?_;refine xS hi (Array.Perm.refl _) fun i j hij hj=>?_;have hj':j<(keys.zip vs.toArray).size:=hj;rw[List.size_toArray]at h2;have:i=j:=by omega
   rw[this];exact Int.le_refl _
 . rw[if_neg h2,if_neg h2];rw[List.size_toArray]at h2;rw[ksk_kind hi (by omega)];refine wpAny_bind (wpAny_pure ?_)
   refine wpAny_bind (wpAny_mono (wpS_sortRuns (a₀:=keys.zip vs.toArray) (st:=SortSt.mk' oneType' (keys.zip vs.toArray) #[] 7 none)
    (Q:=fun _ st'=>(arrOf st').Perm (keys.zip vs.toArray)/\failedOf st'=none/\SortedTo (arrOf st') (keys.zip vs.toArray).size)
    (ksk_intKeys hi) ⟨Array.Perm.refl _,rfl,rfl,rfl⟩ (by omega) (by omega) fun st' b1 b2 b3=>⟨b1,b2,b3⟩) ?_ fun _ _ z=>z)
   rintro⟨⟨⟩,st'⟩ s' ⟨rfl,hp,hf,hs⟩;have hz2:=hp.size_eq;refine vz (st:=st') J ha hk hka (by omega) (by rw[hz2];omega) hf fun s' c J'=>h s' _ c J' (xS hi hp (by rw[hz2];exact hs))
theorem By{f:Value}{kz:List Int}{vs:List Value}(J:jU X pins σ R [(a,seqObj "list" #[] e1),(kS,seqObj "list" #[] 0)] s)(ha:Own X pins a)(hk:Own X pins kS)(hka:kS≠a)(hl:kz.length=vs.length)(h64:vs.length<64)
 (turn:∀(i:Nat) (v:Value) (k:Int),vs[i]?=some v->kz[i]?=some k->∀(own:List (Addr×Obj)) (s:Shared),jU X pins σ R own s->wpAny (model X.prog X.w) A (call f [v]) (fun u s'=>(∃t,u= .int k t)/\jU X pins σ R own s') (fun _ _=>False) s)
 (h:∀s' out c,jU X pins σ R [(a,seqObj "list" out c)] s'->y6 kz vs out.toList->P (.done (.ret .none)) s'):
 wpAny (model X.prog X.w) A (ksk_rest a f false vs.toArray e1 (.ref kS)) P E s:=by
 have hbig:vs.length<=sizeLine:=Nat.le_trans (Nat.le_of_lt h64) (by decide);unfold ksk_rest;refine wpAny_bind (wpAny_rule ?_)
 first
  |rw[List.forIn_toArray]
  |(rw[<-Array.forIn_toList];simp only[List.toList_toArray])
  |rw[<-Array.forIn_toList]
 refine wpAny_bind (ksk_fold (fun i s'=>∃kA e,jU X pins σ R [(a,seqObj "list" #[] e1),(kS,seqObj "list" kA e)] s'/\IntsAre kA.toList (kz.take i)) vs 0 s ⟨#[],0,J,by simpa using IntsAre.nil⟩ ?st ?en)
 case st=>
  rintro j x s' hx ⟨kA,e,J',hk'⟩;simp only[Nat.zero_add]at hk'⊢;have hj:j<vs.length:=(List.getElem?_eq_some_iff.mp hx).1;have hkj:kz[j]?=some (kz[j]'(by omega)):=List.getElem?_eq_getElem _
  have hz:kA.size<=vs.length:=by
   have:=hk'.length;rw[Array.length_toList,List.length_take]at this;omega
  refine wpAny_bind (wpAny_attempt (wpAny_mono (turn j x _ hx hkj _ s' J') (fun v s2 he=>?_) fun _ _ z=>z.elim));obtain⟨⟨t,rfl⟩,J2⟩:=he;obtain⟨H,I,r⟩:=wd J2;have k1:=(eg I).1;have s1:=Heap.SameBut.update s2.heap kS (Obj.mapSeq (·.push (.int (kz[j]'(by omega)) t)));have I1:=kI (t':=s2.toks) I s1 (get?_update_seq k1 (·.push (.int (kz[j]'(by omega)) t))) (fun v z=>by cases z) hk.ge (vt hk hka.symm).ne;refine wpAny_bind (listUpdate_at k1 rfl ?_ (by omega) (Nat.le_trans (Nat.le_of_eq (Array.size_push ..)) (by omega)));refine wpAny_pure ⟨rfl,_,_,z_ I1 r,?_⟩;have ek:kz.take (j+1)=kz.take j++[kz[j]'(by omega)]:=by rw[List.take_add_one,hkj];simp
  rw[ek,Array.toList_push];exact ksk_snoc hk'
 case en=>
  rintro s' ⟨kA,e,J',hk'⟩;rw[show kz.take (0+vs.length)=kz from List.take_of_length_le (by omega)]at hk';obtain⟨H,I,r⟩:=wd J';refine wpAny_bind (listItems_at (eg I).1 rfl ?_);exact E5 J' ha hk hka hk' hl h64 h
theorem zk{f:Addr}{l:Addr}{kz:List Int}{vs:List Value}{H:Hp}{Q:Value->Shared->Prop}(I:Inv X pins σ H s)(r:R H)(hli:s.heap.IsList l vs.toArray)(hl:kz.length=vs.length)(h64:vs.length<64)
 (turn:∀(i:Nat) (v:Value) (k:Int),vs[i]?=some v->kz[i]?=some k->∀(own:List (Addr×Obj)) (s:Shared),jU X pins σ R own s->wpAny (model X.prog X.w) A.in1.in1 (call (.ref f) [v]) (fun u s'=>(∃t,u= .int k t)/\jU X pins σ R own s') (fun _ _=>False) s)
 (h:∀D s' out c,Own X pins D->jU X pins σ R [(D,seqObj "list" out c)] s'->y6 kz vs out.toList->Q (.ref D) s'):
 wpAny (model X.prog X.w) A (call (.builtin "sorted") [.ref l] [(Str.ofString "key",.ref f)]) Q E s:=by
 have hbig:vs.length<=sizeLine:=Nat.le_trans (Nat.le_of_lt h64) (by decide);refine call_function_entry_kw kind_sorted plain_sorted entry_sorted (ksk_s1 _ _) ?_;unfold Builtin.«sorted»;refine wpAny_bind (m:=checkCount "sorted" 1 1 _) (wpAny_pure ?_);refine wpAny_bind (collect_list hli ?_ hbig);have I1:=i9 (o:=seqObj "list" #[] 0) (t':=s.toks) I (fun v z=>by cases z);have s1:=Heap.SameBut.update (s.heap.push (seqObj "list" #[] 0)) s.heap.objs.size (Obj.mapSeq (· ++vs.toArray));have I2:=kI (t':=s.toks) I1 s1 (get?_update_seq (eg I1).1 (· ++vs.toArray)) (fun v z=>by cases z) (oO I).ge (oO I).ne;have I3:Inv X pins σ H {s with heap:=(s.heap.push (seqObj "list" #[] 0)).update s.heap.objs.size (Obj.mapSeq (· ++vs.toArray)),toks:=s.toks}:=I2.fH;refine wpAny_bind (wpAny_newList ?_ hbig);generalize hs3:({s with heap:=(s.heap.push (seqObj "list" #[] 0)).update s.heap.objs.size (Obj.mapSeq (· ++vs.toArray))}:Shared)=s3;have I3':Inv X pins σ H s3:=by rw[<-hs3];exact I3
 have oD:=oO I3';have I4:=i9 (o:=seqObj "list" vs.toArray 0) (t':=s3.toks) I3' (fun v z=>by cases z);have hD:=(eg I4).1;refine wpAny_bind (wpAny_holding (wpAny_call_entry_kw slot_list_sort ⟨_,hD,rfl⟩ entry_list_sort ?body (ksk_l1 _ _)))
 case body=>
  show wpAny (model X.prog X.w) A.in1.in1 (Builtin.«list.sort» ⟨[.ref s3.heap.objs.size],[(Str.ofString "key",.ref f)]⟩) _ _ _;rw[ksk_t1];unfold ksk_tree;refine wpAny_bind (listItems_at hD rfl ?_);have s5:=Heap.SameBut.update (s3.heap.push (seqObj "list" vs.toArray 0)) s3.heap.objs.size (Obj.mapSeq fun _=>(#[]:Array Value));have I5:=kI (t':=s3.toks) I4 s5 (get?_update_seq hD fun _=> #[]) (fun v z=>by cases z) oD.ge oD.ne;have hD5:=(eg I5).1;refine wpAny_bind (listUpdate_at hD rfl ?_ (by rw[List.size_toArray];exact hbig) (Nat.zero_le _));refine wpAny_bind (seqEpoch_at hD5 rfl ?_);refine wpAny_bind (wpAny_newTuple ?_ (by show vs.length<=_;exact hbig));have I6:=(i9 (o:=seqObj "tuple" vs.toArray 0) (t':=s3.toks) I5 (fun v z=>by cases z)).fH;refine wpAny_bind (wpAny_newList ?_ (Nat.zero_le _));have ok:=oO I6;have I7:=i9 (o:=seqObj "list" #[] 0) (t':=s3.toks) I6 (fun v z=>by cases z);refine wpAny_holding ?_
  have okp:Own X pins _:=⟨ok.ge,fun q hq=>ok.ne q (by
   rcases List.mem_append.mp hq with z|z
   . exact List.mem_append_left _ z
   . exact List.mem_append_right _ (List.mem_append_left _ z))⟩
  refine By (z_ I7 r) oD okp (fun z=>ok.ne (s3.heap.objs.size,_) (List.mem_append_right _ (List.mem_append_right _ (List.mem_singleton.mpr rfl))) z.symm) hl h64 turn fun s' out c J' so=>⟨_,rfl,?_⟩
  exact wpAny_pure ⟨_,rfl,h _ s' out c oD J' so⟩
end
structure jW(X:Cx)(scope:Scope)(Nc:List Str)(fr:List (Option Nat))(p:Str):Prop where
 sc:a5 X scope Nc fr
 zQ:∀x∈scope.names,x.2≠ .cell
 co:scope.isCoroutine=false
 gen:scope.isGenerator=false
 p0:Nc[0]?=some p
 f0:fr[0]?=some none
 loc:scope.names.lookup p=some .local
abbrev xU(X:Cx)(scope:Scope)(qual:Str)(f c:Addr)(s:Shared):Env:=PySem.W.envX qual scope s.heap.objs.size f (.ref c) (cp X.env.cells scope.names [])
def zO(X:Cx)(scope:Scope)(Nc:List Str)(qual:Str)(f c:Addr)(s:Shared)(H:Hp):Cx:=
 {X with A:=X.A.in1.in1.deeper (xU X scope qual f c s),N:=Nc,s₀:=s,H₀:=H,env:=xU X scope qual f c s,outer:=X.stack,stack:=xU X scope qual f c s::X.stack,ex:=[],fn:=fun _=>false,calm:=true,pn:=[],xe:=fun _ _=>False}
section
variable {X:Cx}{scope:Scope}{Nc:List Str}{fr:List (Option Nat)}{p qual:Str}{f c:Addr}{pins:List (Addr×Obj)}{σ:L2.St}{H:Hp}{s:Shared}
theorem GV(S:jW X scope Nc fr p)(I:Inv X pins σ H s)(hc:X.calm=true):(zO X scope Nc qual f c s H).Ok where
 mod:=I.ok.mod
 kind:=S.sc.kind
 glob:=rfl
 blt:=rfl
 above:=Nat.le_refl _
 inj:=fun x y a h1 h2=>I.ok.inj x y a (bW _ [] (fun _ _ e=>by cases e) x a h1) (bW _ [] (fun _ _ e=>by cases e) y a h2)
 has:=fun x hx=>by
  have hx':scope.names.lookup x=some .cell\/scope.names.lookup x=some .free:=hx;rcases hx' with hx|hx
  . exact absurd rfl (S.zQ _ (PySem.mem_of_lookup hx))
  . exact gz scope.names [] (I.ok.has x (S.sc.free _ (PySem.mem_of_lookup hx) rfl)) (.inl (PySem.mem_of_lookup hx))
 tu:=fun x a hf _=>by cases hf
 hd:=fun _=>I.ok.hd hc
 frames:=Around.frames_deeper (by show X.A.frames=_;exact I.ok.frames)
 vJ:= .inr ⟨rfl,rfl⟩
 xk:=fun b hb=>by cases hb
 bs:=I.bs
 nq:=Nat.le_trans I.ok.nq I.sz
 nQ:=fun b o e hb=>by cases hb
 oi:=fun b hb=>by cases hb
 gX:=I.stack
 oo:=I.mx
 gt:=I.ok.gt
theorem D1{h':Heap}{t':Nat}{v:V}{u:Value}(S:jW X scope Nc fr p)(I:Inv X pins σ H s)(hc:X.calm=true)(r:RelV v u)(hn:h'.Ns s.heap.objs.size (fun x=>[(p,u)].reverse.lookup x))
 (k:∀b o,s.heap.get? b=some o->h'.get? b=some o):Inv (zO X scope Nc qual f c s H) [] ((σC fr σ).set 0 (some v)) H {s with heap:=h',toks:=t'} where
 ok:=GV S I hc
 os:=rfl
 bare:=I.bare
 base:=Un.kept k
 loc:=⟨_,hn,fun i x w h1 h2 h3=>by
  by_cases hi:i=0
  . subst hi;have hp:=S.p0;have e:p=x:=Option.some.inj (hp.symm.trans h1);subst e
    have hl:0<(σC fr σ).length:=by
     have:=(List.getElem?_eq_some_iff.mp h2).1;rw[List.length_set]at this;exact this
    rw[List.getElem?_set_self hl]at h2;cases h2;exact⟨u,r,.inl ⟨S.loc,by simp⟩⟩
  . rw[List.getElem?_set_ne (Ne.symm hi)]at h2;obtain⟨j,q1,q2⟩:=xy h2;obtain⟨n1,n2,n3⟩:=S.sc.map i j x h1 q1;obtain⟨m,hm,hl⟩:=I.loc;obtain⟨u',r',lk⟩:=hl j x w n1 q2 (n3.elim (fun z=> .inr (.inl z)) fun z=> .inr (.inr z));refine⟨u',r',?_⟩;rcases lk with⟨z,_⟩|⟨_,a,e,ic⟩
    . rcases n3 with y|y<;>(rw[y]at z;cases z)
    . obtain⟨a',e'⟩:=gz scope.names [] ⟨a,e⟩ (.inl (PySem.mem_of_lookup n2));have e2:=bW _ [] (fun _ _ e=>by cases e) x a' e';rw[e]at e2;cases e2;exact .inr ⟨.inr n2,a,e',ic.keeps k⟩⟩
 cell:=fun x a h=>by
  obtain⟨v,q⟩:=I.cell x a (bW _ [] (fun _ _ e=>by cases e) x a h);exact⟨v,q.keeps k⟩
 free:=I.aB.fresh (Nat.le_refl _)
 eS:=fun x a h=>I.eS x a (bW _ [] (fun _ _ e=>by cases e) x a h)
 pin:=fun q hq=>by cases hq
 aB:=I.aB.kept k
 len:=by rw[List.length_set];unfold σC;rw[List.length_map];exact S.sc.len
theorem Co{R:Hp->Prop}{params:Arguments}{body:Expr}{tb:TE}{own:List (Addr×Obj)}{k:Int}{v:V}{u pm ctv:Value}(S:jW X scope Nc fr p)(hc:X.calm=true)(hr:X.A.depth<recursionLimit)
 (hb:∀(s:Shared) (H:Hp),PE (zO X scope Nc qual f c s H) body tb)
 (hbind:∀(cl:List (Str×Addr)) (pm cd ct v:Value),bindArgs (PySem.W.kla_fn "<lambda>" qual params body scope cl pm cd ct) ⟨[v],[]⟩=pure [(p,v)])
 (r:RelV v u) (hf:(f,PySem.W.kla_obj "<lambda>" qual params body scope (cp X.env.cells scope.names []) pm c ctv)∈pins)
 (hcr:∀(H:Hp) (s:Shared),Inv X (pins++own) σ H s->R H->s.heap.CodeRec (.ref c) qual)
 (hq:∀H,R H->tb ((σC fr σ).set 0 (some v)) H fun x H'=>x= .int k/\R H') (J:jU X pins σ R own s):
 wpAny (model X.prog X.w) X.A.in1.in1 (call (.ref f) [u]) (fun u' s'=>(∃t,u'= .int k t)/\jU X pins σ R own s') (fun _ _=>False) s:=by
 obtain⟨H,I,rH⟩:=J;have ho:=(I.pin _ (List.mem_append_right _ (List.mem_append_left _ hf))).1;refine wpAny_call (PySem.W.kla_callFunE (fd:=PySem.W.kla_fn "<lambda>" qual params body scope (cp X.env.cells scope.names []) pm (.ref c) ctv) (by show X.A.depth<_;exact hr) ho rfl S.co S.gen rfl (hcr H s I rH) ?_);rw[hbind]
 refine wpAny_pure (wpAny_newFunctionEnv S.zQ (fun y hy=>by
  have e:y=(p,u):=by simpa using hy
  rw[e];exact S.loc) (fun h₁ hns hsb=>?_) S.sc.kind)
 have hk:∀b o,s.heap.get? b=some o->h₁.get? b=some o:=fun b o e=>hsb.extBut b o (Nat.ne_of_lt (Heap.lt_size e)) (Heap.get?_push_of_some _ e);refine⟨I.nolimit.keeps hk,?_⟩;show codeAny _ X.A.in1.in1 (.expr body (xU X scope qual f c s)) _ _;refine PySem.W.kla_codeExpr (wpAny_mono (hb s H [] _ _ H _ (D1 S I hc r hns hk) (hq H rH)) (fun w s' he=>?_) fun e s' z=>False.elim z);obtain⟨x,H',I',rx,rfl,rH'⟩:=he;exact⟨rx,H',I.uD (s':=s') (ch:=[]) I'.os I'.base I'.aB I'.bare (fun b z=>absurd z (by simp)),rH'⟩
theorem set_same{α:Type}:∀ {l:List α} {n:Nat} {x:α},l[n]?=some x->l.set n x=l
 | [],n,x,h=>by simp at h
 |a::l,0,x,h=>by simp at h;subst h;rfl
 |a::l,n+1,x,h=>by
  rw[List.set_cons_succ,set_same (n:=n) (by simpa using h)]
theorem Ct{params:Arguments}{body:Expr}{lpos:Pos}{c0 T:Addr}{α:List (Option Addr)}{G F:Hp}{st:ag}{n0:Nat}{b:Bool}{E:Value->Shared->Prop}{Q:Value->Shared->Prop}(S:jW X scope Nc fr p)(hcode:X.env.code= .ref c0)(hC:PySem.W.codeHdIn X.K c0 T=true)
 (hdef:defaultsOf params X.env=([],[])) (hql:X.env.qual++"<lambda>"=qual) (I:Inv X pins σ H s) (Sp:bj G F H) (SR:aL α st G) (hn0:st[n0]?=some (.tab T lpos qual b))
 (h:∀(f c:Addr) (ctv pm:Value) (G2 H2:Hp) (s2:Shared),Inv X (pins++[(f,PySem.W.kla_obj "<lambda>" qual params body scope (cp X.env.cells scope.names []) pm c ctv)]) σ H2 s2->Step α G α G2->bj G2 F H2->aL α (st.set n0 (.tab T lpos qual true)) G2->
   (some c∉α/\∃o vs t,G2 c=some (.e9 o (.own c))/\o.data= .fields vs/\vs[1]?=some (.str qual t))->Q (.ref f) s2):
 wpAny (model X.prog X.w) X.A (eval (.Lambda params body scope lpos) X.env) Q E s:=by
 refine PySem.W.kla_eval hdef ?_;rw[hql];rcases SR.at' n0 _ hn0 with⟨z,_⟩|⟨a,ha,rfl,ps,gP,tr,cs⟩
 . cases z
 have hP:=I.aB a _ (Sp.get gP);have hP:s.heap.get? a=some (PySem.W.tabObj ps):=hP;have hg:s.heap.Ns mainGlobals X.mg:=I.mod.glob.keeps I.bk;obtain⟨bm,ob,b1,b2,b3,b4,b5,b6⟩:=I.mod.bmain;have b3':=I.bk _ _ b3
 have hgP:mainGlobals≠a:=fun q=>by
  obtain⟨o,es,ep,e,hd,_⟩:=hg;rw[q,hP]at e;cases e;cases hd
 have n1:bm≠mainGlobals:=fun q=>by
  obtain⟨o,es,ep,e,hd,_⟩:=hg;rw[q,e]at b3';cases b3';rw[hd]at b6;cases b6
 have n2:bm≠a:=fun q=>by rw[q,hP]at b3';cases b3';cases b4
 have hB:s.heap.BuiltinsAt X.mg a:=⟨bm,ob,b1,b2,n1,n2,b3',b4,b5,b6⟩
 have hcl:closureFor scope X.env=pure (cp X.env.cells scope.names []):=jT fun x hx hk=>I.ok.has x.1 (S.sc.free x hx hk);have C:PySem.W.CodeHd s.heap c0 a:=PySem.W.codeHd_of_K I.d5 hC;rcases cs with⟨rfl,hnf⟩|⟨rfl,c,o,vs,t,q1,q2,q3,q4,q5⟩
 . refine PySem.W.kla_makeFunction hcl I.ok.glob hg hcode C hP tr hnf hgP hB fun c' ctv h' tk hx hge hlt hrec htb=>?_;obtain⟨c2,oc,vs,t,e2,hoc,hd,hv⟩:=hrec;cases e2;have hHc:H c'=none:=I.aB.fresh hge;have hGc:G c'=none:=(Sp.none hHc).1;have hHa:H a=some (.g5 ps):=Sp.get gP;have hac:a≠c':=cv hHa hHc
   let ps':=ps++ #[rawInt lpos.line,rawInt lpos.col,.ref c']
   have nb:∀ {b:Addr},H b=none->b≠a:=fun e z=>by rw[z,hHa]at e;cases e
   have I1:Inv X pins σ (upd (upd H c' (.e9 oc (.own c'))) a (.g5 ps')) {s with heap:=h',gens:=s.gens,drawn:=s.drawn,toks:=tk}:=by
    have old:∀ {b:Addr} {u:HO},H b=some u->b≠a->upd (upd H c' (.e9 oc (.own c'))) a (.g5 ps') b=some u:=fun e n=>by rw[az n,az (cv e hHc)];exact e
    refine I.step (ch:=[]) (fun _ z=>nomatch z) (fun b o _ _ _ e n=>hx b o (nb n) e) (fun b o _ _ _ e n=>⟨o.slots,hx b o (nb n) e⟩) (fun b o _ e n=>?_) (fun b o _ e=>?_) (fun b xs e=>?_) (fun b o u e=>?_) (fun b qs e=>?_) (fun m hm=>?_) (fun b u e=>?_) I.bare
    . rw[az (nb n),az (Nat.ne_of_lt (Nat.lt_of_lt_of_le (Heap.lt_size e) hge))];exact n
    . by_cases hb:b=a
      . exact⟨_,by rw[hb];exact htb⟩
      . exact⟨o,hx b o hb e⟩
    . exact old e fun z=>by rw[z,hHa]at e;cases e
    . exact old e fun z=>by rw[z,hHa]at e;cases e
    . by_cases hb:b=a
      . subst hb;rw[hHa]at e;cases e;exact⟨_,aK⟩
      . exact⟨#[],by rw[old e hb];simp⟩
    . obtain⟨o,es,ep,ho,r⟩:=hm;exact⟨o,es,ep,hx _ o (nb I.free) ho,r⟩
    . by_cases hb:b=a
      . subst hb;rw[aK]at e;cases e;exact htb
      . rw[az hb]at e;by_cases hbc:b=c'
        . subst hbc;rw[aK]at e;cases e;exact⟨hoc,_,hoc⟩
        . rw[az hbc]at e;refine(I.aB b u e).jS (fun d w hd q=>hx d w ?_ q) (fun d q=>old q fun z=>by rw[z,hHa]at q;cases q) fun d xs q=>old q fun z=>by rw[z,hHa]at q;cases q
          rcases hd with rfl|hd
          . exact hb
          . intro z;rw[z,hHa]at hd;cases hd
   have I2:=i9 (o:=PySem.W.kla_obj "<lambda>" qual params body scope (cp X.env.cells scope.names []) ((X.mg "__name__").getD .none) c' ctv) (t':=tk) I1 (fun v z=>by cases z);have gP':upd G c' (.e9 oc (.own c')) a=some (.g5 ps):=by rw[az hac];exact gP
   refine h _ c' ctv _ (upd (upd G c' (.e9 oc (.own c'))) a (.g5 ps')) _ _ I2 ((Step.laid hGc).trans (Step.write (List.mem_of_getElem? ha))) ((Sp.laid hHc).write gP') ((SR.laid hGc).write ha ⟨rfl,ps',aK,?_,.inr ⟨rfl,c',oc,vs,t,?_,SR.iH hGc,?_,hd,hv⟩⟩) ⟨SR.iH hGc,oc,vs,t,?_,hd,hv⟩
   . show TriplesOk (ps++ #[rawInt lpos.line,rawInt lpos.col,.ref c']).toList;rw[Array.toList_append];exact TriplesOk_snoc _ _ _ _ tr
   . show codeAmong lpos (ps++ #[rawInt lpos.line,rawInt lpos.col,.ref c']).toList=_;rw[Array.toList_append];exact codeAmong_snoc _ tr hnf
   . rw[az hac.symm,aK]
   . rw[az hac.symm,aK]
 . refine PySem.W.kla_makeFunctionHit hcl I.ok.glob hg hcode C hP tr q1 hB fun ctv h' tk hk hsz=>?_;have I1:=I.kept (t':=tk) hk;have I2:=i9 (o:=PySem.W.kla_obj "<lambda>" qual params body scope (cp X.env.cells scope.names []) ((X.mg "__name__").getD .none) c ctv) (t':=tk) I1 (fun v z=>by cases z);refine h _ c ctv _ G H _ I2 Step.refl Sp (by rw[set_same hn0];exact SR) ⟨q2,o,vs,t,q3,q4,q5⟩
end
def slt(p q:Int×Int):Prop:=p.1<=q.1
def uG(n0:Nat)(T:Addr)(lpos:Pos)(qual:Str)(fr:List (Option Nat))(tb te:DE):DE:=fun σ st K=>te σ st fun d st1=>∃(ns ks:List Int) (b:Bool),d= .lst (ns.map .int)/\ns.length<64/\ns.Pairwise (· < ·)/\ks.length=ns.length/\
 st1[n0]?=some (.tab T lpos qual b)/\(∀(i:Nat) (n k:Int),ns[i]?=some n->ks[i]?=some k->tb ((fE fr σ).set 0 (some (.int n))) (st1.set n0 (.tab T lpos qual true)) fun v st2=>v= .int k/\st2=st1.set n0 (.tab T lpos qual true))/\
 ∀os:List (Int×Int),os.Perm (ks.zip ns)->os.Pairwise slt->K (.lst (os.map fun p=> .int p.2)) (st1.set n0 (.tab T lpos qual true))
theorem vd{α:List (Option Addr)}{H:Hp}:∀ {ns:List Int} {vs:List V},aG α H (ns.map D.int) vs->vs=ns.map V.int
 | [],vs,h=>by unfold aG at h;exact h
 |n::ns,vs,h=>by
  unfold aG at h;obtain⟨v,r,rfl,h1,h2⟩:=h;unfold Rep at h1;rw[h1,vd h2];rfl
theorem u9{α:List (Option Addr)}{H:Hp}:∀(ns:List Int),aG α H (ns.map D.int) (ns.map V.int)
 | []=>by unfold aG;rfl
 |n::ns=>by unfold aG;exact⟨_,_,rfl,by unfold Rep;rfl,u9 ns⟩
theorem vL:∀ {ns:List Int} {us:List Value},Vals (ns.map V.int) us->IntsAre us ns
 | [],_,.nil=> .nil
 |n::ns,_,.cons ⟨t,rfl⟩ h=> .cons n t (vL h)
section
variable {X:Cx}{scope:Scope}{Nc:List Str}{fr:List (Option Nat)}{p x qual:Str}{params:Arguments}{e body:Expr}{te tb:DE}{lpos kpos pos ppos:Pos}{c0 T:Addr}{n0:Nat}
theorem Fs(S:jW X scope Nc fr p)(hc:X.calm=true)(hr:bO 2 X.A)(hcode:X.env.code= .ref c0)(hC:PySem.W.codeHdIn X.K c0 T=true)(hdef:defaultsOf params X.env=([],[]))(hql:X.env.qual++"<lambda>"=qual)
 (hbind:∀(cl:List (Str×Addr)) (pm cd ct v:Value),bindArgs (PySem.W.kla_fn "<lambda>" qual params body scope cl pm cd ct) ⟨[v],[]⟩=pure [(p,v)])
 (hb:∀(f c:Addr) (s:Shared) (H:Hp),PE (zO X scope Nc qual f c s H) body (LE tb)) (ha:PA X [e] (LA (af te ak)))
 (hg:Gl X "sorted") (hm:X.mg "sorted"=none) (hv:bootBuiltins "sorted"=some (.builtin "sorted"))
 (he:backTo pos (starEach [e] X.env)=(false,eval e X.env)::backTo pos (starEach [] X.env):=by rfl) (hpl:(backTo pos (starEach [e] X.env)).any (·.1)=false:=by rfl):
 PE X (.Call (.Name "sorted" ppos) [e] [⟨some "key",.Lambda params body scope lpos,kpos⟩] pos) (LE (uG n0 T lpos qual fr tb te)):=by
 intro pins s σ H Q I h;obtain⟨α,σd,st,K,G,F,Sp,RS,SR,t,k⟩:=h;refine wpAny_Call_Name_kw (jH I hg hm hv ?_);refine callWith_kw ?_ he hpl
 let K1:DK:=fun d st1=>∃(ns ks:List Int) (b:Bool),d= .lst (ns.map .int)/\ns.length<64/\ns.Pairwise (· < ·)/\ks.length=ns.length/\
  st1[n0]?=some (.tab T lpos qual b)/\(∀(i:Nat) (n k:Int),ns[i]?=some n->ks[i]?=some k->tb ((fE fr σd).set 0 (some (.int n))) (st1.set n0 (.tab T lpos qual true)) fun v st2=>v= .int k/\st2=st1.set n0 (.tab T lpos qual true))/\
  ∀os:List (Int×Int),os.Perm (ks.zip ns)->os.Pairwise slt->K (.lst (os.map fun p=> .int p.2)) (st1.set n0 (.tab T lpos qual true))
 refine bp (ha pos pins s σ H (fun vs H1=>∃d v st1 α1 G1,vs=[v]/\K1 d st1/\Step α G α1 G1/\bj G1 F H1/\aL α1 st1 G1/\Rep α1 G1 d v) I
  ⟨α,σd,st,fun ds st1=>match ds with| [d]=>K1 d st1|_=>False,G,F,Sp,RS,SR,t,fun ds st1 q α1 G1 H1 vs s1 P1 S1 r1=>?_⟩) fun us s1 ⟨vs,H1,I1,rv,d,v,st1,α1,G1,hvs,kd,s1',P1,S1,r1⟩=>?_
 . match ds,q,r1 with
   | [d],q,r1=>
     unfold aG at r1;obtain⟨v,r,rfl,h1,h2⟩:=r1;unfold aG at h2;subst h2;exact⟨d,v,st1,α1,G1,rfl,q,s1,P1,S1,h1⟩
 subst hvs;obtain⟨ns,ks,b,rfl,h64,hup,hlen,hn0,hkey,hK⟩:=kd;show wpAny _ _ (evalAll ((do let v <-eval (.Lambda params body scope lpos) X.env;standAt pos;pure v)::[])) _ _ s1;refine wpAny_evalAll_cons (wpAny_bind (Ct S hcode hC hdef hql I1 P1 S1 hn0 fun f c ctv pm G2 H2 s2 I2 st2 P2 S2 ⟨hc1,o,vs,tq,hc2,hc3,hc4⟩=>wpAny_bind (wpAny_standAt (wpAny_pure (wpAny_evalAll_nil ?_)))));have r2:=r1.step st2;unfold Rep at r2;obtain⟨l,xs,rfl,hl1,hl2,hl3⟩:=r2;have exs:=vd hl3;subst exs;cases rv with
 |cons ru rn=>
  cases rn;cases ru
  have hrd:Rd H2 l (.lst (ns.map V.int)):=by
   rcases hl2 with z|⟨w,z⟩
   . exact .inl (P2.get z)
   . exact .inr ⟨w,P2.get z⟩
  obtain⟨_,its,nn,vv,hobj⟩:=hrd.ok I2.aB;have hints:=vL vv;have hlen2:=hints.length;have key:∀(H':Hp),(∃α' G',Step α1 G2 α' G'/\bj G' F H'/\aL α' (st1.set n0 (.tab T lpos qual true)) G')->H' c=some (.e9 o (.own c)):=fun H' ⟨α',G',q1,q2,q3⟩=>q2.get (q1.ext c _ hc1 hc2);show wpAny _ _ (call (.builtin "sorted") [.ref l] [(Str.ofString "key",.ref f)]) _ _ _
  refine zk (X:=X) (pins:=pins++[(f,PySem.W.kla_obj "<lambda>" qual params body scope (cp X.env.cells scope.names []) pm c ctv)]) (R:=fun H'=>∃α' G',Step α1 G2 α' G'/\bj G' F H'/\aL α' (st1.set n0 (.tab T lpos qual true)) G') (kz:=ks) (vs:=its)
   I2 ⟨α1,G2,Step.refl,P2,S2⟩ ⟨_,hobj,rfl,nn,rfl⟩ (by omega) (by omega) (fun i u kk hu hk own s' J=>?_) fun D s' out cc oD J so=>?_
  . have hi:i<ns.length:=by
     have:=(List.getElem?_eq_some_iff.mp hu).1;omega
    obtain⟨tt,ht⟩:=hints.get i ns[i] (List.getElem?_eq_getElem hi);have ht:some u=some (Value.int ns[i] tt):=by rw[<-hu];exact ht
    cases ht;refine Co (v:= .int ns[i]) (u:= .int ns[i] tt) S hc (by have:=hr.dp;omega) (hb f c) hbind ⟨tt,rfl⟩ (List.mem_append_right _ (List.mem_singleton.mpr rfl)) (fun H' s'' J' r'=>?_) (fun H' r'=>?_) J
    . have q:=J'.aB c _ (key H' r');exact⟨c,o,vs,tq,rfl,q.1,hc3,hc4⟩
    . obtain⟨α',G',q1,q2,q3⟩:=r';refine⟨α',(fE fr σd).set 0 (some (.int ns[i])),_,_,G',F,q2,?_,q3,hkey i ns[i] kk (List.getElem?_eq_getElem hi) hk,fun d' st' hd α'' G'' H'' v' s'' P'' S'' r''=>?_⟩
      . exact((RS.step ((s1'.trans st2).trans q1)).comp).set 0 (by unfold Rep;rfl)
      . obtain⟨rfl,rfl⟩:=hd;unfold Rep at r'';exact⟨r'',α'',G'',q1.trans s'',P'',S''⟩
  . obtain⟨H',I',α',G',q1,q2,q3⟩:=J;obtain⟨ps,hp,ho,hs⟩:=so
    have hps:∀q∈ps,∃t,q.2= .int (numOf q.2) t:=fun q hq=>by
     have h1:=hp.mem_iff.mp hq;have h2:q.2∈its:=(List.of_mem_zip (show(q.1,q.2)∈ks.zip its from h1)).2;obtain⟨n,t,e⟩:=hints.all _ h2;exact⟨t,by rw[e];rfl⟩
    have hos:(ps.map fun q=>(q.1,numOf q.2)).Perm (ks.zip ns):=by
     have h1:=hp.map fun q:Int×Value=>(q.1,numOf q.2)
     have e:(ks.zip its).map (fun q:Int×Value=>(q.1,numOf q.2))=ks.zip ns:=by
      rw[<-hints.nums,List.zip_map_right];exact List.map_congr_left fun⟨a,b⟩ _=>rfl
     rw[e]at h1;exact h1
    have hpw:(ps.map fun q=>(q.1,numOf q.2)).Pairwise slt:=by rw[List.pairwise_map];exact hs
    have kk:=hK _ hos hpw;rw[List.map_map]at kk;have hD0:=eg I'
    have vout:Vals ((ps.map fun q=>numOf q.2).map V.int) out.toList:=by
     rw[ho];clear hos hpw kk hs hp ho;induction ps with
     |nil=>exact .nil
     |cons q r ih=>
      obtain⟨t,e⟩:=hps q (List.mem_cons_self ..);exact .cons ⟨t,e⟩ (ih fun z hz=>hps z (List.mem_cons_of_mem _ hz))
    have hlo:(ps.map fun q=>numOf q.2).length<=sizeLine:=by
     rw[List.length_map,hp.length_eq,List.length_zip];exact Nat.le_trans (Nat.min_le_left _ _) (Nat.le_trans (show ks.length<=64 by omega) (by decide))
    have I3:=AZ (u:= .lst ((ps.map fun q=>numOf q.2).map V.int)) I' oD.ge oD.ne ⟨by rw[List.length_map];exact hlo,out.toList,cc,vout,hD0.1⟩;have hG:=(q2.none hD0.2.1).1;refine⟨.ref D,_,I3.fH,rfl,k _ _ kk α' _ _ _ ((s1'.trans st2).trans (q1.trans (Step.laid hG))) (q2.laid hD0.2.1) (q3.laid hG) ?_⟩;unfold Rep;refine⟨D,_,rfl,q3.iH hG,.inl aK,?_⟩;have e:List.map ((fun p:Int×Int=>L3.D.int p.snd)∘fun q:Int×Value=>(q.fst,numOf q.snd)) ps=(ps.map fun q=>numOf q.2).map L3.D.int:=by rw[List.map_map];rfl
    rw[e];exact u9 _
end
end L3
namespace L3
open PySem L2
open PySem.Spec hiding items?
open PyProof.Rows hiding St
def Bv(sc:Scope)(N gl:List Str):Bool:=
 N.all (fun x=>(sc.names.lookup x==some .local||sc.names.lookup x==some .cell)&&x != "__debug__"&&x != "__classdict__")&&gl.all (fun x=>sc.names.lookup x==some .globalImplicit&&x != "__debug__")
structure VS(sc:Scope)(N gl:List Str):Prop where
 ok:Bv sc N gl=true
theorem VS.at_{sc:Scope}{N gl:List Str}(V:VS sc N gl){i:Nat}{x:Str}(h:N[i]?=some x):Loc sc x/\(x==("__debug__":Str))=false/\(x==("__classdict__":Str))=false:=by
 have o:=V.ok;unfold Bv at o;have:=List.all_eq_true.mp (Bool.and_eq_true_iff.mp o).1 x (List.mem_of_getElem? h);simp only[Bool.and_eq_true,Bool.or_eq_true,beq_iff_eq,bne_iff_ne,ne_eq]at this;exact⟨this.1.1,beq_false_of_ne this.1.2,beq_false_of_ne this.2⟩
theorem VS.Ke{sc:Scope}{N gl:List Str}(V:VS sc N gl){i:Nat}{x:Str}(h:gl[i]?=some x):sc.names.lookup x=some .globalImplicit/\(x==("__debug__":Str))=false:=by
 have o:=V.ok;unfold Bv at o;have:=List.all_eq_true.mp (Bool.and_eq_true_iff.mp o).2 x (List.mem_of_getElem? h);simp only[Bool.and_eq_true,beq_iff_eq,bne_iff_ne,ne_eq]at this;exact⟨this.1,beq_false_of_ne this.2⟩
section
variable {X:Cx}{sc:Scope}{N gl:List Str}{x:Str}{pos:Pos}
theorem VS.nm(V:VS X.env.scope X.N gl)(i:Nat)(h:X.N[i]?=some x:=by rfl):JE X (.Name x pos) (ae i):=
 let q:=V.at_ h
 zD q.2.1 q.2.2 (q.1.elim .inl fun z=> .inr (.inl z)) h
theorem VS.l(V:VS sc N gl)(i:Nat)(h:N[i]?=some x:=by rfl):Loc sc x:=(V.at_ h).1
theorem VS.g(V:VS sc N gl)(i:Nat)(h:gl[i]?=some x:=by rfl):sc.names.lookup x=some .globalImplicit:=(V.Ke h).1
theorem VS.d(V:VS sc N gl)(i:Nat)(h:gl[i]?=some x:=by rfl):(x==("__debug__":Str))=false:=(V.Ke h).2
theorem cL{n:Nat}(hN:X.N[n]?=some x:=by rfl)(hd:((x==("__debug__":Str))||(x==("__classdict__":Str)))=false:=by decide+kernel)
 (hv:tL X.env.scope x:=by first|exact Or.inl rfl|exact Or.inr (Or.inl rfl)|exact Or.inr (Or.inr rfl)):JE X (.Name x pos) (ae n):=
 zD (Bool.or_eq_false_iff.mp hd).1 (Bool.or_eq_false_iff.mp hd).2 hv hN
@[irreducible] def mB:cx:=tV (fun _ j=>j≠0) fun i j=> .int (i.fdiv j)
theorem xm{k:Nat}(hr:bO k X.A)(hs:X.stack=X.env::X.outer)(hgen:X.env.scope.isGenerator=false)(hco:X.env.scope.isCoroutine=false):bG X (binaryOp .FloorDiv) (LR mB):=by
 unfold mB;refine kG (g':=fun i j=> .int (i.fdiv j)) (fun _ _ _ _=>by unfold Rep;rfl) ?_;intro pins s σ H x y v u Q I rx ry h;obtain⟨i,j,rfl,rfl,hc,q⟩:=h;obtain⟨t,rfl⟩:=rx;obtain⟨t',rfl⟩:=ry;refine floordiv_int hc ⟨.int (i.fdiv j),H,I.tok _,⟨_,rfl⟩,q⟩ (.inr (PySem.PylongRoom.of I.nolimit ?_ ?_))
 . have:=hr.dp;show X.A.depth+100<_;omega
 . exact PySem.SeerAt.of (env:=X.env) (l:=X.outer) (I.mod.seer.keeps I.bk) I.ok.gt (by rw[I.ok.frames,hs]) hgen hco I.ok.blt I.ok.glob
theorem wu{st:ag}{K:DK}{i j:Int}(h0:j≠0)(k:K (.int (i.fdiv j)) st):mB (.int i) (.int j) st K:=by unfold mB;exact⟨h0,k⟩
theorem jW.look{scope:Scope}{Nc:List Str}{fr:List (Option Nat)}{p:Str}(S:a5 X scope Nc fr)(h:(scope.names.all (fun x=>x.2 != .cell)&&(!scope.isCoroutine&& !scope.isGenerator)&&(scope.names.lookup p==some .local))=true:=by decide+kernel)
 (p0:Nc[0]?=some p:=by rfl) (f0:fr[0]?=some none:=by rfl):jW X scope Nc fr p:=by
 simp only[Bool.and_eq_true,Bool.not_eq_true',beq_iff_eq]at h;exact⟨S,fun x hx=>by simpa using List.all_eq_true.mp h.1.1 x hx,h.1.2.1,h.1.2.2,p0,f0,h.2⟩
theorem D3{scope:Scope}{Nc:List Str}{fr:List (Option Nat)}{p qual:Str}{params:Arguments}{e body:Expr}{te tb:DE}{lpos kpos pos ppos:Pos}{c0 T:Addr}{n0 k:Nat}(S:jW X scope Nc fr p)(hc:X.calm=true)(hr:bO k X.A)(hcode:X.env.code= .ref c0)(hC:PySem.W.codeHdIn X.K c0 T=true)
 (hb:∀(f c:Addr) (s:Shared) (H:Hp),JE (zO X scope Nc qual f c s H) body tb) (he:JE X e te) (hg:X.env.kindOf "sorted"=some .globalImplicit) (hm:X.mg "sorted"=none)
 (hdef:defaultsOf params X.env=([],[]):=by rfl) (hql:X.env.qual++"<lambda>"=qual:=by rfl)
 (hbind:∀(cl:List (Str×Addr)) (pm cd ct v:Value),bindArgs (PySem.W.kla_fn "<lambda>" qual params body scope cl pm cd ct) ⟨[v],[]⟩=pure [(p,v)]:=by(intros;rfl)) (hk:2<=k:=by decide)
 (he1:starEach [e] X.env=(false,eval e X.env)::starEach [] X.env:=by rfl):
 JE X (.Call (.Name "sorted" ppos) [e] [⟨some "key",.Lambda params body scope lpos,kpos⟩] pos) (uG n0 T lpos qual fr tb te):=by
 unfold JE at he hb⊢;refine Fs S hc (hr.mono hk) hcode hC hdef hql hbind hb (mi he oy he1) hg hm rfl ?_ ?_
 . rw[he1];rfl
 . rw[he1];rfl
end
structure G0(K:PySem.W.Frag)(x qual:Str)(st:Stmt)(f:Addr)(fd:FuncData)(c:Addr):Prop where
 ex:∃(oc:Value) (od:Option Addr) (kV doc pm:Value) (an:Option Addr) (ct:Value) (osl:Array (Option Value)),
  fd=PySem.W.fnOf x qual (iC st) (d_ st) (ai st) .none kV doc pm an (.ref c) ct/\K.lookup f=some ⟨oc,od,.func fd,osl⟩/\PySem.W.codeIn K (.ref c) qual=true
theorem GX{P:Program}{w:World}{K:PySem.W.Frag}{mg:Str->Option Value}{base:Heap}{x qual:Str}{st:Stmt}{f c:Addr}{fd:FuncData}{N ps:List Str}{k:Nat}{sp:cq}{t:DS}(F:G0 K x qual st f fd c)(S:aY N ps (ai st))
 (hbody:∀(A:Around) (outer:List Env) (s:Shared) (H:Hp) (E:XK),bO k (A.deeper (envOfC qual (ai st) s.heap.objs.size f (.ref c)))->JB (eE cz P w K mg base N qual (ai st) f (.ref c) A outer s H E).gb (d_ st) t)
 (hsp:∀ds st K,sp ds st K->ds.length=ps.length/\t {nx:=fun _ st'=>K .aC st',rt:=K} (a7 N ds) st):bf P w K mg base cz (k+1) f fd ps (cH sp):=by
 obtain⟨oc,od,kV,doc,pm,an,ct,osl,rfl,lk,hcd⟩:=F.ex;unfold JB at hbody;refine zm lk hcd S (fun vs H Q E h=>?_) fun A outer s H vs Q E hr h=>?_
 . obtain⟨α,ds,st,K,G,F,P,R,S,q,k⟩:=h;rw[<-R.length];exact(hsp ds st K q).1
 . obtain⟨α,ds,st,K,G,F',P,R,SR,q,k⟩:=h;refine⟨_,(hbody A outer s H E hr).gb,α,a7 N ds,st,_,G,F',P,cC.start R,SR,(hsp ds st K q).2,?_,k,?_,?_⟩
   . intro σd' st' kk α' G' H' σ' s' P' R' S';exact k .aC st' kk α' G' H' .aC s' P' S' (by unfold Rep;rfl)
   . intro σd' st' kk;exact kk.elim
   . intro σd' st' kk;exact kk.elim
def AH(tl:List (Addr×Pos×Str)):cq:=fun ds st K=>∃ns:List Int,ds=[.lst (ns.map .int)]/\ns.length<=63/\st=tl.map (fun q=> .tab q.1 q.2.1 q.2.2 false)/\∀st',K (.bl true) st'
def zF(K:PySem.W.Frag)(ts:List (Addr×Addr)):Sp:=fun vs H Q _=>∃(a:Addr) (ns:List Int),vs=[.ref a]/\Entry K ts a ns H/\ns.length<=63/\∀H',Q (.bl true) H'
theorem zI{K:PySem.W.Frag}{ts:List (Addr×Addr)}{tl:List (Addr×Pos×Str)}(nl:zG K=true)(hts:ts.map (·.2)=tl.map (·.1))(nd:(tl.map (·.1)).Nodup){vs:List V}{H:Hp}{Q:VK}{E:XK}(h:zF K ts vs H Q E):cH (AH tl) vs H Q E:=by
 obtain⟨a,ns,rfl,hE,hl,q⟩:=h
 have tabs:∀q∈tl,H q.1=some (.g5 #[])/\q.1≠a:=fun q hq=>by
  have h1:q.1∈ts.map (·.2):=by rw[hts];exact List.mem_map_of_mem hq
  obtain⟨t,ht,e⟩:=List.mem_map.mp h1;rw[<-e];exact hE.tab t ht
 have at_:∀(i:Nat) (x:Addr),(tl.map fun q=>some q.1)[i]?=some (some x)->∃q,tl[i]?=some q/\q.1=x:=fun i x e=>by
  rw[List.getElem?_map]at e;cases z:tl[i]? with
  |none=>rw[z]at e;cases e
  |some w=>rw[z]at e;simp at e;exact⟨w,rfl,e⟩
 have nota:some a∉tl.map fun q=>some q.1:=fun z=>by
  obtain⟨w,hw,e⟩:=List.mem_map.mp z;exact(tabs w hw).2 (Option.some.inj e)
 rcases hE.lst with hS|⟨o,its,n,e,hc,_⟩
 . refine⟨tl.map fun q=>some q.1,[.lst (ns.map .int)],tl.map (fun q=> .tab q.1 q.2.1 q.2.2 false),fun d _=>d= .bl true,H,fun _=>none,⟨fun b=>by cases H b<;>rfl,fun _ _ _=>rfl⟩,?_,⟨by simp,fun i j x e1 e2=>?_,fun n c e=>?_⟩,⟨ns,rfl,hl,rfl,fun _=>rfl⟩,?_⟩
   . unfold aG;refine⟨.ref a,[],rfl,?_,by unfold aG;rfl⟩;unfold Rep;exact⟨a,ns.map V.int,rfl,nota,hS,tW ns⟩
   . obtain⟨p,hp,e3⟩:=at_ i x e1;obtain⟨r,hr,e4⟩:=at_ j x e2;have k1:(tl.map (·.1))[i]?=some x:=by rw[List.getElem?_map,hp,<-e3];rfl
     have k2:(tl.map (·.1))[j]?=some x:=by rw[List.getElem?_map,hr,<-e4];rfl
     have hi:=(List.getElem?_eq_some_iff.mp k1).1;exact(List.getElem?_inj hi nd).mp (k1.trans k2.symm)
   . rw[List.getElem?_map]at e;cases z:tl[n]? with
     |none=>rw[z]at e;cases e
     |some w=>
      rw[z]at e;have e':Cell.tab w.1 w.2.1 w.2.2 false=c:=Option.some.inj e;subst e';refine .inr ⟨w.1,by rw[List.getElem?_map,z];rfl,rfl,#[],(tabs w (List.mem_of_getElem? z)).1,trivial,.inl ⟨rfl,rfl⟩⟩
   . rintro d st' rfl α' G' H' v _ _ _ r;unfold Rep at r;subst r;exact q H'
 . exact absurd hc (ui nl e)
section
variable {K:PySem.W.Frag}{x qual p1 p2 p3 p4 p5:Str}{st:Stmt}{f:Addr}{fd:FuncData}
abbrev pR(x qual:Str)(st:Stmt)(kV doc pm:Value)(an:Option Addr)(cdv ct:Value):FuncData:=PySem.W.fnOf x qual (iC st) (d_ st) (ai st) .none kV doc pm an cdv ct
theorem fh{α:Type}{n:Nat}{us:List α}(h:us.length=n+1):∃a r,us=a::r/\r.length=n:=by
 cases us with
 |nil=>cases h
 |cons a r=>exact⟨a,r,rfl,Nat.succ.inj h⟩
theorem oX{α:Type}{us:List α}(h:us.length=0):us=[]:=List.length_eq_zero_iff.mp h
theorem Lv(F:jy K x qual st f fd)(h:∀kV doc pm an cdv ct a,bindArgs (pR x qual st kV doc pm an cdv ct) ⟨[a],[]⟩=pure [(p1,a)]):Binds K fd [p1] []:=
 F.binds fun kV doc pm an cdv ct us hl=>by
  obtain⟨a,r1,rfl,h1⟩:=fh hl;cases oX h1;exact h kV doc pm an cdv ct a
theorem Ki(F:jy K x qual st f fd)(h:∀kV doc pm an cdv ct a b,bindArgs (pR x qual st kV doc pm an cdv ct) ⟨[a,b],[]⟩=pure [(p1,a),(p2,b)]):Binds K fd [p1,p2] []:=
 F.binds fun kV doc pm an cdv ct us hl=>by
  obtain⟨a,r1,rfl,h1⟩:=fh hl;obtain⟨b,r2,rfl,h2⟩:=fh h1;cases oX h2;exact h kV doc pm an cdv ct a b
theorem J4(F:jy K x qual st f fd)(h:∀kV doc pm an cdv ct a b c,bindArgs (pR x qual st kV doc pm an cdv ct) ⟨[a,b,c],[]⟩=pure [(p1,a),(p2,b),(p3,c)]):Binds K fd [p1,p2,p3] []:=
 F.binds fun kV doc pm an cdv ct us hl=>by
  obtain⟨a,r1,rfl,h1⟩:=fh hl;obtain⟨b,r2,rfl,h2⟩:=fh h1;obtain⟨c,r3,rfl,h3⟩:=fh h2;cases oX h3;exact h kV doc pm an cdv ct a b c
theorem Lz(F:jy K x qual st f fd)(h:∀kV doc pm an cdv ct a b c d,bindArgs (pR x qual st kV doc pm an cdv ct) ⟨[a,b,c,d],[]⟩=pure [(p1,a),(p2,b),(p3,c),(p4,d)]):Binds K fd [p1,p2,p3,p4] []:=
 F.binds fun kV doc pm an cdv ct us hl=>by
  obtain⟨a,r1,rfl,h1⟩:=fh hl;obtain⟨b,r2,rfl,h2⟩:=fh h1;obtain⟨c,r3,rfl,h3⟩:=fh h2;obtain⟨d,r4,rfl,h4⟩:=fh h3;cases oX h4;exact h kV doc pm an cdv ct a b c d
end
section
variable {X:Cx}
end
theorem mP{A B:Type}{F:A->B->Prop}:∀ {xs zs:List A} {ys us:List B},Paired F xs ys->Paired F zs us->Paired F (xs++zs) (ys++us)
 |_,_,_,_,.nil,h=>h
 |_,_,_,_,.cons r t,h=> .cons r (mP t h)
section
variable {X:Cx}
def HY:V->List V->Hp->VK->Prop:=fun x vs H Q=>∃(l b:Addr) (xs ys:List V),x= .ref l/\vs=[.ref b]/\H l=some (.lst xs)/\Rd H b (.lst ys)/\xs.length+ys.length<=sizeLine/\Q .aC (upd H l (.lst (xs++ys)))
theorem FY:HS X "list.extend" HY:=by
 intro pins s σ H x vs v us Q I rx rv h;obtain⟨l,b,xs,ys,rfl,rfl,hH,hb,hz,q⟩:=h;cases rx;obtain⟨u,rfl,ru⟩:=vals1 rv;cases ru;obtain⟨z,its,n,r,hl,e⟩:=I.BN hH;obtain⟨z2,its2,n2,r2,hl2,e2⟩:=Inv.sG I hb;have hsz:its.toArray.size+its2.toArray.size<=sizeLine:=by rw[List.size_toArray,List.size_toArray,<-hl,<-hl2];exact hz
 have M:=AutoSeq1.list_extend_list_list_0 l its.toArray n b its2.toArray n2 (extend_door hsz) (Nat.le_trans (Nat.le_add_right _ _) hsz) (Nat.le_succ_of_le hsz);refine call_meets F.slot_list_extend ⟨_,e,rfl⟩ F.entry_list_extend (F.args_list_extend_2 _ _) M ⟨e,e2,?_⟩;refine⟨.aC,_,I.BI (its':=its++its2) hH e (by rw[List.append_toArray]) (mP r r2) ?_,rfl,q⟩;rw[List.length_append];exact hz
def jZ:DM:=fun n ds st K=>match ds with
 | [.lst ys]=>(match st[n]? with|some (.lst xs)=>xs.length+ys.length<=sizeLine/\K .aC (st.set n (.lst (xs++ys)))|_=>False)
 |_=>False
theorem Ai:LiftM jZ HY:=by
 intro α G F H st K Q n a ds ws P S ea rs q k;unfold jZ at q;split at q
 . rename_i ys;split at q
   . rename_i xs e;obtain⟨h3,q⟩:=q;obtain⟨v,rfl,r1⟩:=fJ rs rfl;unfold Rep at r1;obtain⟨b,us,rfl,nb,hb,r2⟩:=r1;obtain⟨a',ea',vs,g1,g2⟩:=S.eX e;rw[ea]at ea';cases ea';have hl:=g2.length;have hl2:=r2.length;have hm:some a∈α:=List.mem_of_getElem? ea;refine⟨a,b,vs,us,rfl,rfl,P.get g1,eK P hb,by omega,?_⟩;refine k .aC _ q α (upd G a (.lst (vs++us))) _ .aC (Step.write hm) (P.write g1) ?_ (by unfold Rep;rfl);exact S.write ea ⟨vs++us,aK,(aI.mpr (mP (aI.mp g2) (aI.mp r2))).step (Step.write hm)⟩
   . exact q.elim
 . exact q.elim
theorem Di{o e:Expr}{to te:DE}{apos cpos:Pos}(ho:JE X o to)(he:JE X e te)(hbase:attributeBase o "extend" X.env (eval o X.env)=eval o X.env:=by rfl)(hline:(apos.endLine==cpos.line)=true:=by rfl)(hs:notStar e=true:=by rfl):JE X (.Call (.Attribute o "extend" apos) [e] [] cpos) (g8 jZ to (af te ak)):=by
 unfold JE at*;refine An Ai PySem.F.slot_list_extend PySem.F.type_list_extend FY ho (mi he oy (bw hs)) hbase ?_ hline (bw hs) rfl;rw[bw hs];rfl
end
theorem A6{σ:a_}{st:ag}{K:DK}{n:Nat}{xs:List D}{to:DE}{ta:DA}(ho:∀K',K' (.ref n) st->to σ st K')(e:st[n]?=some (.lst xs))(ha:ta σ st fun ds st2=>(∃ys,st2[n]?=some (.lst ys))/\jZ n ds st2 K):g8 jZ to ta σ st K:=by
 unfold g8;refine ho _ ?_;simp only[e];exact ha
theorem F4{st2:ag}{K:DK}{n:Nat}{xs ys:List D}(e2:st2[n]?=some (.lst xs))(h:xs.length+ys.length<=sizeLine)(k:K .aC (st2.set n (.lst (xs++ys)))):(∃ys,st2[n]?=some (.lst ys))/\jZ n [.lst ys] st2 K:=by
 refine⟨⟨xs,e2⟩,?_⟩;unfold jZ;simp only[e2];exact⟨h,k⟩
section
variable {X:Cx}
def gb(X:Cx):Cx:={X with xe:=fun _ _=>False}
end
variable {st:ag}{K:D->ag->Prop}{i j:Int}
section
variable {X:Cx}{pos:Pos}
end
end L3
namespace L3
open PySem L2
structure ClsAt(K:PySem.W.Frag)(mg:Str->Option Value)(x:Str)(C:Addr):Prop where
 cl:kR K C
 mg:mg x=some (.ref C)
 Ly:PySem.W.makesIn K C=true
 kp:PySem.W.keepIn K (.ref C)=true
structure MethAt(K:PySem.W.Frag)(C:Addr)(m qual:Str)(st:Stmt)(ps:List Str)(f:Addr)(fd:FuncData):Prop where
 fn:jy K m qual st f fd
 me:Meth K C m f
 bd:Binds K fd ps []
end L3
namespace Hd
open PySem PySem.W L2 L3
open PySem.Spec hiding items?
open PyProof.Rows hiding St
section
variable {K:Frag}{mg:Str->Option Value}{h:Heap}{x q:Str}{st:Stmt}{f c C:Addr}{pm:Value}{p1 p2 p3 p4 p5 p6:Str}
abbrev Ed(K:Frag)(x:Str)(st:Stmt)(f:Addr)(pm:Value)(c:Addr):Prop:=(nsIn K mainGlobals x,K.lookup f,codeIn K (.ref c) x,keepIn K (.ref f))=(some (some (.ref f)),some (fq st x x pm c),true,true)
abbrev Em(K:Frag)(C:Addr)(x q:Str)(st:Stmt)(f:Addr)(pm:Value)(c:Addr):Prop:=(findIn K (.ref C) x,isFn K (.ref f),K.lookup f,codeIn K (.ref c) q,keepIn K (.ref f))=(some (some (.ref f)),true,some (fq st x q pm c),true,true)
theorem Ed.fn(e:Ed K x st f pm c):jy K x x st f (fd st x x pm c)/\nsIn K mainGlobals x=some (some (.ref f)):=by
 obtain⟨e1,e2,e3,e4⟩:_/\_/\_/\_:=by simpa only[Prod.mk.injEq]using e
 exact⟨Ao (st:=st) e2 e3 e4,e1⟩
theorem Em.fn(e:Em K C x q st f pm c):jy K x q st f (fd st x q pm c)/\Meth K C x f:=by
 obtain⟨e1,e2,e3,e4,e5⟩:_/\_/\_/\_/\_:=by simpa only[Prod.mk.injEq]using e
 exact⟨Ao (st:=st) e3 e4 e5,e1,e2,e5⟩
theorem pF(X:K.In h)(G:h.Ns mainGlobals mg)(e:Ed K x st f pm c)(b:∀kV doc pm an cdv ct a,bindArgs (pR x x st kV doc pm an cdv ct) ⟨[a],[]⟩=pure [(p1,a)]):cm K mg x x st [p1] f (fd st x x pm c):=⟨e.fn.1,mg_of X G e.fn.2,Lv e.fn.1 b⟩
theorem nZ(X:K.In h)(G:h.Ns mainGlobals mg)(e:Ed K x st f pm c)(b:∀kV doc pm an cdv ct a1 a2,bindArgs (pR x x st kV doc pm an cdv ct) ⟨[a1,a2],[]⟩=pure [(p1,a1),(p2,a2)]):cm K mg x x st [p1,p2] f (fd st x x pm c):=⟨e.fn.1,mg_of X G e.fn.2,Ki e.fn.1 b⟩
theorem Kc(X:K.In h)(G:h.Ns mainGlobals mg)(e:Ed K x st f pm c)(b:∀kV doc pm an cdv ct a1 a2 a3,bindArgs (pR x x st kV doc pm an cdv ct) ⟨[a1,a2,a3],[]⟩=pure [(p1,a1),(p2,a2),(p3,a3)]):cm K mg x x st [p1,p2,p3] f (fd st x x pm c):=⟨e.fn.1,mg_of X G e.fn.2,J4 e.fn.1 b⟩
theorem Kq(e:Em K C x q st f pm c)(b:∀kV doc pm an cdv ct a1 a2,bindArgs (pR x q st kV doc pm an cdv ct) ⟨[a1,a2],[]⟩=pure [(p1,a1),(p2,a2)]):MethAt K C x q st [p1,p2] f (fd st x q pm c):=⟨e.fn.1,e.fn.2,Ki e.fn.1 b⟩
theorem CQ(e:Em K C x q st f pm c)(b:∀kV doc pm an cdv ct a1 a2 a3,bindArgs (pR x q st kV doc pm an cdv ct) ⟨[a1,a2,a3],[]⟩=pure [(p1,a1),(p2,a2),(p3,a3)]):MethAt K C x q st [p1,p2,p3] f (fd st x q pm c):=⟨e.fn.1,e.fn.2,J4 e.fn.1 b⟩
theorem Lk(e:Em K C x q st f pm c)(b:∀kV doc pm an cdv ct a1 a2 a3 a4,bindArgs (pR x q st kV doc pm an cdv ct) ⟨[a1,a2,a3,a4],[]⟩=pure [(p1,a1),(p2,a2),(p3,a3),(p4,a4)]):MethAt K C x q st [p1,p2,p3,p4] f (fd st x q pm c):=⟨e.fn.1,e.fn.2,Lz e.fn.1 b⟩
theorem fc(e:(K.lookup f,codeIn K (.ref c) q)=(some (fq st x q pm c),true)):G0 K x q st f (fd st x q pm c) c:=by
 obtain⟨e1,e2⟩:_/\_:=by simpa only[Prod.mk.injEq]using e
 exact⟨_,_,_,_,_,_,_,_,rfl,e1,e2⟩
theorem na{a:Str}(e:findIn K (.ref C) a=some none):eW K C a:=e
end
end Hd
namespace L3
open PySem L2
open PySem.Spec hiding items?
open PyProof.Rows hiding St
section
variable {X:Cx}{pos:Pos}
end
end L3
namespace L3
open PySem L2
open PySem.Spec hiding items?
end L3
namespace L2
open PySem PySem.Spec PyProof.Rows PySem.W
section
variable {P:Program}{w:World}{H H':Hp}{h h':Heap}
theorem eA.C6(x:eA P w H h)(k:∀b o u,H b=some o->h.get? b=some u->h'.get? b=some u):eA P w H h':=fun a o e=>
 (x a o e).jS (fun b u hb q=>by
   rcases hb with rfl|hb
   . exact k _ _ u e q
   . exact k _ _ u hb q) (fun _ q=>q) fun _ _ q=>q
end
structure Still(P:Program)(w:World)(outer:List Env)(H H':Hp)(h B:Heap):Prop where
 aB:eA P w H' B
 keep:∀b o,h.get? b=some o->H b=none->b∉fF outer->B.get? b=some o
 there:∀b o,h.get? b=some o->b∉fF outer->∃o',B.get? b=some o'
theorem C0{fs:List Addr}{H H':Hp}{h h1 h2 B:Heap}(U:Un fs [] H H' h h1)(hs:B.StaysIn h2)(keep:∀b o,h.get? b=some o->H b=none->b∉fs->B.get? b=some o)
 (there:∀b o,h.get? b=some o->b∉fs->∃o',B.get? b=some o') (hu:h1.UpToSlots h2) (hf:∀b∈fs,H b=none/\∀o,h.get? b=some o->∀vs,o.data≠ .fields vs):Un fs [] H H' h h2 where
 keep:=fun b o e n hb _=>hs b o (keep b o e n hb)
 slot:=fun b o e n hb hx=>by
  obtain⟨sl,q⟩:=U.slot b o e n hb hx;obtain⟨sl2,q2⟩:=hu b _ q ((hf b hb).2 o e);exact⟨sl2,q2⟩
 free:=U.free
 there:=fun b o e hx=>by
  by_cases hb:b∈fs
  . obtain⟨sl,q⟩:=U.slot b o e (hf b hb).1 hb hx;obtain⟨sl2,q2⟩:=hu b _ q ((hf b hb).2 o e);exact⟨_,q2⟩
  . obtain⟨o',q⟩:=there b o e hb;exact⟨o',hs b o' q⟩
 iQ:=U.iQ
 iq:=U.iq
 hJ:=U.hJ
def iP(P:Program)(w:World):lD:=fun outer H s E e s'=>∃(a C t:Addr) (H':Hp) (B:Heap),e= .ref a/\s'.os=s.os/\AllBare s'.gens/\Un (fF outer) [] H H' s.heap s'.heap/\
 Still P w outer H H' s.heap B/\B.FlyingW outer a (.ref C) (.ref t) s'.heap/\E (.ref C) none H'
theorem vK{h base:Heap}{l:List Env}(hl:h.FunFrames base l){b:Addr}(hb:b∈fF l){o:Obj}(e:h.get? b=some o):∀vs,o.data≠ .fields vs:=by
 obtain⟨_,o',ho,hd⟩:=hl.mem hb;rw[e]at ho;cases ho;exact hd
section
variable {CX:lD}{P:Program}{w:World}{K:PySem.W.Frag}{mg:Str->Option Value}{base:Heap}{N:List Str}{qual:Str}{scope:Scope}{f:Addr}{cd:Value}{A:Around}{outer:List Env}{s s1:Shared}{H H1:Hp}{E:XK}{σ:St}{pins:List (Addr×Obj)}
theorem yF{e C:Addr}{vs:List Value}{s2:Shared}(I:Inv (eE (iP P w) P w K mg base N qual scope f cd A outer s H E) pins σ H1 s1)(hx:Heap.MadeExcOf s1.heap s2.heap e (.ref C) vs)(ho:s2.os=s1.os)(hg:s2.gens=s1.gens)(q:E (.ref C) none H1):
 (eE (iP P w) P w K mg base N qual scope f cd A outer s H E).xe (.ref e) s2:=by
 have hst:(eE (iP P w) P w K mg base N qual scope f cd A outer s H E).stack=envOfC qual scope s.heap.objs.size f cd::outer:=rfl;have hfr:=I.ok.frames;have hfun:=I.stack;have hfree:=I.mx;have hl:∀b∈fF (envOfC qual scope s.heap.objs.size f cd::outer),b=s.heap.objs.size\/b∈fF outer:=fun b hb=>List.mem_cons.mp hb;have hin:∀env∈(envOfC qual scope s.heap.objs.size f cd::outer),∀b,env.frame=some b->b∈fF (envOfC qual scope s.heap.objs.size f cd::outer):=fun env he b hb=>List.mem_filterMap.mpr ⟨env,he,hb⟩;refine wpAny_leaves_madeW (base:=hideAll s1.heap (fF (envOfC qual scope s.heap.objs.size f cd::outer))) hfr rfl (fun b o e=>of_hideAll _ e) (funFrames_hide hfun hin) hx fun h' t x1 x2 x3 x4=>?_;have nL:∀b o,s.heap.get? b=some o->b≠s.heap.objs.size:=fun b o e z=>by subst z;exact absurd (Heap.lt_size e) (Nat.lt_irrefl _)
 have S:Still P w outer H H1 s.heap (hideAll s1.heap (fF (envOfC qual scope s.heap.objs.size f cd::outer))):=by
  refine⟨I.aB.C6 fun b o u e g=>hideAll_get _ g fun hb=>?_,fun b o e n hb=>hideAll_get _ (I.base.keep b o e n hb (by exact List.not_mem_nil)) fun z=>?_,fun b o e hb=>?_⟩
  . rw[hfree b hb]at e;cases e
  . exact(hl b z).elim (nL b o e) hb
  . obtain⟨o',g⟩:=I.base.there b o e (by exact List.not_mem_nil);exact⟨o',hideAll_get _ g fun z=>(hl b z).elim (nL b o e) hb⟩
 have U:Un (fF outer) [] H H1 s.heap s1.heap:=I.base;have U2:=C0 U x1.1 S.keep S.there (((Heap.UpToSlots.of_keeps hx.keeps)).trans x4) fun b hb=>⟨I.ok.oo b hb,fun o e=>vK I.ok.gX hb e⟩
 exact⟨e,C,t,H1,_,rfl,ho.trans I.os,by show AllBare s2.gens;rw[hg];exact I.bare,U2,S,x1,q⟩
end
abbrev Kt:List Value:=[.type "ValueError",.type "Exception",.type "BaseException",.type "object"]
def K4(h:Heap)(C:Addr)(bm:List Value):Prop:=∃N nm q bs hdct sn sub ab col dd k0 k1 k2 k3 k5 mN,h.get? C=some (excClassObj nm q C N bs bm hdct sn sub ab col dd k0 k1 k2 k3 k5 "ValueError.__new__")/\h.Ns N mN/\mN "__init__"=none/\OwnTail h Kt bm
def mq(K:Frag)(C:Addr)(bm:List Value):Bool:=match K.lookup C with
 |some ⟨.type "type",_,.cls cd,sl⟩=>(match sl.toList with
  | [_,_,_,_,some (.builtin n),_]=>cd.mro== .ref C::bm&&n=="ValueError.__new__"&& !cd.hasDel&&tailIn K Kt bm&&nsOkIn K cd.ns&&nsIn K cd.ns "__init__"==some none
  |_=>false)
 |_=>false
theorem ke{K:Frag}{h:Heap}{C:Addr}{bm:List Value}(X:K.In h)(q:mq K C bm=true):K4 h C bm:=by
 unfold mq at q;split at q
 . rename_i dd cd sl ho;split at q
   . rename_i k0 k1 k2 k3 n k5 hs;simp only[Bool.and_eq_true,beq_iff_eq,Bool.not_eq_true']at q;obtain⟨⟨⟨⟨⟨hm,rfl⟩,hdel⟩,ht⟩,aB⟩,hni⟩:=q;obtain⟨nm,bs,mro,ns,qn,hd,sn,sub,ab,col,del⟩:=cd;dsimp only at hm hdel aB hni;subst hm hdel
     have hsl:sl= #[k0,k1,k2,k3,some (.builtin "ValueError.__new__"),k5]:=by
      obtain⟨l⟩:=sl;simp only at hs;rw[hs]
     subst hsl;exact⟨ns,nm,qn,bs,hd,sn,sub,ab,col,dd,k0,k1,k2,k3,k5,_,X _ _ ho,.of_isNs (isNs_of_in X aB),nsMap_none_of_in X aB hni,tail_of_in X ht⟩
   . cases q
 . cases q
section
variable {P:Program}{w:World}{K:PySem.W.Frag}{mg:Str->Option Value}{base:Heap}{N:List Str}{qual:Str}{scope:Scope}{f:Addr}{cd:Value}{A:Around}{outer:List Env}{s:Shared}{H:Hp}{E:XK}
def Ho(C:Addr)(E:XK)(t:TA):TS:=fun _ σ H=>t σ H fun vs H1=>vs.length<=sizeLine/\E (.ref C) none H1
theorem BG{x:Str}{C:Addr}{bm:List Value}{np cpos pos:Pos}{e:Expr}{es:List Expr}{t:TA}(hC:mq K C bm=true)(hm:mg x=some (.ref C))
 (hg:Gl (eE (iP P w) P w K mg base N qual scope f cd A outer s H E) x) (ha:PA (eE (iP P w) P w K mg base N qual scope f cd A outer s H E) (e::es) t)
 (hd:(x==("__debug__":Str))=false:=by decide)
 (he:starEach (e::es) (envOfC qual scope s.heap.objs.size f cd)=(false,eval e (envOfC qual scope s.heap.objs.size f cd))::starEach es (envOfC qual scope s.heap.objs.size f cd):=by rfl)
 (hpl:(backTo cpos (starEach es (envOfC qual scope s.heap.objs.size f cd))).any (·.1)=false:=by rfl):
 PS (eE (iP P w) P w K mg base N qual scope f cd A outer s H E) (.Raise (some (.Call (.Name x np) (e::es) [] cpos)) none pos) (Ho C E t):=by
 intro pins s1 σ H1 D I h;obtain⟨NN,nm,q,bs,hdct,sn,sub,ab,col,dd,k0,k1,k2,k3,k5,mN,hCo,hN,hni,T⟩:=ke I.ok.mod.uS hC;have hk1:∀b o,base.get? b=some o->s1.heap.get? b=some o:=I.bk
 refine wpAny_Raise_call_subT (C:=C) (nm:=nm) (q:=q) (N:=NN) (bs:=bs) (bm:=bm) (hdct:=hdct) (sn:=sn) (sub:=sub) (ab:=ab) (col:=col) (dd:=dd) (k0:=k0) (k1:=k1) (k2:=k2) (k3:=k3) (k5:=k5)
  PySem.F.excBase_ValueError (mN:=mN) (T.hasType PySem.F.excBase_ValueError.hasBase) (I.ok.hd rfl) (by
   show(backTo cpos (starEach (e::es) (envOfC qual scope s.heap.objs.size f cd))).any (·.1)=false;rw[he];show(false||(backTo cpos (starEach es (envOfC qual scope s.heap.objs.size f cd))).any (·.1))=false;rw[hpl];rfl) hni (kj I hg hm ⟨rfl,?_⟩ hd)
 have a:=ha cpos pins s1 σ H1 _ I h;show wpAny _ _ (evalArgs (.ref C) true (backTo cpos (starEach (e::es) (envOfC qual scope s.heap.objs.size f cd))) []) _ _ _;have a':wpAny (model P w) (A.deeper (envOfC qual scope s.heap.objs.size f cd)) (spliced (backTo cpos (starEach (e::es) (envOfC qual scope s.heap.objs.size f cd)))) _ _ s1:=a;rw[he]at a'⊢;refine Calls.evalArgs_plain (wpAny_mono a' (fun us s2 h2=>?_) fun _ _ y=>y);obtain⟨vs,H2,I2,r,hl,hE⟩:=h2;have hk2:∀b o,base.get? b=some o->s2.heap.get? b=some o:=I2.bk;exact⟨rfl,by rw[<-r.length];exact hl,hk2 _ _ hCo,hN.keeps hk2,T.keeps hk2,fun h' a hx=>yF I2 hx rfl rfl hE⟩
end
section
variable {M:Model}{A:Around}{E:Value->Shared->Prop}
theorem wH{C L N NL:Addr}{nm q nmL qL:Str}{bs bm bsL bmL:List Value}{hdct hdL:Bool}{sn snL:List Str}{sub subL:List Value}{ab abL:Bool}{col colL:Option Bool}{dd ddL:Option Addr}{k0 k1 k2 k3 k5 l0 l1 l2 l3 l5:Option Value}{newId newL:String}
 {h:Heap} {g:Array GenState} {d:Drawn} {t:Nat} {os:OsState} {e:Addr} {oe:Obj} {Q:Bool->Shared->Prop}
 (hC:h.get? C=some (excClassObj nm q C N bs bm hdct sn sub ab col dd k0 k1 k2 k3 k5 newId)) (hL:h.get? L=some (excClassObj nmL qL L NL bsL bmL hdL snL subL abL colL ddL l0 l1 l2 l3 l5 newL))
 (he:h.get? e=some oe) (hcls:oe.cls= .ref C) (hbase:bmL.contains (.type "BaseException")=true) (hin:(Value.ref C::bm).contains (.ref L)=true)
 (hq:Q true ⟨h,g,d,t,os⟩):wpAny M A (excMatches (.ref e) (.ref L)) Q E ⟨h,g,d,t,os⟩:=by
 have hcB:(Value.ref L::bmL).contains (.type "BaseException")=true:=by rw[List.contains_cons,hbase,Bool.or_true]
 have f:=tc_notTuple;unfold excMatches;repeat(first|(with_reducible refine wpAny_loadPart_at he ?_;rw[hcls])|with_reducible refine wpAny_loadPart_at hL ?_|(with_reducible refine wpAny_isSubtype_exc hL ?_;rw[hcB])|(with_reducible refine wpAny_isSubtype_exc hC ?_;rw[hin])|wp_step)
 exact hq
end
abbrev Cx.mark(X:Cx)(e:Value):Cx:={X with A:=X.A.mark (some e),calm:=false,xe:=fun _ _=>False}
theorem Inv.mark{X:Cx}{pins:List (Addr×Obj)}{σ:St}{H:Hp}{s:Shared}(I:Inv X pins σ H s)(e:Value):Inv (X.mark e) pins σ H s:=
 ⟨⟨I.ok.mod,I.ok.kind,I.ok.glob,I.ok.blt,I.ok.above,I.ok.inj,I.ok.has,I.ok.tu,fun z=>(nomatch z),I.ok.frames,I.ok.vJ,I.ok.xk,I.ok.bs,I.ok.nq,I.ok.nQ,I.ok.oi,I.ok.gX,I.ok.oo,I.ok.gt⟩,I.os,I.bare,I.base,I.loc,I.cell,I.free,I.eS,I.pin,I.aB,I.len⟩
theorem Inv.unmark{X:Cx}{pins:List (Addr×Obj)}{σ:St}{H:Hp}{s:Shared}{e:Value}(I:Inv (X.mark e) pins σ H s)(ok:X.Ok):Inv X pins σ H s:=
 ⟨ok,I.os,I.bare,I.base,I.loc,I.cell,I.free,I.eS,I.pin,I.aB,I.len⟩
def excAt(a C:Addr):HO:= .ext fun h=>∃o vs,h.get? a=some o/\o.cls= .ref C/\o.data= .fields vs
section
variable {X:Cx}{pins:List (Addr×Obj)}{σ:St}{H1:Hp}{s1 s':Shared}{E:XK}
theorem qG{a C t:Addr}{H2:Hp}{B:Heap}{s6:Shared}(I:Inv X pins σ H1 s1)(ho:s6.os=s1.os)(hg:AllBare s6.gens)(U:Un (fF X.stack) [] H1 H2 s1.heap s'.heap)(S:Still X.prog X.w X.stack H1 H2 s1.heap B)
 (fly:B.FlyingW X.stack a (.ref C) (.ref t) s6.heap) (sm:s'.heap.UpToSlots s6.heap):Inv X pins σ (upd H2 a (excAt a C)) s6/\H2 a=none:=by
 have frd:∀b∈fF X.stack,H1 b=none/\∀o,s1.heap.get? b=some o->∀vs,o.data≠ .fields vs:=fun b hb=>⟨I.mx b hb,fun o e=>vK I.stack hb e⟩
 have U6:=C0 U fly.1 S.keep S.there sm frd;obtain⟨oe,vs,hoe,hoc,hod,_⟩:=fly.first
 have fresh:s1.heap.get? a=none:=by
  cases q:s1.heap.get? a with
  |none=>rfl
  |some o=>
   by_cases hb:a∈fF X.stack
   . obtain⟨sl,q2⟩:=U6.slot a o q (frd a hb).1 hb List.not_mem_nil;rw[hoe]at q2;cases q2;exact absurd hod ((frd a hb).2 o q vs)
   . obtain⟨o',q2⟩:=S.there a o q hb;rw[fly.2.1]at q2;cases q2
 have inB:∀b o,H2 b=some o->b≠a:=fun b o e z=>by
  subst z;have hlt:=S.aB b o e
  have hb:∃u,B.get? b=some u:=by
   have:=hlt.lt;cases o with
   |lst xs=>obtain⟨_,_,_,_,e⟩:=hlt;exact⟨_,e⟩
   |tup xs=>obtain⟨_,_,_,ob,e,_⟩:=hlt;exact⟨_,e⟩
   |dK kvs=>obtain⟨_,_,_,_,o,_,_,e,_⟩:=hlt;exact⟨_,e⟩
   |dT kvs=>obtain⟨_,_,_,_,o,_,_,e,_⟩:=hlt;exact⟨_,e⟩
   |set S n=>obtain⟨o,_,_,_,e,_⟩:=hlt;exact⟨_,e⟩
   |ins C dx fs=>obtain⟨_,_,_,e,_⟩:=hlt;exact⟨_,e⟩
   |own y=>exact hlt
   |xd fs=>obtain⟨_,⟨_,_,_,e,_⟩,_⟩:=hlt;exact⟨_,e⟩
   |C9 lo hi=>obtain⟨_,_,_,e⟩:=hlt;exact⟨_,e⟩
   |e9 ob u=>obtain⟨e,_⟩:=hlt;exact⟨_,e⟩
   |g5 ps=>exact⟨_,hlt⟩
   |met f y=>exact⟨_,hlt⟩
   |ext φ=>obtain⟨_,e,_⟩:=hlt;exact e
  obtain⟨u,hu⟩:=hb;rw[fly.2.1]at hu;cases hu
 have na:H2 a=none:=by
  cases q:H2 a with
  |none=>rfl
  |some o=>exact absurd rfl (inB a o q)
 have ne1:∀b o,s1.heap.get? b=some o->b≠a:=fun b o e z=>by rw[z,fresh]at e;cases e
 have U7:Un (fF X.stack) [] H1 (upd H2 a (excAt a C)) s1.heap s6.heap:=⟨U6.keep,U6.slot,fun b o e n hx=>by rw[az (ne1 b o e)];exact U6.free b o e n hx,U6.there,fun b xs e=>by
  have:=U6.iQ b xs e;rw[az (inB b _ this)];exact this,fun b o u e=>by
  have:=U6.iq b o u e;rw[az (inB b _ this)];exact this,fun b ps e=>by
  obtain⟨more,this⟩:=U6.hJ b ps e;exact⟨more,by rw[az (inB b _ this)];exact this⟩⟩
 have K7:eA X.prog X.w (upd H2 a (excAt a C)) s6.heap:=fun b o e=>by
  by_cases hb:b=a
  . subst hb;rw[aK]at e;cases e;exact⟨⟨oe,vs,hoe,hoc,hod⟩,⟨oe,hoe⟩,fun h1 h2 ⟨o,vs,q1,q2,q3⟩ k=>⟨o,vs,k o q1,q2,q3⟩⟩
  . rw[az hb]at e;exact(S.aB b o e).jS (fun c u _ q=>fly.1 c u q) (fun c q=>by rw[az (inB c _ q)];exact q) fun c xs q=>by rw[az (inB c _ q)];exact q
 exact⟨I.uD ho U7 K7 hg (ch:=[]) (fun b z=>absurd z List.not_mem_nil),na⟩
end
section
variable {X:Cx}{pins:List (Addr×Obj)}{σ:St}{H:Hp}{s:Shared}
theorem EA{M:Model}{A:Around}{E:Value->Shared->Prop}{i:Nat}{x:Str}{pos:Pos}{Q:Unit->Shared->Prop}(I:Inv X pins σ H s)(hN:X.N.Nodup)(hi:X.N[i]?=some x)(hk:X.env.scope.names.lookup x=some .local)
 (h:∀s',Inv X pins (σ.set i none) H s'->Q () s'):wpAny M A (do bindName X.env x .none;unbindBehindTheSuite X.env x pos) Q E s:=by
 obtain⟨m,hn,hl⟩:=id I.loc;have hcls:(X.env.scope.kind== .class||(X.env.scope.kind== .module&&X.env.locals != X.env.globals))=false:=by rw[I.ok.kind];rfl
 have oJ:=I.oJ;refine wpAny_nameGoes_keeps hk hn hcls fun h' v hn' hs=>h _ ?_;obtain⟨oL,_,_,hoL,_⟩:=id hn;have tracked:eA X.prog X.w H h':=I.aB.C6 fun b o u e q=>(hs.2 b (fun z=>by rw[z,I.free]at e;cases e)).trans q;refine⟨I.ok,I.os,I.bare,⟨fun b o e n hb hx=>?_,fun b o e n hb hx=>?_,I.base.free,fun b o e hx=>?_,I.base.iQ,I.base.iq,I.base.hJ⟩,⟨_,hn',fun j y v' e1 e2 e3=>?_⟩,fun y c e=>?_,I.free,I.eS,fun p hp=>?_,tracked,by simpa using I.len⟩
 . exact(hs.2 b (Nat.ne_of_lt (Nat.lt_of_lt_of_le (Heap.lt_size e) I.ok.above))).trans (I.base.keep b o e n hb hx)
 . obtain⟨sl,e1⟩:=I.base.slot b o e n hb hx;exact⟨sl,(hs.2 b (Nat.ne_of_lt (Nat.lt_of_lt_of_le (Heap.lt_size e) I.ok.above))).trans e1⟩
 . obtain⟨o',e1⟩:=I.base.there b o e hx;exact⟨o',(hs.2 b (Nat.ne_of_lt (Nat.lt_of_lt_of_le (Heap.lt_size e) I.ok.above))).trans e1⟩
 . by_cases hj:j=i
   . subst hj;by_cases hlt:j<σ.length
     . rw[List.getElem?_set_self hlt]at e2;cases e2
     . rw[List.getElem?_eq_none (by rw[List.length_set];omega)]at e2;cases e2
   . rw[List.getElem?_set_ne (Ne.symm hj)]at e2;obtain⟨u',r',q⟩:=hl j y v' e1 e2 e3;refine⟨u',r',?_⟩;rcases q with⟨k,e⟩|⟨k,c,e,z⟩
     . refine .inl ⟨k,?_⟩;have:y≠x:=fun e=>hj (pU hN e1 (e▸hi));simp[this,e]
     . exact .inr ⟨k,c,e,z.sameBut hs (oJ y c e)⟩
 . obtain⟨w',z⟩:=I.cell y c e;exact⟨w',z.sameBut hs (oJ y c e)⟩
 . obtain⟨e,n,ne,nf,d⟩:=I.pin p hp;exact⟨(hs.2 p.1 ne).trans e,n,ne,nf,d⟩
theorem HI{CX:lD}{k:Nat}{f:Addr}{fd:FuncData}{ps:List Str}{sp:Sp}{E:XK}{Q:VK}{us:List Value}{vs:List V}{XE:Value->Shared->Prop}(F:bf X.prog X.w X.K X.mg X.base CX k f fd ps sp)(hr:bO k X.A)(hb:Binds X.K fd ps [])
 (I:Inv X pins σ H s) (r:Vals vs us) (h:sp vs H Q E) (hx:∀e s',CX X.stack H s E e s'->XE e s'):wpAny (model X.prog X.w) X.A (call (.ref f) us) (EP X pins σ Q) XE s:=by
 have hl:(us++[]).length=ps.length:=by rw[List.append_nil,<-r.length];exact F.len _ _ _ _ h
 have q:=hb s us I.d5 hl;rw[List.append_nil]at q;refine wpAny_call (codeAny_mono (F.run X.A X.stack s H ⟨us,[]⟩ us vs Q E hr I.Cd q r h) fun r s' hq=>?_);cases r with
 |error e=>exact hx e s' hq
 |ok fl=>
  cases fl with
  |ret u=>exact I.after hq
  |_=>exact hq.elim
end
section
variable {X:Cx}
theorem A8{CX:lD}{k:Nat}{f:Addr}{fd:FuncData}{ps:List Str}{sp:Sp}{x:Str}{p pos:Pos}{e:Expr}{es:List Expr}{t:TA}{E:XK}{XE:Value->Shared->Prop}(σ0:St)(ps0:List (Addr×Obj))(F:bf X.prog X.w X.K X.mg X.base CX k f fd ps sp)(hr:bO k X.A)(hg:Gl X x)(hm:X.mg x=some (.ref f))(hk:PySem.W.keepIn X.K (.ref f)=true)(hb:Binds X.K fd ps [])
 (ha:PA X.gb (e::es) t) (hx:∀H s e s',Inv X ps0 σ0 H s->CX X.stack H s E e s'->XE e s') {s:Shared} {H:Hp} {Q:VK} (I:Inv X ps0 σ0 H s) (h:uz sp [] E t σ0 H Q)
 (hdb:(x==("__debug__":Str))=false:=by decide) (he:starEach (e::es) X.env=(false,eval e X.env)::starEach es X.env:=by rfl) (hpl:(backTo pos (starEach es X.env)).any (·.1)=false:=by rfl):
 wpAny (model X.prog X.w) X.A (eval (.Call (.Name x p) (e::es) [] pos) X.env) (EP X ps0 σ0 Q) XE s:=by
 refine wpAny_Call_Name_kw (kj I hg hm ?_ hdb);refine PySem.W.callWith_K (h₀:=X.base) I.ok.mod.uS hk (wpAny_mono (ha pos ps0 s σ0 H _ (I.iU _) h) (fun us s1 ⟨vs,H1,I1,r,q⟩=>⟨I1.fb.d5,?_⟩) fun _ _ z=>z.elim) he hpl;have q:sp (vs++[]) H1 Q E:=q;rw[List.append_nil]at q;exact HI F hr hb I1.fb r q fun e s' c=>hx H1 s1 e s' I1.fb c
def GF(L:Addr)(K:Frag)(iy inn iz:Nat)(sp:Sp)(t:TA):TS:=fun D σ H=>uz sp [] (fun c _ H2=>∃C bm,c= .ref C/\mq K C bm=true/\(Value.ref C::bm).contains (.ref L)=true/\
 ∀a,H2 a=none->D.nx (((σ.set inn (some (.ref a))).set iz (some (.ref a))).set inn none) (upd H2 a (excAt a C))) t σ H fun v H2=>D.nx (σ.set iy (some v)) H2
theorem HJ{k:Nat}{f L:Addr}{bmL:List Value}{fd:FuncData}{ps:List Str}{sp:Sp}{x y lx n z:Str}{iy inn iz:Nat}{p pc py pa np pz pn pb ph pos:Pos}{e:Expr}{es:List Expr}{t:TA}
 (hN:X.N.Nodup) (hst:X.stack=X.env::X.outer) (hfr:X.env.frame=some X.env.locals) (F:bf X.prog X.w X.K X.mg X.base (iP X.prog X.w) k f fd ps sp) (hr:bO k X.A) (hg:Gl X x) (hm:X.mg x=some (.ref f)) (hk:PySem.W.keepIn X.K (.ref f)=true) (hb:Binds X.K fd ps [])
 (ha:PA X.gb (e::es) t) (hL:mq X.K L bmL=true) (hgL:Gl X lx) (hmL:X.mg lx=some (.ref L)) (hy:X.N[iy]?=some y) (hn:X.N[inn]?=some n) (hz:X.N[iz]?=some z)
 (ly:X.env.scope.names.lookup y=some .local) (ln:X.env.scope.names.lookup n=some .local) (lz:X.env.scope.names.lookup z=some .local)
 (hdb:(x==("__debug__":Str))=false:=by decide) (hdL:(lx==("__debug__":Str))=false:=by decide) (hdn:(n==("__debug__":Str))=false:=by decide) (hcn:(n==("__classdict__":Str))=false:=by decide)
 (hs1:swapsWith (.Call (.Name x p) (e::es) [] pc) (some (.Name y py)) pa.line X.env=pure false:=by rfl) (hs2:swapsWith (.Name n pn) (some (.Name z pz)) pb.line X.env=pure false:=by rfl)
 (he:starEach (e::es) X.env=(false,eval e X.env)::starEach es X.env:=by rfl) (hpl:(backTo pc (starEach es X.env)).any (·.1)=false:=by rfl):
 PS X (.Try [.Assign [.Name y py] (.Call (.Name x p) (e::es) [] pc) pa] [.ExceptHandler (some (.Name lx np)) (some n) [.Assign [.Name z pz] (.Name n pn) pb] ph] [] [] pos) (GF L X.K iy inn iz sp t):=by
 intro pins s σ H D I h;refine wpAny_Try_except ?_;refine wpAny_execs_cons (wpAny_Assign_Name (wpAny_mono (A8 (pos:=pc) σ pins F hr hg hm hk hb ha (XE:=fun e s₁=>wpAny (model X.prog X.w) X.A (noteFrame e X.env) (fun _ s₂=>wpAny (model X.prog X.w) X.A (setFlight e none) (fun _ s₃=>wpAny (model X.prog X.w) X.A (handleBy e X.env [.ExceptHandler (some (.Name lx np)) (some n) [.Assign [.Name z pz] (.Name n pn) pb] ph]) (SP X pins D) X.xe s₃) X.xe s₂) X.xe s₁) ?_ I h hdb he hpl) (fun v s1 ⟨y',H1,I1,r1,q1⟩=>?_) fun _ _ z=>z) hs1)
 . rintro H1 s1 ev s' I1 ⟨a,C,t',H2,B,rfl,ho,hg',U,S,fly,C',bm,hcc,hC,hin,q⟩;cases hcc;have hfs:X.A.frames=some (X.env::X.outer):=by rw[I1.ok.frames,hst]
   refine wpAny_looks_onW hfs hfr (by rw[<-hst];exact fly) fun h4 held sm4=>wpAny_landsW held fun h5 fly5 sm5=>?_;rw[<-hst]at fly5;have I5:=(qG I1 (s6:={s' with heap:=h5}) ho hg' U S fly5 (sm4.trans sm5)).1;refine wpAny_handleBy_cons (codeAny_handlers_test (kj (I5.mark (.ref a)) hgL hmL ?_ hdL)) (by intro q;cases q);obtain⟨NC,nm,qn,bs,hdct,sn,sub,ab,col,dd,k0,k1,k2,k3,k5,mN,hCo,_,_,_⟩:=ke I5.d5 hC;obtain⟨NL,nm',qn',bs',hdct',sn',sub',ab',col',dd',k0',k1',k2',k3',k5',mN',hLo,_,_,TL⟩:=ke I5.d5 hL;obtain⟨oe,hoe,hoc⟩:=fly5.there;refine wH hCo hLo hoe hoc (TL.hasType PySem.F.excBase_ValueError.hasBase) hin (codeAny_handlers_suite_as ?_);refine lands_againW (s:={s' with heap:=h5}) fly5 fun h6 fly6 sm6=>?_;obtain⟨I6,na⟩:=qG I1 (s6:={s' with heap:=h6}) ho hg' U S fly6 ((sm4.trans sm5).trans sm6);refine h_ (v:= .ref a) I6 hN hn (.inl ln) rfl (fun s7 I7=>?_) (.inr ln);have ps:PS (X.mark (.ref a)) (.Assign [.Name z pz] (.Name n pn) pb) (hZ (lL inn) (gF iz)):=qD hN hz (.inl lz) (vc hn (.inl ln) hdn hcn) hs2 (.inr lz);have hlt:inn<σ.length:=by rw[I1.len];exact(List.getElem?_eq_some_iff.mp hn).1
   refine wpAny_execs_cons (wpAny_mono (ps pins s7 _ _ {nx:=fun σ' H'=>σ'=(σ.set inn (some (.ref a))).set iz (some (.ref a))/\H'=upd H2 a (excAt a C),rt:=fun _ _=>False} (I7.mark (.ref a)) ?_) (fun fl s8 h8=>?_) fun _ _ z=>z.elim)
   . exact⟨.ref a,List.getElem?_set_self hlt,rfl,rfl⟩
   . cases fl with
     |next=>
      obtain⟨σ',H',I8,rfl,rfl⟩:=h8;refine wpAny_execs_nil ?_;exact EA (I8.unmark I1.ok) hN hn ln fun s9 I9=>⟨_,_,I9,q a na⟩
     |brk=>obtain⟨_,_,_,z⟩:=h8;exact z.elim
     |cont=>obtain⟨_,_,_,z⟩:=h8;exact z.elim
     |ret u=>obtain⟨_,_,_,_,_,z⟩:=h8;exact z.elim
 . exact h_ I1 hN hy (.inl ly) r1 (fun s2 I2=>wpAny_execs_nil (wpAny_execs_nil ⟨_,H1,I2,q1⟩)) (.inr ly)
end
end L2
namespace L2
open PySem PySem.Spec PyProof.Rows PySem.W PySem.Calls
section
variable {prog:Program}{w:World}{A:Around}{E:Value->Shared->Prop}{h:Heap}{g:Array GenState}{d:Drawn}{t:Nat}{os:OsState}{a C:Addr}{o:Obj}{K:Frag}{bm:List Value}
 {nm q:Str} {N:Addr} {bs:List Value} {hdct:Bool} {sn:List Str} {sub:List Value} {ab:Bool} {col:Option Bool} {dd:Option Addr} {k0 k1 k2 k3 k5:Option Value} {newId:String}
theorem GG{R:Result->Shared->Prop}(hC:h.get? C=some (excClassObj nm q C N bs bm hdct sn sub ab col dd k0 k1 k2 k3 k5 newId))(ho:bm.contains (.type "object")=true)(hx:h.get? a=some o)(hc:o.cls= .ref C)(hq:R (.ok (.ret (.ref C))) ⟨h,g,d,t,os⟩):
 codeAny (model prog w) A (.call (.builtin "getset_descriptor.__get__") ⟨[.builtin "object.__class__",.ref a,.ref C],[]⟩) R ⟨h,g,d,t,os⟩:=by
 have hT5:(⟨h,g,d,t,os⟩:Shared).TypeIs (.builtin "object.__class__") "getset_descriptor":=F.typeOf_object_class
 have hcB:(Value.ref C::bm).contains (.type (".".intercalate ("object.__class__".cutAt '.').dropLast))=true:=by
  rw[F.owner_object_class,List.contains_cons,ho];rfl
 refine codeAny_call_builtin F.slot_gs_get.plain F.entry_gs_get (F.slot_gs_get.check _ _ _ _ _ _ _ _ hT5 (F.args_gs_get _ _ _) ?_);repeat(any_goals (first|assumption|(with_reducible refine wpAny_loadPart_at hx ?_;rw[hc])|(with_reducible refine wpAny_isSubtype_exc hC ?_;rw[hcB])|wp_step))
 refine⟨Code.quiet_builtin _ (by decide+kernel),codeAny_builtin F.entry_object_class ?_⟩;repeat(any_goals (first|assumption|(with_reducible refine wpAny_loadPart_at hx ?_;rw[hc])|wp_step))
theorem Cm{tk:Tok}{Q:Fin->Shared->Prop}(X:K.In h)(fc:findIn K (.ref C) "__class__"=some (some (.builtin "object.__class__")))(hC:h.get? C=some (excClassObj nm q C N bs bm hdct sn sub ab col dd k0 k1 k2 k3 k5 newId))(ho:bm.contains (.type "object")=true)(hx:h.get? a=some o)(hc:o.cls= .ref C)(hq:Q (.done (.ret (.ref C))) ⟨h,g,d,t,os⟩):
 wpAny (model prog w) A (Builtin.«object.__getattribute__» ⟨[.ref a,.str "__class__" tk],[]⟩) Q E ⟨h,g,d,t,os⟩:=by
 have hT5:(⟨h,g,d,t,os⟩:Shared).TypeIs (.builtin "object.__class__") "getset_descriptor":=F.typeOf_object_class;have f5:=F.typeOf_object_class;have f6:=F.slot_gs_get.lookup;have f7:=F.slot_gs_set.lookup;have L1:=looks_findIn (M:=model prog w) X fc;repeat(any_goals (first|assumption|(with_reducible refine wpAny_loadPart_at hx ?_;rw[hc])|with_reducible refine L1.at ?_|wp_step))
 refine GG hC ho hx hc ?_;repeat(any_goals (first|assumption|wp_step))
theorem Cz{M:Model}{nameV:Value}{Q:Unit->Shared->Prop}(hC:h.get? C=some (excClassObj nm q C N bs bm hdct sn sub ab col dd k0 k1 k2 k3 k5 newId))(hb:bm.contains (.type "BaseException")=true)
 (hx:h.get? a=some o) (hc:o.cls= .ref C) (hq:Q () ⟨h,g,d,t,os⟩):wpAny M A (checkBuiltinCall "BaseException.__getattribute__" ⟨[.ref a,nameV],[]⟩) Q E ⟨h,g,d,t,os⟩:=by
 have hk:builtinKind "BaseException.__getattribute__"=some .slot:=by decide+kernel
 have hsplit:splitId "BaseException.__getattribute__"=some ("BaseException","__getattribute__"):=by decide+kernel
 have hcB:(Value.ref C::bm).contains (.type "BaseException")=true:=by rw[List.contains_cons,hb];rfl
 have ha:=F.args_bexc_ga (.ref a) nameV;simp only[checkBuiltinCall,hk,hsplit];refine wpAny_bind ?_
 . unfold isInstance;repeat(first|(with_reducible refine wpAny_loadPart_at hx ?_;rw[hc])|(with_reducible refine wpAny_isSubtype_exc hC ?_;rw[hcB])|wp_step)
   exact hq
theorem JL{tk:Tok}{Q:Value->Shared->Prop}(X:K.In h)(fc:findIn K (.ref C) "__class__"=some (some (.builtin "object.__class__")))(fg:findIn K (.ref C) "__getattribute__"=some (some (.builtin "BaseException.__getattribute__")))(fa:findIn K (.ref C) "__getattr__"=some none)
 (hC:h.get? C=some (excClassObj nm q C N bs bm hdct sn sub ab col dd k0 k1 k2 k3 k5 newId)) (ho:bm.contains (.type "object")=true) (hb:bm.contains (.type "BaseException")=true) (hx:h.get? a=some o) (hc:o.cls= .ref C) (hq:Q (.ref C) ⟨h,g,d,t,os⟩):
 wpAny (model prog w) A (getAttrBy (.ref a) (.str "__class__" tk) false) Q E ⟨h,g,d,t,os⟩:=by
 have f3:=PySem.F.attr_ValueError.ga.bind (.ref a);have hx2:(Value.builtin "BaseException.__getattribute__"==Value.builtin "object.__getattribute__")=false:=by decide+kernel
 have hx1:(onTheHeap (Value.ref C)&&Value.builtin "BaseException.__getattribute__"==Value.builtin "object.__getattribute__")=false:=by rw[hx2];rfl
 have L1:=looks_findIn (M:=model prog w) X fg;have L2:=looks_findIn (M:=model prog w) X fa;repeat(any_goals (first|assumption|(with_reducible refine wpAny_loadPart_at hx ?_;rw[hc])|with_reducible refine L1.at ?_|with_reducible refine L2.at ?_|wp_step))
 refine codeAny_call_builtin PySem.F.attr_ValueError.ga.plain F.entry_bexc_ga (Cz hC hb hx hc (Cm X fc hC ho hx hc ?_));repeat(any_goals (first|assumption|wp_step))
theorem DQ{Q:Option Value->Shared->Prop}(X:K.In h)(fc:findIn K (.ref C) "__class__"=some (some (.builtin "object.__class__")))(fg:findIn K (.ref C) "__getattribute__"=some (some (.builtin "BaseException.__getattribute__")))(fa:findIn K (.ref C) "__getattr__"=some none)
 (hC:h.get? C=some (excClassObj nm q C N bs bm hdct sn sub ab col dd k0 k1 k2 k3 k5 newId)) (ho:bm.contains (.type "object")=true) (hb:bm.contains (.type "BaseException")=true) (hx:h.get? a=some o) (hc:o.cls= .ref C) (hq:Q (some (.ref C)) ⟨h,g,d,t+1,os⟩):
 wpAny (model prog w) A (getAttr? (.ref a) "__class__") Q E ⟨h,g,d,t,os⟩:=by
 unfold getAttr? getAttrBy?;repeat(any_goals (first|assumption|with_reducible apply JL X fc fg fa hC ho hb hx hc|wp_step))
end
def ym(K:Frag)(C:Addr):Bool:=findIn K (.ref C) "__class__"==some (some (.builtin "object.__class__"))&&findIn K (.ref C) "__getattribute__"==some (some (.builtin "BaseException.__getattribute__"))&&findIn K (.ref C) "__getattr__"==some none
theorem CF{K:Frag}{a C:Addr}{bm:List Value}(hC:mq K C bm=true)(e:ym K C=true):KitX K (.ref a) (.ref C) (fun h=>∃o vs,h.get? a=some o/\o.cls= .ref C/\o.data= .fields vs) where
 ty:=fun M h _ ⟨o,vs,h1,h2,_⟩=>h2▸(Looks.ld h1).andThen .now
 it:=fun M h X _=>by
  obtain⟨NC,nm,qn,bs,hdct,sn,sub,ab,col,dd,k0,k1,k2,k3,k5,mN,hCo,_,_,_⟩:=ke X hC;intro A' Q' E' s' k q;unfold isType loadHead;exact wpAny_bind (wpAny_loadPart (k _ _ hCo) (wpAny_pure q))
 ne:=fun h tp dd its n sl X htp=>by
  obtain⟨NC,nm,qn,bs,hdct,sn,sub,ab,col,dd,k0,k1,k2,k3,k5,mN,hCo,_,_,_⟩:=ke X hC;refine Bool.eq_false_iff.mpr fun q=>?_;have e:C=tp:=Value.ref.inj (beq_iff_eq.mp q);subst e;have z:Value.type "type"=Value.type "tuple":=congrArg Obj.cls (Option.some.inj (hCo.symm.trans htp));exact absurd (Value.type.inj z) (by decide)
 ca:=fun{prog w A E Q s} X ⟨o,vs,h1,h2,_⟩ k=>by
  obtain⟨NC,nm,qn,bs,hdct,sn,sub,ab,col,dd,k0,k1,k2,k3,k5,mN,hCo,_,_,T⟩:=ke X hC;unfold ym at e;simp only[Bool.and_eq_true,beq_iff_eq]at e;obtain⟨h,g,d,t,os⟩:=s;exact DQ X e.1.1 e.1.2 e.2 hCo (T.hasType rfl) (T.hasType rfl) h1 h2 k
end L2
namespace L3
open PySem PySem.Spec L2
open PyProof.Rows hiding St
abbrev kM:=g_->(Addr->ag->Prop)->a_->ag->Prop
def LX(α:List (Option Addr))(G F:Hp)(ex:Addr->ag->Prop)(E:XK):Prop:=∀C st',ex C st'->∀α' G' H',Step α G α' G'->bj G' F H'->aL α' st' G'->E (.ref C) none H'
theorem LX.at{α α1:List (Option Addr)}{G F G1:Hp}{ex:Addr->ag->Prop}{E:XK}(h:LX α G F ex E)(s:Step α G α1 G1):LX α1 G1 F ex E:=fun C st' k α' G' H' s' P S=>h C st' k α' G' H' (s.trans s') P S
inductive GD(E:XK)(t:kM)(D:Ends)(σ:L2.St)(H:Hp):Prop
 |mk (α:List (Option Addr)) (σd:a_) (st:ag) (DD:g_) (ex:Addr->ag->Prop) (G F:Hp) (P:bj G F H) (R:cC α G σd σ) (S:aL α st G) (h:t DD ex σd st) (k:qI α G F DD D) (kx:LX α G F ex E):GD E t D σ H
def k6(E:XK)(t:kM):TS:=GD E t
def mr(t:DS):kM:=fun DD _ σ st=>t DD σ st
def lS(t u:kM):kM:=fun DD ex σ st=>t {DD with nx:=u DD ex} ex σ st
def FT(c:DT)(t u:kM):kM:=fun DD ex σ st=>c σ st fun b st1=>if b=true then t DD ex σ st1 else u DD ex σ st1
def vC(C:Addr)(t:DA):kM:=fun _ ex σ st=>t σ st fun ds st1=>ds.length<=sizeLine/\ex C st1
section
variable {X:Cx}{E:XK}{st:Stmt}{sts:List Stmt}{t u:kM}{pos:Pos}
theorem Ju{t:DS}(h:PS X st (LS t)):PS X st (k6 E (mr t)):=PS.imp h fun D σ H ⟨α,σd,st,DD,ex,G,F,P,R,S,t,k,kx⟩=>⟨α,σd,st,DD,G,F,P,R,S,t,k⟩
theorem HA{t:DS}(h:c9 X sts (LS t)):c9 X sts (k6 E (mr t)):=c9.imp h fun D σ H ⟨α,σd,st,DD,ex,G,F,P,R,S,t,k,kx⟩=>⟨α,σd,st,DD,G,F,P,R,S,t,k⟩
theorem Et(h:PS X st (k6 E t)):c9 X [st] (k6 E t):=l7 h
theorem Bh(h:PS X st (k6 E t))(h2:c9 X sts (k6 E u)):c9 X (st::sts) (k6 E (lS t u)):=c9.imp (ia h h2) fun D σ H ⟨α,σd,st,DD,ex,G,F,P,R,S,t,k,kx⟩=>
 ⟨α,σd,st,_,ex,G,F,P,R,S,t,⟨fun σd' st' q α' G' H' σ' s' P' R' S'=>⟨α',σd',st',DD,ex,G',F,P',R',S',q,k.at s',kx.at s'⟩,k.rt,k.bk,k.ct⟩,kx⟩
theorem JY{c:Expr}{x y:List Stmt}{tc:DT}(hc:PT X c (LT tc))(ha:c9 X x (k6 E t))(hb:c9 X y (k6 E u)):PS X (.If c x y pos) (k6 E (FT tc t u)):=PS.imp (uy hc ha hb) fun D σ H ⟨α,σd,st,DD,ex,G,F,P,R,S,t,k,kx⟩=>by
 refine⟨α,σd,st,_,G,F,P,R,S,t,fun b st1 q α1 G1 H1 s1 P1 S1=>?_⟩;cases b with
 |true=>exact⟨α1,σd,st1,DD,ex,G1,F,P1,R.step s1,S1,q,k.at s1,kx.at s1⟩
 |false=>exact⟨α1,σd,st1,DD,ex,G1,F,P1,R.step s1,S1,q,k.at s1,kx.at s1⟩
end
section
variable {P:Program}{w:World}{K:PySem.W.Frag}{mg:Str->Option Value}{base:Heap}{N:List Str}{qual:Str}{scope:Scope}{f:Addr}{cd:Value}{A:Around}{outer:List Env}{s:Shared}{H:Hp}{E:XK}
theorem Cg{x:Str}{C:Addr}{bm:List Value}{np cpos pos:Pos}{e:Expr}{es:List Expr}{t:DA}(hC:mq K C bm=true)(hm:mg x=some (.ref C))
 (hg:Gl (eE (iP P w) P w K mg base N qual scope f cd A outer s H E) x) (ha:PA (eE (iP P w) P w K mg base N qual scope f cd A outer s H E) (e::es) (LA t))
 (hd:(x==("__debug__":Str))=false:=by decide)
 (he:starEach (e::es) (envOfC qual scope s.heap.objs.size f cd)=(false,eval e (envOfC qual scope s.heap.objs.size f cd))::starEach es (envOfC qual scope s.heap.objs.size f cd):=by rfl)
 (hpl:(backTo cpos (starEach es (envOfC qual scope s.heap.objs.size f cd))).any (·.1)=false:=by rfl):
 PS (eE (iP P w) P w K mg base N qual scope f cd A outer s H E) (.Raise (some (.Call (.Name x np) (e::es) [] cpos)) none pos) (k6 E (vC C t)):=
 PS.imp (BG hC hm hg ha hd he hpl) fun D σ H ⟨α,σd,st,DD,ex,G,F,P,R,S,t,k,kx⟩=>⟨α,σd,st,_,G,F,P,R,S,t,fun ds st1 q α1 G1 H1 vs s1 P1 S1 r1=>⟨by rw[<-r1.length];exact q.1,kx C st1 q.2 α1 G1 H1 s1 P1 S1⟩⟩
abbrev lI:=List D->ag->DK->(Addr->ag->Prop)->Prop
inductive yq(T:lI)(vs:List V)(H:Hp)(Q:VK)(E:XK):Prop
 |mk (α:List (Option Addr)) (ds:List D) (st:ag) (K:DK) (ex:Addr->ag->Prop) (G F:Hp) (P:bj G F H) (rx:aG α G ds vs) (S:aL α st G) (h:T ds st K ex) (k:LK α G F K Q) (kx:LX α G F ex E):yq T vs H Q E
def vW(S:lI):Sp:=fun vs H Q E=>yq S vs H Q E
theorem F9{x:Str}{st:Stmt}{fd:FuncData}{ps:List Str}{k:Nat}{sp:lI}{t:kM}(F:jy K x qual st f fd)(S:aY N ps (ai st))
 (hbody:∀(cdv:Value) (A:Around) (outer:List Env) (s:Shared) (H:Hp) (E:XK),bO k (A.deeper (envOfC qual (ai st) s.heap.objs.size f cdv))->c9 (eE (iP P w) P w K mg base N qual (ai st) f cdv A outer s H E) (d_ st) (k6 E t))
 (hsp:∀ds st K ex,sp ds st K ex->ds.length=ps.length/\t {nx:=fun _ st'=>K .aC st',rt:=K} ex (a7 N ds) st):bf P w K mg base (iP P w) (k+1) f fd ps (vW sp):=by
 obtain⟨oc,od,kV,doc,pm,an,cdv,ct,osl,rfl,lk,hcd⟩:=F.ex;refine zm lk hcd S (fun vs H Q E h=>?_) fun A outer s H vs Q E hr h=>⟨_,hbody cdv A outer s H E hr,?_⟩
 . obtain⟨α,ds,st,K,ex,G,F,P,r,S,q,k,kx⟩:=h;rw[<-r.length];exact(hsp ds st K ex q).1
 . obtain⟨α,ds,st,K,ex,G,F,P,r,S,q,k,kx⟩:=h;refine⟨α,a7 N ds,st,_,ex,G,F,P,cC.start r,S,(hsp ds st K ex q).2,⟨?_,k,?_,?_⟩,kx⟩
   . intro σd' st' kk α' G' H' σ' s' P' R' S';exact k .aC st' kk α' G' H' .aC s' P' S' (by unfold Rep;rfl)
   . intro σd' st' kk;exact kk.elim
   . intro σd' st' kk;exact kk.elim
end
end L3
namespace L2
open PySem PySem.Spec PyProof.Rows PySem.W
def yV(K:Frag):List V->Hp->VK->Prop:=fun vs H Q=>∃a C bm c b,vs=[.ref a,c]/\H a=some (excAt a C)/\mq K C bm=true/\ym K C=true/\
 ((∀u,RelV c u->kitOne K (.ref C) u=some b)\/∃tp xs,c= .ref tp/\H tp=some (.tup xs)/\∀us,Vals xs us->kitAny K (.ref C) us=some b)/\Q (.bl b) H
theorem ye{X:Cx}:bc X (.builtin "isinstance") (yV X.K):=by
 rintro pins s σ H xs us Q I r ⟨a,C,bm,c,b,rfl,ha,hC,hcx,hb,q⟩
 obtain⟨u,rfl,rc⟩:∃u,us=[.ref a,u]/\RelV c u:=by
  cases r with
  |cons p r=>
   cases p;cases r with
   |cons p r=>
    cases r;exact⟨_,rfl,p⟩
 have Z:=CF (a:=a) hC hcx;have p:∃o vs,s.heap.get? a=some o/\o.cls= .ref C/\o.data= .fields vs:=(I.aB a _ ha).1;rcases hb with h1|⟨tp,ys,rfl,ht,h1⟩
 . exact kia_one Z I.d5 p (h1 u rc) (by intro z;cases z) fun tk=>⟨.bl b,H,I.tok tk,rfl,q⟩
 . cases rc;obtain⟨_,its,rv,ob,ho,hc,n,hd⟩:=I.aB tp _ ht;obtain⟨cl,dd,dat,sl⟩:=ob;cases hc;cases hd;exact kia_tup Z I.d5 p ho (h1 its rv) (by intro z;cases z) fun tk=>⟨.bl b,H,I.tok tk,rfl,q⟩
end L2
namespace L3
open PySem PySem.Spec L2
open PyProof.Rows hiding St
def IA(K:PySem.W.Frag)(L T c2 c3:Addr)(S:lI):TS:=
 rS (hZ (tC .aC) (gF 1)) (rS (hZ (tC .aC) (gF 2)) (rS (GF L K 1 3 2 (vW S) (jh (lL 0) sh)) (rS (Cp (tB (F6 (lL 2))) (xV (lL 1)) yu)
  (rS (Cp (Dj (Bm (tB (xv (yV K) (jh (lL 2) (jh (tC (.ref T)) sh))))) (Dj (Bm (tB (xv (yV K) (jh (lL 2) (jh (tC (.ty "ValueError")) sh)))))
    (tB (xv (yV K) (jh (lL 2) (jh (HV (jh (tC (.ref c2)) (jh (tC (.ref c3)) sh))) sh)))))) (xV (tC (.str "other"))) yu) (xV (tC (.str "many")))))))
def Dd(S:lI)(T:Addr):cq:=fun ds st K=>∃d,ds=[d]/\S [d] st K fun C st'=>C=T/\K (.str "many") st'
theorem E3{K:PySem.W.Frag}{L T c2 c3:Addr}{bm:List Value}{S:lI}(hT:mq K T bm=true)(hc:ym K T=true)(hL:(Value.ref T::bm).contains (.ref L)=true)(h1:PySem.W.kitOne K (.ref T) (.ref T)=some true)
 (h2:PySem.W.kitOne K (.ref T) (.type "ValueError")=some true) (h3:PySem.W.kitAny K (.ref T) [.ref c2,.ref c3]=some false) {vs:List V} {H:Hp} {Q:VK} (h:yw (Dd S T) vs H Q) {N:List Str} (hN:N.length=4):
 IA K L T c2 c3 S {nx:=fun _ H'=>Q .aC H',rt:=Q} (L2.start N vs) H:=by
 obtain⟨α,ds,st,K',G,F,P,rx,St,⟨d,rfl,q⟩,k⟩:=h
 obtain⟨v,rfl,rv⟩:∃v,vs=[v]/\Rep α G d v:=by
  unfold aG at rx;obtain⟨v,r,rfl,h1,h2⟩:=rx;unfold aG at h2;subst h2;exact⟨v,rfl,h1⟩
 have hs:L2.start N [v]=[some v,none,none,none]:=by
  unfold L2.start;rw[hN];rfl
 rw[hs];refine⟨v,rfl,α,[d],st,K',_,G,F,P,rx,St,q,fun d' st' kk α' G' H' v' s' P' S' r'=>?_,?_⟩
 . refine⟨.aC,rfl,true,rfl,?_⟩;exact⟨v',rfl,k d' st' kk α' G' H' v' s' P' S' r'⟩
 . rintro C st' ⟨rfl,kk⟩ α' G' H' s' P' S';refine⟨C,bm,rfl,hT,hL,fun a ha=>?_⟩;have hG:=(P'.none ha).1;have P1:bj (upd G' a (excAt a C)) F (upd H' a (excAt a C)):=P'.laid ha;have ea:upd H' a (excAt a C) a=some (excAt a C):=aK;refine⟨.ref a,rfl,false,rfl,?_⟩;refine⟨.ref a,rfl,a,C,bm,_,true,rfl,ea,hT,hc,.inl (fun u r=>by cases r;exact h1),true,rfl,?_⟩;refine⟨.ref a,rfl,a,C,bm,_,true,rfl,ea,hT,hc,.inl (fun u r=>by cases r;exact h2),true,rfl,?_⟩;refine⟨.ref a,rfl,Nat.le_of_ble_eq_true rfl,fun p hp=>?_⟩;have na:a≠p:=fun z=>by rw[<-z,ea]at hp;cases hp
   refine⟨a,C,bm,_,false,rfl,by rw[az na];exact ea,hT,hc,.inr ⟨p,_,rfl,aK,fun us r=>?_⟩,false,rfl,?_⟩
   . cases r with
     |cons r1 r=>
      cases r1;cases r with
      |cons r1 r=>
       cases r1;cases r;exact h3
   . have P2:bj (upd (upd G' a (excAt a C)) p (.tup [.ref c2,.ref c3])) F (upd (upd H' a (excAt a C)) p (.tup [.ref c2,.ref c3])):=P1.laid hp;exact k (.str "many") st' kk α' _ _ _ (s'.trans ((Step.laid hG).trans (Step.laid (P1.none hp).1))) P2 ((S'.laid hG).laid (P1.none hp).1) (by unfold Rep;rfl)
end L3
namespace L3
open PySem L2
open PySem.Spec hiding items?
open PyProof.Rows hiding St
@[irreducible] def JX(X:Cx)(E:XK)(s:Stmt)(t:kM):Prop:=PS X s (k6 E t)
@[irreducible] def nr(X:Cx)(E:XK)(s:List Stmt)(t:kM):Prop:=c9 X s (k6 E t)
section
variable {X:Cx}{E:XK}{c e:Expr}{es:List Expr}{t:DT}{pos p pos':Pos}{s:Stmt}{ss x y:List Stmt}{T U:kM}{V:DS}
theorem PS.gb{st:Stmt}{t:TS}(h:PS X.gb st t):PS X st t:=fun pins s σ H D I hw=>
 wpAny_mono (h pins s σ H D (I.iU _) hw) (fun _ _ q=>q.fb) fun _ _ z=>False.elim z
theorem PA.gb{t:TA}(h:PA X.gb es t):PA X es t:=fun pos pins s σ H Q I hw=>
 wpAny_mono (h pos pins s σ H Q (I.iU _) hw) (fun _ _ ⟨vs,H',I',r,q⟩=>⟨vs,H',I'.fb,r,q⟩) fun _ _ z=>False.elim z
theorem lG(h:JS X.gb s V):JX X E s (mr V):=by unfold JX;unfold JS at h;exact Ju (PS.gb h)
theorem E9:nr X E [] (mr dw):=by unfold nr;exact HA xB
theorem xr(h:JX X E s T):nr X E [s] T:=by unfold nr;unfold JX at h;exact Et h
theorem gh(h:JX X E s T)(h2:nr X E ss U):nr X E (s::ss) (lS T U):=by unfold nr at*;unfold JX at h;exact Bh h h2
theorem IF(hc:JT X.gb c t)(ha:nr X E x T)(hb:nr X E y U):JX X E (.If c x y pos) (FT t T U):=by unfold JX;unfold nr at*;unfold JT at hc;exact JY (PT.gb hc) ha hb
end
section
variable {P:Program}{w:World}{K:PySem.W.Frag}{mg:Str->Option Value}{base:Heap}{N:List Str}{qual:Str}{scope:Scope}{f:Addr}{cd:Value}{A:Around}{outer:List Env}{s:Shared}{H:Hp}{E:XK}
theorem BZ{x:Str}{C:Addr}{bm:List Value}{np cpos pos:Pos}{e:Expr}{es:List Expr}{t:DA}(hC:mq K C bm=true)(hm:mg x=some (.ref C))
 (ha:JA (eE (iP P w) P w K mg base N qual scope f cd A outer s H E).gb (e::es) t) (hd:(x==("__debug__":Str))=false) (hg:Gl (eE (iP P w) P w K mg base N qual scope f cd A outer s H E).gb x)
 (hs:notStar e=true:=by rfl) (hs2:eP es=true:=by rfl):
 JX (eE (iP P w) P w K mg base N qual scope f cd A outer s H E) E (.Raise (some (.Call (.Name x np) (e::es) [] cpos)) none pos) (vC C t):=by
 unfold JX;unfold JA at ha;exact Cg hC hm hg (PA.gb ha) hd (bw hs) (ir hs2)
theorem Hr{x:Str}{st:Stmt}{fd:FuncData}{ps:List Str}{k:Nat}{sp:lI}{t:kM}(F:jy K x qual st f fd)(S:aY N ps (ai st))
 (hbody:∀(cdv:Value) (A:Around) (outer:List Env) (s:Shared) (H:Hp) (E:XK),bO k (A.deeper (envOfC qual (ai st) s.heap.objs.size f cdv))->nr (eE (iP P w) P w K mg base N qual (ai st) f cdv A outer s H E) E (d_ st) t)
 (hsp:∀ds st K ex,sp ds st K ex->ds.length=ps.length/\t {nx:=fun _ st'=>K .aC st',rt:=K} ex (a7 N ds) st):bf P w K mg base (iP P w) (k+1) f fd ps (vW sp):=by
 unfold nr at hbody;exact F9 F S hbody hsp
end
theorem Fd{X:Cx}{x:Str}{i:Int}{t:Tok}{pos:Pos}(hm:X.mg x=some (.int i t))(hd:(x==("__debug__":Str))=false)(hg:Gl X x):JE X (.Name x pos) (dC (.int i)):=by
 unfold JE;exact PE.imp (o7 hg hm (v:= .int i) ⟨t,rfl⟩ hd) fun σ H Q ⟨α,σd,st,K,G,F,P,R,S,t,k⟩=>k.here P t S (by unfold Rep;rfl)
def yO(S:lI):cq:=fun ds st K=>S ds st K fun _ _=>False
theorem Ei{P:Program}{w:World}{K:PySem.W.Frag}{mg:Str->Option Value}{base:Heap}{k:Nat}{f:Addr}{fd:FuncData}{ps:List Str}{S:lI}(F:bf P w K mg base (iP P w) k f fd ps (vW S)):bf P w K mg base cz k f fd ps (cH (yO S)):=by
 have go:∀vs H Q,yw (yO S) vs H Q->yq S vs H Q fun _ _ _=>False:=fun vs H Q ⟨α,ds,st,K,G,F,P,r,S,q,k⟩=>⟨α,ds,st,K,_,G,F,P,r,S,q,k,fun C st' z=>z.elim⟩
 refine⟨fun vs H Q E h=>F.len vs H Q _ (go vs H Q h),fun A outer s H args us vs Q E hr he hb hv hs=>codeAny_mono (F.run A outer s H args us vs Q _ hr he hb hv (go vs H Q hs)) fun r s' hq=>?_⟩;cases r with
 |ok fl=>cases fl<;>exact hq
 |error e=>
  obtain⟨_,_,_,_,_,_,_,_,_,_,_,z⟩:=hq;exact z.elim
end L3
namespace Mx
def S:Nat->(Nat->Int)->Int
 |0,_=>0
 |n+1,f=>S n f+f n
theorem bI{n:Nat}{f g:Nat->Int}(h:∀i,i<n->f i=g i):S n f=S n g:=by
 induction n with
 |zero=>rfl
 |succ n ih=>unfold S;rw[ih fun i hi=>h i (by omega),h n (by omega)]
theorem qB{n:Nat}{f:Nat->Int}(h:∀i,i<n->f i=0):S n f=0:=by
 induction n with
 |zero=>rfl
 |succ n ih=>unfold S;rw[ih fun i hi=>h i (by omega),h n (by omega)];rfl
theorem m9(n:Nat)(f g:Nat->Int):S n (fun i=>f i+g i)=S n f+S n g:=by
 induction n with
 |zero=>rfl
 |succ n ih=>unfold S;rw[ih];dsimp only;omega
theorem oN(n:Nat)(c:Int)(f:Nat->Int):S n (fun i=>c*f i)=c*S n f:=by
 induction n with
 |zero=>unfold S;rw[Int.mul_zero]
 |succ n ih=>unfold S;rw[ih,Int.mul_add]
theorem Ax(n:Nat)(c:Int)(f:Nat->Int):S n (fun i=>f i*c)=S n f*c:=by
 induction n with
 |zero=>unfold S;rw[Int.zero_mul]
 |succ n ih=>unfold S;rw[ih,Int.add_mul]
theorem Du(n:Nat)(f:Nat->Int):S n (fun i=> -f i)= -S n f:=by
 induction n with
 |zero=>rfl
 |succ n ih=>unfold S;rw[ih];dsimp only;omega
theorem AQ(m n:Nat)(f:Nat->Nat->Int):S m (fun i=>S n fun j=>f i j)=S n fun j=>S m fun i=>f i j:=by
 induction m with
 |zero=>exact(qB (n:=n) (fun i _=>rfl)).symm
 |succ m ih=>
  have:S n (fun j=>S (m+1) fun i=>f i j)=S n fun j=>(S m fun i=>f i j)+f m j:=bI fun j _=>rfl;rw[this,m9,<-ih];rfl
theorem pe{n:Nat}{k:Nat}(hk:k<n){f:Nat->Int}(h:∀i,i<n->i≠k->f i=0):S n f=f k:=by
 induction n with
 |zero=>omega
 |succ n ih=>
  unfold S;by_cases e:k=n
  . subst e;rw[qB fun i hi=>h i (by omega) (by omega),Int.zero_add]
  . rw[ih (by omega) fun i hi hn=>h i (by omega) hn,h n (by omega) (by omega),Int.add_zero]
def dl(i j:Nat):Int:=if i=j then 1 else 0
theorem d7(i:Nat):dl i i=1:=if_pos rfl
theorem eG{i j:Nat}(h:i≠j):dl i j=0:=if_neg h
theorem qX{n k:Nat}(hk:k<n)(f:Nat->Int):S n (fun i=>dl k i*f i)=f k:=by
 rw[pe hk (fun i _ h=>by rw[eG (Ne.symm h),Int.zero_mul]),d7,Int.one_mul]
theorem uT{n k:Nat}(hk:k<n)(f:Nat->Int):S n (fun i=>f i*dl i k)=f k:=by
 rw[pe hk (fun i _ h=>by rw[eG h,Int.mul_zero]),d7,Int.mul_one]
abbrev Row:=List Int
abbrev Rows:=List (List Int)
def g(A:Rows)(i j:Nat):Int:=(A.getD i []).getD j 0
structure bZ(m n:Nat)(A:Rows):Prop where
 len:A.length=m
 nG:∀r∈A,r.length=n
theorem aU{α:Type}{l:List α}{i:Nat}{d:α}(h:i<l.length):l.getD i d=l[i]:=by
 rw[List.getD_eq_getElem?_getD,List.getElem?_eq_getElem h];rfl
theorem kn{α:Type}{l:List α}{i:Nat}{d:α}(h:l.length<=i):l.getD i d=d:=by
 rw[List.getD_eq_getElem?_getD,List.getElem?_eq_none h];rfl
theorem Ex{a b:Row}{n:Nat}(ha:a.length=n)(hb:b.length=n)(h:∀j,j<n->a.getD j 0=b.getD j 0):a=b:=by
 refine List.ext_getElem (by omega) fun i h1 h2=>?_;have:=h i (by omega);rwa [aU h1,aU h2]at this
theorem bZ.row{m n:Nat}{A:Rows}(h:bZ m n A){i:Nat}(hi:i<m):(A.getD i []).length=n:=by
 have hl:=h.len;rw[aU (by omega)];exact h.nG _ (List.getElem_mem _)
theorem bZ.ext{m n:Nat}{A B:Rows}(ha:bZ m n A)(hb:bZ m n B)(h:∀i j,i<m->j<n->g A i j=g B i j):A=B:=by
 have h1:=ha.len;have h2:=hb.len;refine List.ext_getElem (by omega) fun i hi hj=>?_;have e1:=ha.row (i:=i) (by omega);have e2:=hb.row (i:=i) (by omega);have:=Ex e1 e2 fun j hj=>h i j (by omega) hj;rwa [aU hi,aU hj]at this
def ck(r:Row)(t:Int)(s:Row):Row:=List.zipWith (fun a b=>a+t*b) r s
theorem pV{r s:Row}{t:Int}(h:r.length=s.length):(ck r t s).length=r.length:=by unfold ck;simp[h]
theorem oQ{r s:Row}{t:Int}(h:r.length=s.length)(j:Nat):(ck r t s).getD j 0=r.getD j 0+t*s.getD j 0:=by
 unfold ck;by_cases hj:j<r.length
 . rw[aU (by simp;omega),aU hj,aU (by omega)];simp
 . rw[kn (by simp;omega),kn (by omega),kn (by omega)];simp
theorem cY(n j:Nat):(List.replicate n (0:Int)).getD j 0=0:=by
 by_cases h:j<n
 . rw[aU (by simpa using h)];simp
 . rw[kn (by simp;omega)]
def iA(n i:Nat):Row:=(List.range n).map fun k=>dl k i
def units(n:Nat):Rows:=(List.range n).map fun i=>iA n i
theorem range_getD{α:Type}{f:Nat->α}{n i:Nat}{d:α}(h:i<n):((List.range n).map f).getD i d=f i:=by
 rw[aU (by simpa using h)];simp
theorem qw(n:Nat):bZ n n (units n):=⟨by simp[units],fun r hr=>by unfold units at hr;obtain⟨i,_,rfl⟩:=List.mem_map.mp hr;simp[iA]⟩
theorem je{n i j:Nat}(hi:i<n)(hj:j<n):g (units n) i j=dl i j:=by
 unfold g units iA;rw[range_getD hi,range_getD hj];unfold dl;by_cases h:i=j
 . subst h;rfl
 . rw[if_neg (Ne.symm h),if_neg h]
def se(A:Rows)(j:Nat):Row:=A.map fun r=>r.getD j 0
def Dn(A:Rows)(n:Nat):Rows:=(List.range n).map fun j=>se A j
def Gf:Row->Row->Int
 |a::as,b::bs=>a*b+Gf as bs
 |_,_=>0
theorem w6(i j:Nat):dl i j=dl j i:=by
 unfold dl;by_cases h:i=j
 . rw[if_pos h,if_pos h.symm]
 . rw[if_neg h,if_neg (Ne.symm h)]
def sw(i j k:Nat):Nat:=if k=i then j else if k=j then i else k
theorem KN{n i j:Nat}(hi:i<n)(hj:j<n)(hij:i≠j)(f:Nat->Int):S n (fun k=>f (sw i j k))=S n f:=by
 have:S n (fun k=>f (sw i j k))=S n fun k=>f k+(f j-f i)*dl k i+(f i-f j)*dl k j:=bI fun k _=>by
  unfold sw;by_cases h1:k=i
  . subst h1;rw[if_pos rfl,d7,eG hij];omega
  . rw[if_neg h1,eG h1];by_cases h2:k=j
    . subst h2;rw[if_pos rfl,d7];omega
    . rw[if_neg h2,eG h2];omega
 rw[this,m9,m9,uT (f:=fun _=>f j-f i) hi,uT (f:=fun _=>f i-f j) hj];omega
theorem lY{A:Rows}{i:Nat}{r:Row}(hi:i<A.length)(a k:Nat):g (A.set i r) a k=if a=i then r.getD k 0 else g A a k:=by
 have e:(A.set i r).getD a []=if a=i then r else A.getD a []:=by
  rw[List.getD_eq_getElem?_getD,List.getD_eq_getElem?_getD];by_cases h:a=i
  . subst h;rw[if_pos rfl,List.getElem?_set_self hi];rfl
  . rw[if_neg h,List.getElem?_set_ne (Ne.symm h)]
 unfold g;rw[e];by_cases h:a=i
 . rw[if_pos h,if_pos h]
 . rw[if_neg h,if_neg h]
theorem vY{m n i:Nat}{A:Rows}{r:Row}(h:bZ m n A)(hr:r.length=n):bZ m n (A.set i r):=⟨by rw[List.length_set];exact h.len,fun q hq=>by
 rcases List.mem_or_eq_of_mem_set hq with z|rfl
 . exact h.nG q z
 . exact hr⟩
abbrev Fn:=Nat->Nat->Int
def sk(j c:Nat):Nat:=if c<j then c else c+1
def sg(j:Nat):Int:=if j%2=0 then 1 else-1
def D:Nat->Fn->Int
 |0,_=>1
 |n+1,M=>S (n+1) fun j=>sg j*M 0 j*D n fun r c=>M (r+1) (sk j c)
def upd(M:Fn)(i:Nat)(x:Nat->Int):Fn:=fun r c=>if r=i then x c else M r c
theorem az{M:Fn}{i r:Nat}{x:Nat->Int}(h:r≠i)(c:Nat):upd M i x r c=M r c:=if_neg h
def un(j c:Nat):Nat:=if c<j then c else c-1
def tr(M:Fn):Fn:=fun r c=>M c r
def gx(R:Fn)(p:Nat)(x:Nat->Int)(j:Nat):Int:=D (p+1) fun r c=>if r<p then R r (if c<p then c else j)else x (if c<p then c else j)
def bt(R:Fn)(p:Nat)(x:Nat->Int)(k:Nat):Int:=D (p+1) (upd (fun c r=>if r<p then R r c else x c) p (dl k))
def cl(p j1 j2 c:Nat):Nat:=if c<p then c else if c=p then j1 else j2
def lam(G:Fn)(i j:Nat):Int:=gx G j (G i) j
def KZ(A:Rows):Fn:=fun i j=>Gf (A.getD i []) (A.getD j [])
def JF(G:Fn)(i:Nat):Row:=(List.range (i+1)).map fun j=>lam G i j
def Hq(G:Fn)(n:Nat):Rows:=(List.range n).map (JF G)
def RA(A:Rows)(N:Nat):Fn:=fun i j=>if j<N then KZ A i j else(A.getD i []).getD (j-N) 0
def ev(A:Rows)(N i k c:Nat):Int:=gx (RA A N) k (RA A N i) (N+c)
theorem yN(n:Nat)(a b:Int)(f g:Nat->Int):S n (fun c=>a*f c-b*g c)=a*S n f-b*S n g:=by
 induction n with
 |zero=>show(0:Int)=a*0-b*0;omega
 |succ n ih=>
  show S n (fun c=>a*f c-b*g c)+(a*f n-b*g n)=a*(S n f+f n)-b*(S n g+g n);rw[ih,Int.mul_add,Int.mul_add];omega
section
variable {A:Rows}{N w:Nat}
end
def Lu(M:Fn)(k j:Nat)(q:Int):Fn:=fun a b=>if a=k then M a b-q*M j b else M a b
def LB(M:Fn)(k j:Nat)(q:Int):Fn:=fun a b=>if b=k then M a b-q*M a j else M a b
def tk(G:Fn)(k j:Nat)(q:Int):Fn:=LB (Lu G k j q) k j q
section
variable {G:Fn}{t:Nat}(sym:∀i j,G i j=G j i)
include sym
end
section
variable {A:Rows}{N w:Nat}
theorem bR(hA:bZ N w A){i:Nat}(hi:i<N):(A.getD i []).length=w:=hA.nG _ (by have:=hA.len;rw[aU (by omega)];exact List.getElem_mem _)
end
def bh(A:Rows)(k:Nat)(q:Int)(j:Nat):Rows:=A.set k (ck (A.getD k []) (-q) (A.getD j []))
def a8(A:Rows)(k o:Nat):Rows:=(A.set k (A.getD o [])).set o (A.getD k [])
theorem jc{A:Rows}{k i:Nat}{r:Row}(hk:k<A.length):(A.set k r).getD i []=if i=k then r else A.getD i []:=by
 rw[List.getD_eq_getElem?_getD,List.getElem?_set];by_cases h:k=i
 . rw[if_pos h,if_pos (by omega),if_pos h.symm];rfl
 . rw[if_neg h,if_neg (Ne.symm h),List.getD_eq_getElem?_getD]
theorem AV{A:Rows}{k j:Nat}{q:Int}:(bh A k q j).length=A.length:=by unfold bh;rw[List.length_set]
theorem qz{A:Rows}{N w k j:Nat}{q:Int}(hA:bZ N w A)(hk:k<N)(hj:j<N):bZ N w (bh A k q j):=by
 refine⟨AV.trans hA.len,fun r hr=>?_⟩;unfold bh at hr;rcases List.mem_or_eq_of_mem_set hr with h|rfl
 . exact hA.nG r h
 . rw[pV (by rw[bR hA hk,bR hA hj]),bR hA hk]
structure Tn(A0 A U C:Rows)(N w:Nat):Prop where
 isA:bZ N w A
 eM:bZ N N U
 fC:bZ N N C
 ua:∀i c,i<N->c<w->g A i c=S N fun k=>g U i k*g A0 k c
 ub:∀i j,i<N->j<N->S N (fun k=>g U i k*g C j k)=dl i j
 bu:∀i j,i<N->j<N->S N (fun k=>g C k i*g U k j)=dl i j
theorem dS{A:Rows}{N w k j:Nat}{q:Int}(hA:bZ N w A)(hk:k<N)(hj:j<N)(i c:Nat):g (bh A k q j) i c=if i=k then g A k c-q*g A j c else g A i c:=by
 unfold g bh;have hl:=hA.len;rw[jc (by omega)];by_cases h:i=k
 . rw[if_pos h,if_pos h,oQ (by rw[bR hA hk,bR hA hj]),Int.neg_mul];omega
 . rw[if_neg h,if_neg h]
theorem qQ(n:Nat)(a b:Int)(f h:Nat->Int):S n (fun c=>a*f c+b*h c)=a*S n f+b*S n h:=by
 rw[m9,oN,oN]
theorem Tn.take{A0 A U C:Rows}{N w k j:Nat}{q:Int}(T:Tn A0 A U C N w)(hk:k<N)(hj:j<N)(hkj:j≠k):Tn A0 (bh A k q j) (bh U k q j) (bh C j (-q) k) N w where
 isA:=qz T.isA hk hj
 eM:=qz T.eM hk hj
 fC:=qz T.fC hj hk
 ua:=fun i c hi hc=>by
  rw[dS T.isA hk hj];have e:S N (fun m=>g (bh U k q j) i m*g A0 m c)=S N fun m=>(if i=k then g U k m-q*g U j m else g U i m)*g A0 m c:=bI fun m _=>by rw[dS T.eM hk hj]
  rw[e];by_cases h:i=k
  . simp only[if_pos h];rw[T.ua k c hk hc,T.ua j c hj hc];have e2:S N (fun m=>(g U k m-q*g U j m)*g A0 m c)=S N fun m=>1*(g U k m*g A0 m c)-q*(g U j m*g A0 m c):=bI fun m _=>by grind
    rw[e2,yN];omega
  . simp only[if_neg h];exact T.ua i c hi hc
 ub:=fun i l hi hl=>by
  have e:S N (fun m=>g (bh U k q j) i m*g (bh C j (-q) k) l m)=S N fun m=>(if i=k then g U k m-q*g U j m else g U i m)*(if l=j then g C j m- -q*g C k m else g C l m):=bI fun m _=>by rw[dS T.eM hk hj,dS T.fC hj hk]
  rw[e];have djk:dl j k=0:=eG hkj;by_cases h:i=k
  . by_cases h2:l=j
    . simp only[if_pos h,if_pos h2];have e2:S N (fun m=>(g U k m-q*g U j m)*(g C j m- -q*g C k m))=S N fun m=>1*(1*(g U k m*g C j m)+q*(g U k m*g C k m))-q*(1*(g U j m*g C j m)+q*(g U j m*g C k m)):=bI fun m _=>by grind
      rw[e2,yN,qQ,qQ,T.ub k j hk hj,T.ub k k hk hk,T.ub j j hj hj,T.ub j k hj hk,h,h2,d7,d7,djk,w6 k j,djk];omega
    . simp only[if_pos h,if_neg h2];have e2:S N (fun m=>(g U k m-q*g U j m)*g C l m)=S N fun m=>1*(g U k m*g C l m)-q*(g U j m*g C l m):=bI fun m _=>by grind
      rw[e2,yN,T.ub k l hk hl,T.ub j l hj hl,h,eG (Ne.symm h2)];omega
  . by_cases h2:l=j
    . simp only[if_neg h,if_pos h2];have e2:S N (fun m=>g U i m*(g C j m- -q*g C k m))=S N fun m=>1*(g U i m*g C j m)+q*(g U i m*g C k m):=bI fun m _=>by grind
      rw[e2,qQ,T.ub i j hi hj,T.ub i k hi hk,h2,eG h];omega
    . simp only[if_neg h,if_neg h2];exact T.ub i l hi hl
 bu:=fun i l hi hl=>by
  have e:S N (fun m=>g (bh C j (-q) k) m i*g (bh U k q j) m l)=S N fun m=>g C m i*g U m l+((q*(g C k i*g U j l))*dl m j+(-(q*(g C k i*g U j l)))*dl m k):=bI fun m _=>by
   rw[dS T.eM hk hj,dS T.fC hj hk];by_cases h1:m=j
   . have h2:m≠k:=by omega
     rw[if_pos h1,if_neg h2,h1,d7,eG hkj];grind
   . rw[if_neg h1,eG h1];by_cases h2:m=k
     . rw[if_pos h2,h2,d7];grind
     . rw[if_neg h2,eG h2];grind
  rw[e,m9,qQ,T.bu i l hi hl]
  have e1:S N (fun c=>dl c j)=1:=by
   rw[pe hj fun i _ h=>eG h,d7]
  have e2:S N (fun c=>dl c k)=1:=by
   rw[pe hk fun i _ h=>eG h,d7]
  rw[e1,e2];omega
theorem vZ{A:Rows}{k o i:Nat}(hk:k<A.length)(ho:o<A.length):(a8 A k o).getD i []=A.getD (sw k o i) []:=by
 unfold a8;rw[jc (by rw[List.length_set];exact ho),jc hk];unfold sw;by_cases h1:i=k
 . rw[if_pos h1,if_pos h1];by_cases h2:i=o
   . rw[if_pos h2,<-h1,<-h2]
   . rw[if_neg h2]
 . rw[if_neg h1,if_neg h1];by_cases h2:i=o
   . rw[if_pos h2,if_pos h2]
   . rw[if_neg h2,if_neg h2]
theorem qh{A:Rows}{N w k o:Nat}(hA:bZ N w A)(hk:k<N)(ho:o<N):bZ N w (a8 A k o):=by
 refine⟨by unfold a8;rw[List.length_set,List.length_set];exact hA.len,fun r hr=>?_⟩;unfold a8 at hr;rcases List.mem_or_eq_of_mem_set hr with h|rfl
 . rcases List.mem_or_eq_of_mem_set h with h|rfl
   . exact hA.nG r h
   . exact bR hA ho
 . exact bR hA hk
theorem iF{A:Rows}{N w k o:Nat}(hA:bZ N w A)(hk:k<N)(ho:o<N)(i c:Nat):g (a8 A k o) i c=g A (sw k o i) c:=by
 unfold g;rw[vZ (by have:=hA.len;omega) (by have:=hA.len;omega)]
theorem oa{k o N i:Nat}(hk:k<N)(ho:o<N)(hi:i<N):sw k o i<N:=by unfold sw;split<;>(try split)<;>assumption
theorem Ac(k o x:Nat):sw k o (sw k o x)=x:=by
 unfold sw;by_cases h1:x=k
 . subst h1;rw[if_pos rfl];by_cases h2:o=x
   . rw[if_pos h2];exact h2
   . rw[if_neg h2,if_pos rfl]
 . rw[if_neg h1];by_cases h2:x=o
   . subst h2;rw[if_pos rfl,if_pos rfl]
   . rw[if_neg h2,if_neg h1,if_neg h2]
theorem JP{k o a b:Nat}:dl (sw k o a) (sw k o b)=dl a b:=by
 by_cases h:a=b
 . rw[h,d7,d7]
 . rw[eG h,eG fun z=>h (by rw[<-Ac k o a,<-Ac k o b,z])]
theorem EL(k x:Nat):sw k k x=x:=by
 unfold sw;by_cases h:x=k
 . rw[if_pos h,h]
 . rw[if_neg h,if_neg h]
theorem Ik{n i j:Nat}(hi:i<n)(hj:j<n)(f:Nat->Int):S n (fun k=>f (sw i j k))=S n f:=by
 by_cases h:i=j
 . subst h;exact bI fun k _=>by rw[EL]
 . exact KN hi hj h f
theorem Tn.C7{A0 A U C:Rows}{N w k o:Nat}(T:Tn A0 A U C N w)(hk:k<N)(ho:o<N):Tn A0 (a8 A k o) (a8 U k o) (a8 C k o) N w where
 isA:=qh T.isA hk ho
 eM:=qh T.eM hk ho
 fC:=qh T.fC hk ho
 ua:=fun i c hi hc=>by
  rw[iF T.isA hk ho,T.ua _ c (oa hk ho hi) hc];exact bI fun m _=>by rw[iF T.eM hk ho]
 ub:=fun i j hi hj=>by
  rw[<-JP (k:=k) (o:=o),<-T.ub _ _ (oa hk ho hi) (oa hk ho hj)];exact bI fun m _=>by rw[iF T.eM hk ho,iF T.fC hk ho]
 bu:=fun i j hi hj=>by
  rw[<-T.bu i j hi hj,<-Ik hk ho fun m=>g C m i*g U m j];exact bI fun m _=>by rw[iF T.eM hk ho,iF T.fC hk ho]
def fx(A:Rows)(k:Nat):Rows:=A.set k ((A.getD k []).map fun x=> -x)
theorem uO{A:Rows}{N w k:Nat}(hA:bZ N w A)(hk:k<N):bZ N w (fx A k):=by
 refine⟨by unfold fx;rw[List.length_set];exact hA.len,fun r hr=>?_⟩;unfold fx at hr;rcases List.mem_or_eq_of_mem_set hr with h|rfl
 . exact hA.nG r h
 . rw[List.length_map];exact bR hA hk
theorem Cr(r:Row)(c:Nat):(r.map fun x=> -x).getD c 0= -r.getD c 0:=by
 rw[List.getD_eq_getElem?_getD,List.getD_eq_getElem?_getD,List.getElem?_map];cases r[c]?<;>rfl
theorem iL{A:Rows}{N w k:Nat}(hA:bZ N w A)(hk:k<N)(i c:Nat):g (fx A k) i c=if i=k then-g A k c else g A i c:=by
 unfold g fx;rw[jc (by have:=hA.len;omega)];by_cases h:i=k
 . rw[if_pos h,if_pos h,Cr]
 . rw[if_neg h,if_neg h]
theorem Tn.neg{A0 A U C:Rows}{N w k:Nat}(T:Tn A0 A U C N w)(hk:k<N):Tn A0 (fx A k) (fx U k) (fx C k) N w where
 isA:=uO T.isA hk
 eM:=uO T.eM hk
 fC:=uO T.fC hk
 ua:=fun i c hi hc=>by
  rw[iL T.isA hk];by_cases h:i=k
  . rw[if_pos h,T.ua k c hk hc,<-Du];exact bI fun m _=>by rw[iL T.eM hk,if_pos h,Int.neg_mul]
  . rw[if_neg h,T.ua i c hi hc];exact bI fun m _=>by rw[iL T.eM hk,if_neg h]
 ub:=fun i j hi hj=>by
  have e:S N (fun m=>g (fx U k) i m*g (fx C k) j m)=S N fun m=>(if i=k then-1 else 1)*(if j=k then-1 else 1)*(g U i m*g C j m):=bI fun m _=>by
   rw[iL T.eM hk,iL T.fC hk];by_cases h1:i=k<;>by_cases h2:j=k<;>simp only[h1,h2,if_true,if_false]<;>grind
  rw[e,oN,T.ub i j hi hj];by_cases h1:i=k
  . by_cases h2:j=k
    . simp[h1,h2]
    . rw[eG (by omega)];simp
  . by_cases h2:j=k
    . rw[eG (by omega)];simp
    . simp[h1,h2]
 bu:=fun i j hi hj=>by
  rw[<-T.bu i j hi hj]
  exact bI fun m _=>by
   rw[iL T.eM hk,iL T.fC hk];by_cases h:m=k
   . subst h;rw[if_pos rfl,if_pos rfl];grind
   . rw[if_neg h,if_neg h]
structure ij(A:Rows)(N top p:Nat)(L:List Nat):Prop where
 mem:∀k,k∈L↔top<=k/\k<N/\g A k p≠0
 ord:L.Pairwise fun i j=>(g A i p).natAbs<=(g A j p).natAbs
 nd:L.Nodup
structure B3 where
 A:Rows
 U:Rows
 C:Rows
def qn(x y:Int):Int:=(2*x+y).fdiv (2*y)
def iM(b:B3)(p k j:Nat):B3:=⟨bh b.A k (qn (g b.A k p) (g b.A j p)) j,bh b.U k (qn (g b.A k p) (g b.A j p)) j,bh b.C j (-(qn (g b.A k p) (g b.A j p))) k⟩
def C3(N top p:Nat)(b c:B3):Prop:=∃(L:List Nat) (k j:Nat),ij b.A N top p (L++[j,k])/\c=iM b p k j
inductive dN(N top p:Nat):B3->B3->Prop
 |refl (b:B3):dN N top p b b
 |head {b c d:B3} (h:C3 N top p b c) (t:dN N top p c d):dN N top p b d
theorem dN.tail{N top p:Nat}{b c d:B3}(h:dN N top p b c)(t:C3 N top p c d):dN N top p b d:=by
 induction h with
 |refl b=>exact .head t (.refl _)
 |head x _ ih=>exact .head x (ih t)
def gw(X:Rows)(N top m:Nat):Prop:=∀i c,top<=i->i<N->(g X i c).natAbs<=m
def PR(f:Nat->Nat):Nat->Nat
 |0=>1
 |n+1=>PR f n*f n
theorem Am{f:Nat->Nat}(h:∀i,1<=f i):∀n,1<=PR f n
 |0=>Nat.le_refl _
 |n+1=>Nat.mul_le_mul (Am h n) (h n)
theorem wj{f f':Nat->Nat}:∀ {n:Nat},(∀i,i<n->f i=f' i)->PR f n=PR f' n
 |0,_=>rfl
 |n+1,h=>by
  show PR f n*f n=PR f' n*f' n;rw[wj fun i hi=>h i (Nat.lt_succ_of_lt hi),h n (Nat.lt_succ_self n)]
theorem Ah{f f':Nat->Nat}{k:Nat}:∀ {n:Nat},k<n->(∀i,i≠k->f i=f' i)->PR f n*f' k=PR f' n*f k
 |0,hk,_=>absurd hk (Nat.not_lt_zero _)
 |n+1,hk,h=>by
  show PR f n*f n*f' k=PR f' n*f' n*f k;by_cases e:k=n
  . subst e;rw[wj (n:=k) fun i hi=>h i (Nat.ne_of_lt hi),Nat.mul_assoc,Nat.mul_comm (f k),Nat.mul_assoc]
  . have:=Ah (n:=n) (by omega) h;rw[h n (Ne.symm e),Nat.mul_right_comm,this,Nat.mul_right_comm]
theorem CU{f:Nat->Nat}{m top:Nat}(hm:1<=m):∀ {n:Nat},(∀i,i<n->i<top->f i<=1)->(∀i,i<n->f i<=m)->PR f n<=m^(n-top)
 |0,_,_=>by simp[PR]
 |n+1,h1,h2=>by
  have ih:=CU hm (n:=n) (fun i hi=>h1 i (Nat.lt_succ_of_lt hi)) fun i hi=>h2 i (Nat.lt_succ_of_lt hi);show PR f n*f n<=_;by_cases ht:n<top
  . have z:n+1-top=n-top:=by omega
    rw[z];exact Nat.le_trans (Nat.mul_le_mul ih (h1 n (Nat.lt_succ_self n) ht)) (by rw[Nat.mul_one];exact Nat.le_refl _)
  . have z:n+1-top=(n-top)+1:=by omega
    rw[z,Nat.pow_succ];exact Nat.mul_le_mul ih (h2 n (Nat.lt_succ_self n))
def wt(A:Rows)(top p i:Nat):Nat:=if top<=i/\g A i p≠0 then 2*(g A i p).natAbs else 1
theorem zw(A:Rows)(top p i:Nat):1<=wt A top p i:=by
 unfold wt;split<;>omega
theorem rZ{x y:Int}(hy:y≠0):2*(x-qn x y*y).natAbs<=y.natAbs:=by
 unfold qn;have h1:=Int.mul_fdiv_add_fmod (2*x+y) (2*y);have h2:(2*x+y).fmod (2*y)=2*x+y-2*y*(2*x+y).fdiv (2*y):=by omega
 generalize(2*x+y).fdiv (2*y)=q at*;have e:2*(x-q*y)=(2*x+y).fmod (2*y)-y:=by rw[h2];grind
 rcases Int.lt_or_gt_of_ne hy with h|h
 . have a0:=Int.neg_fmod_neg (2*x+y) (2*y);have a1:=Int.fmod_nonneg_of_pos (-(2*x+y)) (show 0< -(2*y) by omega);have a2:=Int.fmod_lt_of_pos (-(2*x+y)) (show 0< -(2*y) by omega);omega
 . have a1:=Int.fmod_nonneg_of_pos (2*x+y) (show 0<2*y by omega);have a2:=Int.fmod_lt_of_pos (2*x+y) (show 0<2*y by omega);omega
theorem Ft{x y:Int}(hy:y≠0)(hxy:y.natAbs<=x.natAbs):(1+(qn x y).natAbs)*(if x-qn x y*y≠0 then 2*(x-qn x y*y).natAbs else 1)<=2*x.natAbs:=by
 have h2:=rZ (x:=x) hy;generalize qn x y=q at*;generalize hr:x-q*y=r at*;have hx:x=q*y+r:=by omega
 have hq:(q*y).natAbs=q.natAbs*y.natAbs:=Int.natAbs_mul ..;by_cases h0:r=0
 . rw[if_neg (fun z=>z h0),Nat.mul_one];subst h0;have hxa:x.natAbs=q.natAbs*y.natAbs:=by rw[<-hq,hx];simp
   have hy1:1<=y.natAbs:=by omega
   have hq1:1<=q.natAbs:=by
    rcases Nat.eq_zero_or_pos q.natAbs with z|z
    . rw[z,Nat.zero_mul]at hxa;omega
    . exact z
   have:q.natAbs<=q.natAbs*y.natAbs:=Nat.le_mul_of_pos_right _ hy1;omega
 . rw[if_pos h0];have hr1:1<=r.natAbs:=by omega
   have key:(1+q.natAbs)*r.natAbs<=x.natAbs:=by
    rcases Nat.lt_or_ge q.natAbs 2 with hlt|hge
    . rcases Nat.lt_or_ge q.natAbs 1 with h|h
      . have zq:q=0:=Int.natAbs_eq_zero.mp (Nat.le_zero.mp (Nat.le_of_lt_succ h));subst zq;simp at hx;subst hx;simp
      . have z:q.natAbs=1:=Nat.le_antisymm (Nat.le_of_lt_succ hlt) h;rw[z];exact Nat.le_trans h2 hxy
    . have h3:(q*y).natAbs<=x.natAbs+r.natAbs:=by omega
      rw[hq]at h3;have h4:q.natAbs*(2*r.natAbs)<=q.natAbs*y.natAbs:=Nat.mul_le_mul_left _ h2;have h5:2*r.natAbs<=q.natAbs*r.natAbs:=Nat.mul_le_mul_right _ hge;have h6:q.natAbs*(2*r.natAbs)=q.natAbs*r.natAbs+q.natAbs*r.natAbs:=by rw[Nat.mul_left_comm];omega
      rw[Nat.add_mul,Nat.one_mul];omega
   have:(1+q.natAbs)*(2*r.natAbs)=2*((1+q.natAbs)*r.natAbs):=by rw[Nat.mul_left_comm]
   omega
structure nh(A0:Rows)(N w top p m:Nat)(b0 b:B3)(gr:Nat):Prop where
 tn:Tn A0 b.A b.U b.C N w
 up:∀i,i<top->b.A.getD i []=b0.A.getD i []/\b.U.getD i []=b0.U.getD i []/\b.C.getD i []=b0.C.getD i []
 lA:gw b.A N top (m*gr)
 lU:gw b.U N top (m*gr)
 lC:gw b.C N top (m*gr)
 zs:∀i c,top<=i->i<N->c<p->g b.A i c=0
 J6:gr*PR (wt b.A top p) N<=PR (wt b0.A top p) N
 pos:1<=gr
 IG:b=b0\/∃j,top<=j/\j<N/\g b.A j p≠0
theorem pW{X:Rows}{N w top k j m gr:Nat}{q:Int}(hX:bZ N w X)(hk:k<N)(hj:j<N)(hkt:top<=k)(hjt:top<=j)(h:gw X N top (m*gr)):gw (bh X k q j) N top (m*(gr*(1+q.natAbs))):=fun i c hi hN=>by
 rw[dS hX hk hj];have e:m*(gr*(1+q.natAbs))=m*gr+q.natAbs*(m*gr):=by rw[<-Nat.mul_assoc,Nat.mul_add,Nat.mul_one,Nat.mul_comm (m*gr) q.natAbs]
 rw[e];by_cases hik:i=k
 . rw[if_pos hik];have h1:=h k c hkt hk;have h2:=h j c hjt hj;have h3:(q*g X j c).natAbs<=q.natAbs*(m*gr):=by rw[Int.natAbs_mul];exact Nat.mul_le_mul_left _ h2
   exact Nat.le_trans (Int.natAbs_sub_le _ _) (Nat.add_le_add h1 h3)
 . rw[if_neg hik];exact Nat.le_trans (h i c hi hN) (Nat.le_add_right _ _)
theorem iw{X:Rows}{k j i:Nat}{q:Int}(hk:k<X.length)(h:i≠k):(bh X k q j).getD i []=X.getD i []:=by
 unfold bh;rw[jc hk,if_neg h]
theorem half_lt{r y x:Nat}(h:2*r<=y)(h2:y<=x)(h3:0<x):r<x:=by omega
theorem nh.step{A0:Rows}{N w top p m gr:Nat}{b0 b:B3}{L:List Nat}{k j:Nat}(G:nh A0 N w top p m b0 b gr)(hp:p<w)(hL:ij b.A N top p (L++[j,k])):
 nh A0 N w top p m b0 (iM b p k j) (gr*(1+(qn (g b.A k p) (g b.A j p)).natAbs))/\(g (iM b p k j).A k p).natAbs<(g b.A k p).natAbs/\(∀i,i≠k->g (iM b p k j).A i p=g b.A i p)/\top<=k/\k<N/\top<=j/\j<N/\j≠k/\g b.A j p≠0:=by
 obtain⟨hk1,hk2,hk3⟩:=(hL.mem k).mp (by simp);obtain⟨hj1,hj2,hj3⟩:=(hL.mem j).mp (by simp);have hord:=hL.ord;rw[List.pairwise_append]at hord;have hle:=(List.pairwise_cons.mp hord.2.1).1 k (by simp);have hnd:=hL.nd;rw[List.nodup_append]at hnd;have hjk:j≠k:=fun z=>(List.nodup_cons.mp hnd.2.1).1 (by rw[z];exact List.mem_singleton.mpr rfl)
 have gk:g (iM b p k j).A k p=g b.A k p-qn (g b.A k p) (g b.A j p)*g b.A j p:=by
  show g (bh b.A k _ j) k p=_;rw[dS G.tn.isA hk2 hj2,if_pos rfl]
 have gi:∀i,i≠k->g (iM b p k j).A i p=g b.A i p:=fun i hi=>by
  show g (bh b.A k _ j) i p=_;rw[dS G.tn.isA hk2 hj2,if_neg hi]
 have hrest:=rZ (x:=g b.A k p) hj3;have hgrow:=Ft (x:=g b.A k p) hj3 hle;refine⟨⟨G.tn.take hk2 hj2 hjk,fun i hi=>?_,pW G.tn.isA hk2 hj2 hk1 hj1 G.lA,pW G.tn.eM hk2 hj2 hk1 hj1 G.lU,?_,fun i c hi hN hc=>?_,?_,?_,.inr ⟨j,hj1,hj2,by rw[gi j hjk];exact hj3⟩⟩,?_,gi,hk1,hk2,hj1,hj2,hjk,hj3⟩
 . obtain⟨a1,a2,a3⟩:=G.up i hi;refine⟨(iw (by rw[G.tn.isA.len];exact hk2) (by omega)).trans a1,(iw (by rw[G.tn.eM.len];exact hk2) (by omega)).trans a2,(iw (by rw[G.tn.fC.len];exact hj2) (by omega)).trans a3⟩
 . have:=pW (q:= -(qn (g b.A k p) (g b.A j p))) G.tn.fC hj2 hk2 hj1 hk1 G.lC;rw[Int.natAbs_neg]at this;exact this
 . show g (bh b.A k _ j) i c=0;rw[dS G.tn.isA hk2 hj2];by_cases h:i=k
   . rw[if_pos h,G.zs k c hk1 hk2 hc,G.zs j c hj1 hj2 hc,Int.mul_zero];rfl
   . rw[if_neg h];exact G.zs i c hi hN hc
 . have e:=Ah (f:=wt (iM b p k j).A top p) (f':=wt b.A top p) (k:=k) hk2 fun i hi=>by unfold wt;rw[gi i hi]
   have w1:wt b.A top p k=2*(g b.A k p).natAbs:=by unfold wt;rw[if_pos ⟨hk1,hk3⟩]
   have w2:(1+(qn (g b.A k p) (g b.A j p)).natAbs)*wt (iM b p k j).A top p k<=wt b.A top p k:=by
    rw[w1];unfold wt;rw[gk];by_cases h0:g b.A k p-qn (g b.A k p) (g b.A j p)*g b.A j p=0
    . rw[if_neg (fun z=>z.2 h0)];rw[if_neg (fun z=>z h0)]at hgrow;exact hgrow
    . rw[if_pos ⟨hk1,h0⟩];rw[if_pos h0]at hgrow;exact hgrow
   have hw:0<wt b.A top p k:=zw _ _ _ _;refine Nat.le_of_mul_le_mul_right (c:=wt b.A top p k) ?_ hw
   have s1:gr*(1+(qn (g b.A k p) (g b.A j p)).natAbs)*PR (wt (iM b p k j).A top p) N*wt b.A top p k=gr*PR (wt b.A top p) N*((1+(qn (g b.A k p) (g b.A j p)).natAbs)*wt (iM b p k j).A top p k):=by
    rw[Nat.mul_assoc _ (PR _ N),e];simp only[Nat.mul_assoc,Nat.mul_left_comm]
   rw[s1];exact Nat.mul_le_mul G.J6 w2
 . exact Nat.mul_pos G.pos (by omega)
 . rw[gk];exact half_lt hrest hle (Int.natAbs_pos.mpr hk3)
theorem nh.low{A0:Rows}{N w top p e gr:Nat}{b0 b:B3}(G:nh A0 N w top p (2^e) b0 b gr)(h0:gw b0.A N top (2^e)):2^e*gr<=2^((N-top+1)*(e+1)):=by
 have h1:gr<=PR (wt b0.A top p) N:=Nat.le_trans (Nat.le_mul_of_pos_right _ (Am (zw _ _ _) N)) G.J6
 have h2:PR (wt b0.A top p) N<=(2^(e+1))^(N-top):=CU Nat.one_le_two_pow (fun i _ ht=>by unfold wt;rw[if_neg (by omega)];exact Nat.le_refl _) fun i hi=>by
  unfold wt;split
  . rename_i h;have:=h0 i p h.1 hi;rw[Nat.pow_succ];omega
  . exact Nat.one_le_two_pow
 refine Nat.le_trans (Nat.mul_le_mul_left _ (Nat.le_trans h1 h2)) ?_;rw[<-Nat.pow_mul,<-Nat.pow_add];refine Nat.pow_le_pow_right (by decide) ?_;have e1:(N-top+1)*(e+1)=(e+1)*(N-top)+(e+1):=by rw[Nat.add_mul,Nat.one_mul,Nat.mul_comm]
 rw[e1];omega
structure f_(A0:Rows)(N w:Nat)(b:B3)(top p:Nat)(ld:Nat->Nat)(e u:Nat):Prop where
 tn:Tn A0 b.A b.U b.C N w
 le:top<=N
 lo:gw b.A N top (2^e)/\gw b.U N top (2^e)/\gw b.C N top (2^e)
 hi:∀i c,i<top->(g b.A i c).natAbs<=2^u/\(g b.U i c).natAbs<=2^u/\(g b.C i c).natAbs<=2^u
 zs:∀i c,top<=i->i<N->c<p->g b.A i c=0
 lead:∀i,i<top->ld i<p/\0<g b.A i (ld i)/\∀c,c<ld i->g b.A i c=0
 mono:∀i j,i<j->j<top->ld i<ld j
 red:∀i j,i<j->j<top->0<=g b.A i (ld j)/\g b.A i (ld j)<g b.A j (ld j)
theorem f_.xQ{A0:Rows}{N w top p e u:Nat}{b:B3}{ld:Nat->Nat}(S:f_ A0 N w b top p ld e u):nh A0 N w top p (2^e) b b 1:=
 ⟨S.tn,fun _ _=>⟨rfl,rfl,rfl⟩,by rw[Nat.mul_one];exact S.lo.1,by rw[Nat.mul_one];exact S.lo.2.1,by rw[Nat.mul_one];exact S.lo.2.2,S.zs,by rw[Nat.one_mul];exact Nat.le_refl _,Nat.le_refl _,.inl rfl⟩
theorem f_.skip{A0:Rows}{N w top p e u:Nat}{b:B3}{ld:Nat->Nat}(S:f_ A0 N w b top p ld e u)(h:ij b.A N top p []):f_ A0 N w b top (p+1) ld e u:=
 ⟨S.tn,S.le,S.lo,S.hi,fun i c h1 h2 h3=>by
  by_cases hc:c=p
  . subst hc;exact Classical.byContradiction fun z=>absurd ((h.mem i).mpr ⟨h1,h2,z⟩) (by simp)
  . exact S.zs i c h1 h2 (by omega),fun i hi=>⟨Nat.lt_succ_of_lt (S.lead i hi).1,(S.lead i hi).2⟩,S.mono,S.red⟩
def setB(b:B3)(p top r:Nat):B3:=
 if g (a8 b.A top r) top p<0 then⟨fx (a8 b.A top r) top,fx (a8 b.U top r) top,fx (a8 b.C top r) top⟩else⟨a8 b.A top r,a8 b.U top r,a8 b.C top r⟩
theorem p7{X:Rows}{N w top r m:Nat}(hX:bZ N w X)(ht:top<N)(hr:r<N)(hrt:top<=r)(h:gw X N top m):gw (a8 X top r) N top m:=fun i c hi hN=>by
 rw[iF hX ht hr];refine h _ c ?_ (oa ht hr hN);unfold sw;split
 . exact hrt
 . split
   . exact Nat.le_refl _
   . exact hi
theorem uW{X:Rows}{N w top m:Nat}(hX:bZ N w X)(ht:top<N)(h:gw X N top m):gw (fx X top) N top m:=fun i c hi hN=>by
 rw[iL hX ht];split
 . rw[Int.natAbs_neg];exact h top c (Nat.le_refl _) ht
 . exact h i c hi hN
theorem qy{X:Rows}{N w top r i:Nat}(hX:bZ N w X)(ht:top<N)(hr:r<N)(hrt:top<=r)(hi:i<top):(a8 X top r).getD i []=X.getD i []:=by
 rw[vZ (by have:=hX.len;omega) (by have:=hX.len;omega)];unfold sw;rw[if_neg (by omega),if_neg (by omega)]
theorem uM{X:Rows}{N w top i:Nat}(hX:bZ N w X)(ht:top<N)(hi:i<top):(fx X top).getD i []=X.getD i []:=by
 unfold fx;rw[jc (by have:=hX.len;omega),if_neg (by omega)]
structure lR(A0:Rows)(N w top p m:Nat)(b0 b:B3):Prop where
 tn:Tn A0 b.A b.U b.C N w
 up:∀i,i<top->b.A.getD i []=b0.A.getD i []/\b.U.getD i []=b0.U.getD i []/\b.C.getD i []=b0.C.getD i []
 lo:gw b.A N top m/\gw b.U N top m/\gw b.C N top m
 zs:∀i c,top<=i->i<N->c<p->g b.A i c=0
 tp:0<g b.A top p
 z1:∀i,top<i->i<N->g b.A i p=0
theorem nh.set{A0:Rows}{N w top p m gr r:Nat}{b0 b:B3}(G:nh A0 N w top p m b0 b gr)(hL:ij b.A N top p [r]):lR A0 N w top p (m*gr) b0 (setB b p top r)/\top<=r/\r<N:=by
 obtain⟨hr1,hr2,hr3⟩:=(hL.mem r).mp (by simp);have ht:top<N:=by omega
 have z:∀i,top<=i->i<N->i≠r->g b.A i p=0:=fun i h1 h2 h3=>Classical.byContradiction fun y=>h3 (by simpa using(hL.mem i).mpr ⟨h1,h2,y⟩);have swg:∀i c,g (a8 b.A top r) i c=g b.A (sw top r i) c:=fun i c=>iF G.tn.isA ht hr2 i c;have gt:g (a8 b.A top r) top p=g b.A r p:=by rw[swg];unfold sw;rw[if_pos rfl]
 have T1:=G.tn.C7 ht hr2
 have z1:∀i,top<i->i<N->g (a8 b.A top r) i p=0:=fun i h1 h2=>by
  rw[swg];unfold sw;rw[if_neg (by omega)];by_cases h:i=r
  . rw[if_pos h];exact z top (Nat.le_refl _) ht (by omega)
  . rw[if_neg h];exact z i (by omega) h2 h
 have zs:∀i c,top<=i->i<N->c<p->g (a8 b.A top r) i c=0:=fun i c h1 h2 h3=>by
  rw[swg];refine G.zs _ c ?_ (oa ht hr2 h2) h3;unfold sw;split
  . exact hr1
  . split
    . exact Nat.le_refl _
    . exact h1
 have up:∀i,i<top->(a8 b.A top r).getD i []=b0.A.getD i []/\(a8 b.U top r).getD i []=b0.U.getD i []/\(a8 b.C top r).getD i []=b0.C.getD i []:=fun i hi=>by
  obtain⟨a1,a2,a3⟩:=G.up i hi;exact⟨(qy G.tn.isA ht hr2 hr1 hi).trans a1,(qy G.tn.eM ht hr2 hr1 hi).trans a2,(qy G.tn.fC ht hr2 hr1 hi).trans a3⟩
 have lo:=And.intro (p7 G.tn.isA ht hr2 hr1 G.lA) (And.intro (p7 G.tn.eM ht hr2 hr1 G.lU) (p7 G.tn.fC ht hr2 hr1 G.lC));refine⟨?_,hr1,hr2⟩;unfold setB;by_cases hs:g (a8 b.A top r) top p<0
 . rw[if_pos hs];refine⟨T1.neg ht,fun i hi=>?_,⟨uW T1.isA ht lo.1,uW T1.eM ht lo.2.1,uW T1.fC ht lo.2.2⟩,fun i c h1 h2 h3=>?_,?_,fun i h1 h2=>?_⟩
   . obtain⟨a1,a2,a3⟩:=up i hi;exact⟨(uM T1.isA ht hi).trans a1,(uM T1.eM ht hi).trans a2,(uM T1.fC ht hi).trans a3⟩
   . show g (fx (a8 b.A top r) top) i c=0;rw[iL T1.isA ht];split
     . rw[zs top c (Nat.le_refl _) ht h3];rfl
     . exact zs i c h1 h2 h3
   . show 0<g (fx (a8 b.A top r) top) top p;rw[iL T1.isA ht,if_pos rfl];omega
   . show g (fx (a8 b.A top r) top) i p=0;rw[iL T1.isA ht,if_neg (by omega)];exact z1 i h1 h2
 . rw[if_neg hs];exact⟨T1,up,lo,zs,by show 0<g (a8 b.A top r) top p;rw[gt]at hs⊢;omega,z1⟩
def gT(p top:Nat):Nat->B3->B3
 |0,b=>b
 |k+1,b=>
  let c:=gT p top k b
  ⟨bh c.A k ((g c.A k p).fdiv (g c.A top p)) top,bh c.U k ((g c.A k p).fdiv (g c.A top p)) top,bh c.C top (-((g c.A k p).fdiv (g c.A top p))) k⟩
structure lQ(A0:Rows)(N w top p e u:Nat)(b:B3)(k:Nat)(c:B3):Prop where
 tn:Tn A0 c.A c.U c.C N w
 rA:∀i,k<=i->c.A.getD i []=b.A.getD i []/\c.U.getD i []=b.U.getD i []
 rC:∀i,i≠top->c.C.getD i []=b.C.getD i []
 ah:∀i q,i<k->q<p->g c.A i q=g b.A i q
 rd:∀i,i<k->0<=g c.A i p/\g c.A i p<g c.A top p
 sz:∀i q,i<k->(g c.A i q).natAbs<=2^(u+e+1)/\(g c.U i q).natAbs<=2^(u+e+1)
 sC:∀q,(g c.C top q).natAbs<=2^e+k*2^(u+u)
theorem vE(a:Int){b:Int}(hb:0<b):(a.fdiv b).natAbs<=a.natAbs:=by
 rw[Int.fdiv_eq_ediv_of_nonneg _ (Int.le_of_lt hb)];exact Int.natAbs_ediv_le_natAbs a b
theorem wG{a b c:Nat}(h1:a<=2^c)(h2:b<=2^c):a+b<=2^(c+1):=by rw[Nat.pow_succ];omega
theorem r9{x y:Int}{a b:Nat}(hx:x.natAbs<=a)(hy:y.natAbs<=b):(x-y).natAbs<=a+b:=Nat.le_trans (Int.natAbs_sub_le x y) (Nat.add_le_add hx hy)
theorem lQ.step{A0:Rows}{N w top p e u k:Nat}{b c:B3}(I:lQ A0 N w top p e u b k c)(hk:k<top)(ht:top<N)(hp:p<w)(htp:0<g b.A top p)(hz:∀q,q<p->g b.A top q=0)
 (hlo:∀q,(g b.A top q).natAbs<=2^e/\(g b.U top q).natAbs<=2^e) (hhi:∀i q,i<top->(g b.A i q).natAbs<=2^u/\(g b.U i q).natAbs<=2^u/\(g b.C i q).natAbs<=2^u):
 lQ A0 N w top p e u b (k+1) ⟨bh c.A k ((g c.A k p).fdiv (g c.A top p)) top,bh c.U k ((g c.A k p).fdiv (g c.A top p)) top,bh c.C top (-((g c.A k p).fdiv (g c.A top p))) k⟩:=by
 have hkN:k<N:=by omega
 have gA:∀i q,k<=i->g c.A i q=g b.A i q:=fun i q hi=>by unfold g;rw[(I.rA i hi).1]
 have gU:∀i q,k<=i->g c.U i q=g b.U i q:=fun i q hi=>by unfold g;rw[(I.rA i hi).2]
 have gC:∀i q,i≠top->g c.C i q=g b.C i q:=fun i q hi=>by unfold g;rw[I.rC i hi]
 have qe:((g c.A k p).fdiv (g c.A top p)).natAbs<=2^u:=by
  rw[gA k p (Nat.le_refl _),gA top p (by omega)];exact Nat.le_trans (vE _ htp) (hhi k p hk).1
 have hq:∀x:Int,x.natAbs<=2^e->((g c.A k p).fdiv (g c.A top p)*x).natAbs<=2^(u+e):=fun x hx=>by
  rw[Int.natAbs_mul,Nat.pow_add];exact Nat.mul_le_mul qe hx
 have le1:2^u<=2^(u+e):=Nat.pow_le_pow_right (by decide) (by omega);refine⟨I.tn.take hkN ht (by omega),fun i hi=>?_,fun i hi=>?_,fun i q hi hqp=>?_,fun i hi=>?_,fun i q hi=>?_,fun q=>?_⟩
 . exact⟨(iw (by rw[I.tn.isA.len];exact hkN) (by omega)).trans (I.rA i (by omega)).1,(iw (by rw[I.tn.eM.len];exact hkN) (by omega)).trans (I.rA i (by omega)).2⟩
 . exact(iw (by rw[I.tn.fC.len];exact ht) hi).trans (I.rC i hi)
 . show g (bh c.A k _ top) i q=_;rw[dS I.tn.isA hkN ht];split
   . rename_i h;rw[gA top q (by omega),hz q hqp,Int.mul_zero,gA k q (Nat.le_refl _),h];omega
   . exact I.ah i q (by omega) hqp
 . show 0<=g (bh c.A k _ top) i p/\g (bh c.A k _ top) i p<g (bh c.A k _ top) top p;rw[dS I.tn.isA hkN ht,dS I.tn.isA hkN ht,if_neg (show¬top=k by omega)];split
   . have h1:=Int.mul_fdiv_add_fmod (g c.A k p) (g c.A top p);have htp':0<g c.A top p:=by rw[gA top p (by omega)];exact htp
     have h2:=Int.fmod_nonneg_of_pos (g c.A k p) htp';have h3:=Int.fmod_lt_of_pos (g c.A k p) htp';rw[Int.mul_comm]at h1;omega
   . exact I.rd i (by omega)
 . show(g (bh c.A k _ top) i q).natAbs<=_/\(g (bh c.U k _ top) i q).natAbs<=_;rw[dS I.tn.isA hkN ht,dS I.tn.eM hkN ht];split
   . have a1:=hq (g c.A top q) (by rw[gA top q (by omega)];exact(hlo q).1);have a2:=hq (g c.U top q) (by rw[gU top q (by omega)];exact(hlo q).2);rw[gA k q (Nat.le_refl _),gU k q (Nat.le_refl _)];rw[Nat.pow_succ,Nat.mul_two];exact⟨r9 (Nat.le_trans (hhi k q hk).1 le1) a1,r9 (Nat.le_trans (hhi k q hk).2.1 le1) a2⟩
   . exact I.sz i q (by omega)
 . show(g (bh c.C top _ k) top q).natAbs<=_;rw[dS I.tn.fC ht hkN,if_pos rfl,gC k q (by omega),Int.neg_mul];have a1:=I.sC q
   have a2:((g c.A k p).fdiv (g c.A top p)*g b.C k q).natAbs<=2^(u+u):=by
    rw[Int.natAbs_mul,Nat.pow_add];exact Nat.mul_le_mul qe (hhi k q hk).2.2
   rw[Nat.add_mul,Nat.one_mul,<-Nat.add_assoc];exact r9 a1 (by rw[Int.natAbs_neg];exact a2)
theorem lQ.start{A0:Rows}{N w top p e u:Nat}{b:B3}(T:Tn A0 b.A b.U b.C N w)(h:∀q,(g b.C top q).natAbs<=2^e):lQ A0 N w top p e u b 0 b:=
 ⟨T,fun _ _=>⟨rfl,rfl⟩,fun _ _=>rfl,fun _ _ h=>absurd h (Nat.not_lt_zero _),fun _ h=>absurd h (Nat.not_lt_zero _),fun _ _ h=>absurd h (Nat.not_lt_zero _),fun q=>by rw[Nat.zero_mul];exact h q⟩
theorem lR.next{A0:Rows}{N w top p e u e' u':Nat}{b0 b c:B3}{ld:Nat->Nat}(S:f_ A0 N w b0 top p ld e u)(s:lR A0 N w top p (2^e') b0 b)(ht:top<N)(I:lQ A0 N w top p e' u b top c)(hN:N<=8)
 (h1:u+e'+1<=u') (h2:u+u+4<=u'):f_ A0 N w c (top+1) (p+1) (fun i=>if i=top then p else ld i) e' u':=by
 have hup:∀i q,i<top->g b.A i q=g b0.A i q:=fun i q hi=>by unfold g;rw[(s.up i hi).1]
 have hA:∀i q,top<=i->g c.A i q=g b.A i q:=fun i q hi=>by unfold g;rw[(I.rA i hi).1]
 have hU:∀i q,top<=i->g c.U i q=g b.U i q:=fun i q hi=>by unfold g;rw[(I.rA i hi).2]
 have hC:∀i q,i≠top->g c.C i q=g b.C i q:=fun i q hi=>by unfold g;rw[I.rC i hi]
 have le:∀ {a x:Nat},a<=2^x->x<=u'->a<=2^u':=fun h hx=>Nat.le_trans h (Nat.pow_le_pow_right (by decide) hx);refine⟨I.tn,ht,⟨fun i q hi hN=>?_,fun i q hi hN=>?_,fun i q hi hN=>?_⟩,fun i q hi=>?_,fun i q hi hN hq=>?_,fun i hi=>?_,fun i j hij hj=>?_,fun i j hij hj=>?_⟩
 . rw[hA i q (by omega)];exact s.lo.1 i q (by omega) hN
 . rw[hU i q (by omega)];exact s.lo.2.1 i q (by omega) hN
 . rw[hC i q (by omega)];exact s.lo.2.2 i q (by omega) hN
 . by_cases h:i=top
   . subst h;refine⟨?_,?_,?_⟩
     . rw[hA i q (Nat.le_refl _)];exact le (s.lo.1 i q (Nat.le_refl _) ht) (by omega)
     . rw[hU i q (Nat.le_refl _)];exact le (s.lo.2.1 i q (Nat.le_refl _) ht) (by omega)
     . have h3:=I.sC q;have h4:i*2^(u+u)<=2^(u+u+3):=by rw[Nat.pow_add _ _ 3,Nat.mul_comm];exact Nat.mul_le_mul_left _ (by omega)
       have h5:2^(u+u+3)*2<=2^u':=by rw[<-Nat.pow_succ];exact Nat.pow_le_pow_right (by decide) h2
       have h6:2^e'*2<=2^u':=by rw[<-Nat.pow_succ];exact Nat.pow_le_pow_right (by decide) (by omega)
       omega
   . have hi':i<top:=by omega
     refine⟨le (I.sz i q hi').1 h1,le (I.sz i q hi').2 h1,?_⟩;rw[hC i q h];have:g b.C i q=g b0.C i q:=by unfold g;rw[(s.up i hi').2.2]
     rw[this];exact le (S.hi i q hi').2.2 (by omega)
 . rw[hA i q (by omega)];by_cases h:q=p
   . rw[h];exact s.z1 i (by omega) hN
   . exact s.zs i q (by omega) hN (by omega)
 . by_cases h:i=top
   . subst h;rw[if_pos rfl];refine⟨Nat.lt_succ_self p,?_,fun q hq=>?_⟩
     . rw[hA i p (Nat.le_refl _)];exact s.tp
     . rw[hA i q (Nat.le_refl _)];exact s.zs i q (Nat.le_refl _) ht hq
   . have hi':i<top:=by omega
     rw[if_neg h];obtain⟨a1,a2,a3⟩:=S.lead i hi';refine⟨Nat.lt_succ_of_lt a1,?_,fun q hq=>?_⟩
     . rw[I.ah i _ hi' a1,hup i _ hi'];exact a2
     . rw[I.ah i _ hi' (Nat.lt_trans hq a1),hup i _ hi'];exact a3 q hq
 . by_cases h:j=top
   . rw[if_pos h,if_neg (by omega)];exact(S.lead i (by omega)).1
   . rw[if_neg h,if_neg (by omega)];exact S.mono i j hij (by omega)
 . by_cases h:j=top
   . subst h;rw[if_pos rfl];exact I.rd i hij
   . have hj':j<top:=by omega
     rw[if_neg h];have:=S.red i j hij hj';have hl:=(S.lead j hj').1;rw[I.ah i _ (by omega) hl,I.ah j _ hj' hl,hup i _ (by omega),hup j _ hj'];exact this
theorem Tn.start{A:Rows}{N w:Nat}(hA:bZ N w A):Tn A A (units N) (units N) N w where
 isA:=hA
 eM:=qw N
 fC:=qw N
 ua:=fun i c hi hc=>by
  rw[<-qX hi fun k=>g A k c];exact bI fun m hm=>by rw[je hi hm]
 ub:=fun i j hi hj=>by
  rw[w6 i j,<-qX hi fun k=>dl j k]
  . exact bI fun m hm=>by rw[je hi hm,je hj hm]
 bu:=fun i j hi hj=>by
  rw[<-uT hi fun k=>dl k j];exact bI fun m hm=>by rw[je hm hi,je hm hj,Int.mul_comm]
theorem f_.start{A:Rows}{N w e:Nat}(hA:bZ N w A)(h:gw A N 0 (2^e)):f_ A N w ⟨A,units N,units N⟩ 0 0 (fun _=>0) e 0:=by
 have hu:gw (units N) N 0 (2^e):=fun i c _ hi=>by
  by_cases hc:c<N
  . rw[je hi hc];unfold dl;split
    . exact Nat.one_le_two_pow
    . exact Nat.zero_le _
  . unfold g;rw[kn (l:=(units N).getD i []) (by rw[bR (qw N) hi];omega)];exact Nat.zero_le _
 exact⟨Tn.start hA,Nat.zero_le _,⟨h,hu,hu⟩,fun _ _ h=>absurd h (Nat.not_lt_zero _),fun _ _ _ _ h=>absurd h (Nat.not_lt_zero _),fun _ h=>absurd h (Nat.not_lt_zero _),fun _ _ _ h=>absurd h (Nat.not_lt_zero _),fun _ _ _ h=>absurd h (Nat.not_lt_zero _)⟩
def SU(f:Nat->Nat):Nat->Nat
 |0=>0
 |n+1=>SU f n+f n
theorem Dy{f f':Nat->Nat}:∀ {n:Nat},(∀i,i<n->f' i<=f i)->SU f' n<=SU f n
 |0,_=>Nat.le_refl _
 |n+1,h=>Nat.add_le_add (Dy fun i hi=>h i (Nat.lt_succ_of_lt hi)) (h n (Nat.lt_succ_self n))
theorem CN{f f':Nat->Nat}{k:Nat}(hlt:f' k<f k):∀ {n:Nat},k<n->(∀i,i<n->f' i<=f i)->SU f' n<SU f n
 |0,hk,_=>absurd hk (Nat.not_lt_zero _)
 |n+1,hk,h=>by
  by_cases e:k=n
  . subst e;exact Nat.add_lt_add_of_le_of_lt (Dy fun i hi=>h i (Nat.lt_succ_of_lt hi)) hlt
  . exact Nat.add_lt_add_of_lt_of_le (CN hlt (by omega) fun i hi=>h i (Nat.lt_succ_of_lt hi)) (h n (Nat.lt_succ_self n))
def mu(A:Rows)(N p:Nat):Nat:=SU (fun i=>(g A i p).natAbs) N
inductive Fw(N p:Nat):Nat->B3->Nat->B3->Prop
 |none {top:Nat} {b:B3} (h:ij b.A N top p []):Fw N p top b top b
 |one {top r:Nat} {b c:B3} (h:dN N top p b c) (l:ij c.A N top p [r]):Fw N p top b (top+1) (gT p top top (setB c p top r))
inductive jR(A:Rows)(N:Nat):Nat->Nat->B3->Prop
 |start:jR A N 0 0 ⟨A,units N,units N⟩
 |next {p t t':Nat} {b b':B3} (h:jR A N p t b) (c:Fw N p t b t' b'):jR A N (p+1) t' b'
def Ez(N e0:Nat):Nat->Nat
 |0=>e0
 |t+1=>(N-t+1)*(Ez N e0 t+1)
def Vz(N e0:Nat):Nat->Nat
 |0=>0
 |t+1=>Vz N e0 t+Vz N e0 t+Ez N e0 (t+1)+5
theorem La:∀N,N<9->∀t,t<N+1->Ez N 48 t<=50000000/\Vz N 48 t<=60000000:=by decide+kernel
def bF(X:Rows)(n w:Nat)(v:Nat->Int):Prop:=∃z:Nat->Int,∀c,c<w->v c=S n fun k=>z k*g X k c
theorem bF.row{X:Rows}{n w k:Nat}(hk:k<n):bF X n w (g X k):=⟨fun i=>dl k i,fun c _=>(qX hk fun i=>g X i c).symm⟩
theorem bF.sub{X:Rows}{n w:Nat}{u v:Nat->Int}(hu:bF X n w u)(hv:bF X n w v):bF X n w fun c=>u c-v c:=by
 obtain⟨y,hy⟩:=hu;obtain⟨z,hz⟩:=hv;refine⟨fun k=>y k-z k,fun c hc=>?_⟩;show u c-v c=S n fun k=>(y k-z k)*g X k c;rw[hy c hc,hz c hc,Int.sub_eq_add_neg,<-Du,<-m9];exact bI fun k _=>by rw[Int.sub_mul,Int.sub_eq_add_neg]
theorem bF.trans{X Y:Rows}{m n w:Nat}{v:Nat->Int}(h:∀k,k<m->bF Y n w (g X k))(hv:bF X m w v):bF Y n w v:=by
 obtain⟨z,hz⟩:=hv
 have h':∀k,∃y:Nat->Int,k<m->∀c,c<w->g X k c=S n fun i=>y i*g Y i c:=fun k=>by
  by_cases hk:k<m
  . obtain⟨y,hy⟩:=h k hk;exact⟨y,fun _=>hy⟩
  . exact⟨fun _=>0,fun h=>absurd h hk⟩
 refine⟨fun i=>S m fun k=>z k*Classical.choose (h' k) i,fun c hc=>?_⟩;rw[hz c hc]
 have e1:S m (fun k=>z k*g X k c)=S m fun k=>S n fun i=>z k*Classical.choose (h' k) i*g Y i c:=bI fun k hk=>by
  rw[Classical.choose_spec (h' k) hk c hc,<-oN];exact bI fun i _=>(Int.mul_assoc _ _ _).symm
 rw[e1,AQ];exact bI fun i _=>Ax _ _ _
structure cQ(X:Rows)(n w:Nat)(ld:Nat->Nat):Prop where
 lead:∀i,i<n->ld i<w/\0<g X i (ld i)/\∀c,c<ld i->g X i c=0
 mono:∀i j,i<j->j<n->ld i<ld j
theorem cQ.inj{X:Rows}{n w:Nat}{ld:Nat->Nat}(s:cQ X n w ld){i j:Nat}(hi:i<n)(hj:j<n)(h:ld i=ld j):i=j:=by
 rcases Nat.lt_trichotomy i j with q|q|q
 . exact absurd h (Nat.ne_of_lt (s.mono i j q hj))
 . exact q
 . exact absurd h.symm (Nat.ne_of_lt (s.mono j i q hi))
theorem cQ.lt{X:Rows}{n w:Nat}{ld:Nat->Nat}(s:cQ X n w ld){i j:Nat}(hi:i<n)(hj:j<n)(h:ld i<ld j):i<j:=by
 rcases Nat.lt_trichotomy i j with q|q|q
 . exact q
 . rw[q]at h;exact absurd h (Nat.lt_irrefl _)
 . exact absurd (Nat.lt_trans h (s.mono j i q hi)) (Nat.lt_irrefl _)
theorem cQ.gone{X:Rows}{n w q:Nat}{ld:Nat->Nat}{v z:Nat->Int}(s:cQ X n w ld)(hz:∀c,c<w->v c=S n fun k=>z k*g X k c)(h0:∀c,c<q->v c=0)(k:Nat):k<n->ld k<q->z k=0:=by
 induction k using Nat.strongRecOn with
 |ind k ih=>
  intro hk hq;obtain⟨h1,h2,h3⟩:=s.lead k hk;have e:=hz (ld k) h1;rw[h0 _ hq,pe hk fun i hi ne=>?_]at e
  . exact(Int.mul_eq_zero.mp e.symm).resolve_right (Int.ne_of_gt h2)
  . rcases Nat.lt_or_gt_of_ne ne with l|l
    . rw[ih i l hi (Nat.lt_trans (s.mono i k l hk) hq),Int.zero_mul]
    . rw[(s.lead i hi).2.2 _ (s.mono k i l hi),Int.mul_zero]
theorem cQ.at{X:Rows}{n w q:Nat}{ld:Nat->Nat}{v:Nat->Int}(s:cQ X n w ld)(hv:bF X n w v)(hq:q<w)(h0:∀c,c<q->v c=0):(∃i,i<n/\ld i=q/\g X i q∣v q)\/v q=0:=by
 obtain⟨z,hz⟩:=hv
 have go:∀k,k<n->ld k≠q->z k*g X k q=0:=fun k hk ne=>by
  rcases Nat.lt_or_gt_of_ne ne with l|l
  . rw[s.gone hz h0 k hk l,Int.zero_mul]
  . rw[(s.lead k hk).2.2 _ l,Int.mul_zero]
 by_cases h:∃i,i<n/\ld i=q
 . obtain⟨i,hi,e⟩:=h;refine .inl ⟨i,hi,e,z i,?_⟩;rw[hz q hq,pe hi fun k hk ne=>go k hk fun z=>ne (s.inj hk hi (z.trans e.symm)),Int.mul_comm]
 . refine .inr ?_;rw[hz q hq];exact qB fun k hk=>go k hk fun e=>h ⟨k,hk,e⟩
theorem cQ.sees{X Y:Rows}{n m w:Nat}{ld ld':Nat->Nat}(sX:cQ X n w ld)(sY:cQ Y m w ld')(h:∀k,k<n->bF Y m w (g X k))(i:Nat)(hi:i<n):∃j,j<m/\ld' j=ld i/\g Y j (ld i)∣g X i (ld i):=by
 obtain⟨h1,h2,h3⟩:=sX.lead i hi;rcases sY.at (h i hi) h1 h3 with q|q
 . exact q
 . rw[q]at h2;exact absurd h2 (by decide)
theorem cQ.same{X Y:Rows}{n m w:Nat}{ld ld':Nat->Nat}(sX:cQ X n w ld)(sY:cQ Y m w ld')(h1:∀k,k<n->bF Y m w (g X k))(h2:∀k,k<m->bF X n w (g Y k))(i:Nat):i<n->i<m/\ld' i=ld i/\g Y i (ld i)=g X i (ld i):=by
 induction i using Nat.strongRecOn with
 |ind i ih=>
  intro hi;obtain⟨j,hj,ej,dj⟩:=sX.sees sY h1 i hi
  have e:j=i:=by
   rcases Nat.lt_trichotomy j i with l|l|l
   . have:=(ih j l (Nat.lt_trans l hi)).2.1;exact absurd (this.symm.trans ej) (Nat.ne_of_lt (sX.mono j i l hi))
   . exact l
   . obtain⟨k,hk,ek,_⟩:=sY.sees sX h2 i (Nat.lt_trans l hj);have lk:k<i:=sX.lt hk hi (by rw[ek,<-ej];exact sY.mono i j l hj);have:=(ih k lk hk).2.1;exact absurd (this.trans ek) (Nat.ne_of_lt (sY.mono k i lk (Nat.lt_trans l hj)))
  subst e;refine⟨hj,ej,?_⟩;obtain⟨k,hk,ek,dk⟩:=sY.sees sX h2 j hj;have:=sX.inj hk hi (ek.trans ej);subst this;rw[ej]at dk;exact Int.dvd_antisymm (by rw[<-ej];exact Int.le_of_lt (sY.lead k hj).2.1) (Int.le_of_lt (sX.lead k hi).2.1) dj dk
theorem cQ.many{X Y:Rows}{n m w:Nat}{ld ld':Nat->Nat}(sX:cQ X n w ld)(sY:cQ Y m w ld')(h1:∀k,k<n->bF Y m w (g X k))(h2:∀k,k<m->bF X n w (g Y k)):n=m:=by
 refine Nat.le_antisymm ?_ ?_
 . cases n with
   |zero=>exact Nat.zero_le _
   |succ n=>exact(sX.same sY h1 h2 n (Nat.lt_succ_self n)).1
 . cases m with
   |zero=>exact Nat.zero_le _
   |succ m=>exact(sY.same sX h2 h1 m (Nat.lt_succ_self m)).1
def sL(X:Rows)(n:Nat)(ld:Nat->Nat):Prop:=∀i j,i<j->j<n->0<=g X i (ld j)/\g X i (ld j)<g X j (ld j)
theorem cQ.only{X Y:Rows}{n m w:Nat}{ld ld':Nat->Nat}(sX:cQ X n w ld)(sY:cQ Y m w ld')(h1:∀k,k<n->bF Y m w (g X k))(h2:∀k,k<m->bF X n w (g Y k))(rX:sL X n ld)(rY:sL Y m ld'){i:Nat}(hi:i<n)(c:Nat):c<w->g X i c=g Y i c:=by
 induction c using Nat.strongRecOn with
 |ind c ih=>
  intro hc;obtain⟨im,il,ig⟩:=sX.same sY h1 h2 i hi;have hv:bF X n w fun c=>g X i c-g Y i c:=(bF.row hi).sub (h2 i im);rcases sX.at hv hc fun d hd=>by rw[ih d hd (Nat.lt_trans hd hc),Int.sub_self]with⟨j,hj,rfl,d⟩|q
  . obtain⟨jm,jl,jg⟩:=sX.same sY h1 h2 j hj;rcases Nat.lt_trichotomy i j with l|l|l
    . have a:=rX i j l hj;have b:=rY i j l jm;rw[jl,jg]at b;exact Int.eq_of_sub_eq_zero (Int.eq_zero_of_dvd_of_natAbs_lt_natAbs d (by omega))
    . subst l;exact ig.symm
    . rw[(sX.lead i hi).2.2 _ (sX.mono j i l hi),(sY.lead i im).2.2 _ (by rw[il];exact sX.mono j i l hi)]
  . exact Int.eq_of_sub_eq_zero q
theorem dN.xQ{A0:Rows}{N w top p m:Nat}{b0 b c:B3}(hp:p<w)(h:dN N top p b c):∀ {gr:Nat},nh A0 N w top p m b0 b gr->∃gr',nh A0 N w top p m b0 c gr':=by
 induction h with
 |refl b=>exact fun G=>⟨_,G⟩
 |head s _ ih=>
  intro gr G;obtain⟨L,k,j,hL,rfl⟩:=s;exact ih (G.step hp hL).1
theorem lR.mono{A0:Rows}{N w top p m m':Nat}{b0 b:B3}(s:lR A0 N w top p m b0 b)(h:m<=m'):lR A0 N w top p m' b0 b:=
 ⟨s.tn,s.up,⟨fun i c h1 h2=>Nat.le_trans (s.lo.1 i c h1 h2) h,fun i c h1 h2=>Nat.le_trans (s.lo.2.1 i c h1 h2) h,fun i c h1 h2=>Nat.le_trans (s.lo.2.2 i c h1 h2) h⟩,s.zs,s.tp,s.z1⟩
theorem lR.De{A0:Rows}{N w top p m:Nat}{b0 b:B3}(s:lR A0 N w top p m b0 b){i:Nat}(hi:i<top)(q:Nat):g b.A i q=g b0.A i q/\g b.U i q=g b0.U i q/\g b.C i q=g b0.C i q:=by
 obtain⟨a1,a2,a3⟩:=s.up i hi;unfold g;rw[a1,a2,a3];exact⟨rfl,rfl,rfl⟩
theorem f_.one{A0:Rows}{N w t p e u r:Nat}{b c:B3}{ld:Nat->Nat}(S:f_ A0 N w b t p ld e u)(hp:p<w)(h:dN N t p b c)(l:ij c.A N t p [r]):
 lR A0 N w t p (2^((N-t+1)*(e+1))) b (setB c p t r)/\t<N/\∀k,k<=t->lQ A0 N w t p ((N-t+1)*(e+1)) u (setB c p t r) k (gT p t k (setB c p t r)):=by
 obtain⟨gr,G⟩:=h.xQ hp S.xQ;obtain⟨s,h1,h2⟩:=G.set l;have s1:=s.mono (G.low S.lo.1);have ht:t<N:=Nat.lt_of_le_of_lt h1 h2;refine⟨s1,ht,fun k=>?_⟩;induction k with
 |zero=>exact fun _=>lQ.start s1.tn fun q=>s1.lo.2.2 t q (Nat.le_refl _) ht
 |succ k ih=>
  intro hk;refine(ih (Nat.le_of_lt hk)).step hk ht hp s1.tp (fun q hq=>s1.zs t q (Nat.le_refl _) ht hq) (fun q=>⟨s1.lo.1 t q (Nat.le_refl _) ht,s1.lo.2.1 t q (Nat.le_refl _) ht⟩) fun i q hi=>?_;obtain⟨a1,a2,a3⟩:=s1.De hi q;rw[a1,a2,a3];exact S.hi i q hi
theorem jR.Dv{A:Rows}{N w e0:Nat}(hA:bZ N w A)(hlo:gw A N 0 (2^e0))(hN:N<=8){p t:Nat}{b:B3}(h:jR A N p t b):p<=w->∃ld,f_ A N w b t p ld (Ez N e0 t) (Vz N e0 t):=by
 induction h with
 |start=>exact fun _=>⟨_,f_.start hA hlo⟩
 |next _ c ih=>
  intro hp;obtain⟨ld,S⟩:=ih (Nat.le_of_lt hp);cases c with
  |none l=>exact⟨ld,S.skip l⟩
  |one g l=>
   obtain⟨s1,ht,I⟩:=S.one hp g l;exact⟨_,lR.next (e':=Ez N e0 (_+1)) (u':=Vz N e0 (_+1)) S s1 ht (I _ (Nat.le_refl _)) hN (by show _<=Vz N e0 _+Vz N e0 _+Ez N e0 (_+1)+5;omega) (by show _<=Vz N e0 _+Vz N e0 _+Ez N e0 (_+1)+5;omega)⟩
def Sm(b:B3)(N m:Nat):Prop:=∀i c,i<N->(g b.A i c).natAbs<=m/\(g b.U i c).natAbs<=m/\(g b.C i c).natAbs<=m
structure ze(N p t z:Nat)(b:B3):Prop where
 ga:∀c,dN N t p b c->Sm c N (2^z)
 lo:∀c r k,dN N t p b c->ij c.A N t p [r]->k<=t->Sm (gT p t k (setB c p t r)) N (2^z)
theorem f_.zi{A0:Rows}{N w t p e u z:Nat}{b:B3}{ld:Nat->Nat}(S:f_ A0 N w b t p ld e u)(hp:p<w)(hN:N<=8)(hz:u+u+(N-t+1)*(e+1)+5<=z):ze N p t z b:=by
 have p1:2^u<=2^z:=Nat.pow_le_pow_right (by decide) (by omega);have p2:2^((N-t+1)*(e+1))<=2^z:=Nat.pow_le_pow_right (by decide) (by omega);have p3:2^(u+(N-t+1)*(e+1)+1)<=2^z:=Nat.pow_le_pow_right (by decide) (by omega);refine⟨fun c h i q hi=>?_,fun c r k h l hk i q hi=>?_⟩
 . obtain⟨gr,G⟩:=h.xQ hp S.xQ;by_cases ht:i<t
   . obtain⟨a1,a2,a3⟩:=G.up i ht;have:=S.hi i q ht;unfold g at this⊢;rw[a1,a2,a3];exact⟨Nat.le_trans this.1 p1,Nat.le_trans this.2.1 p1,Nat.le_trans this.2.2 p1⟩
   . have ht':=Nat.le_of_not_lt ht;have w1:=Nat.le_trans (G.low S.lo.1) p2;exact⟨Nat.le_trans (G.lA i q ht' hi) w1,Nat.le_trans (G.lU i q ht' hi) w1,Nat.le_trans (G.lC i q ht' hi) w1⟩
 . obtain⟨s,ht,I'⟩:=S.one hp h l;have I:=I' k hk
   have aA:(g (gT p t k (setB c p t r)).A i q).natAbs<=2^z/\(g (gT p t k (setB c p t r)).U i q).natAbs<=2^z:=by
    by_cases hik:i<k
    . exact⟨Nat.le_trans (I.sz i q hik).1 p3,Nat.le_trans (I.sz i q hik).2 p3⟩
    . obtain⟨b1,b2⟩:=I.rA i (Nat.le_of_not_lt hik);unfold g;rw[b1,b2];by_cases hit:i<t
      . obtain⟨a1,a2,a3⟩:=s.De hit q;have:=S.hi i q hit;rw[<-a1,<-a2]at this;exact⟨Nat.le_trans this.1 p1,Nat.le_trans this.2.1 p1⟩
      . have hit':=Nat.le_of_not_lt hit;exact⟨Nat.le_trans (s.lo.1 i q hit' hi) p2,Nat.le_trans (s.lo.2.1 i q hit' hi) p2⟩
   refine⟨aA.1,aA.2,?_⟩;by_cases hit:i=t
   . subst hit;refine Nat.le_trans (I.sC q) ?_;have f1:2^((N-i+1)*(e+1))<=2^(u+u+(N-i+1)*(e+1)):=Nat.pow_le_pow_right (by decide) (by omega);have f2:k*2^(u+u)<=8*2^(u+u+(N-i+1)*(e+1)):=Nat.mul_le_mul (by omega) (Nat.pow_le_pow_right (by decide) (by omega));have f3:2^(u+u+(N-i+1)*(e+1)+5)<=2^z:=Nat.pow_le_pow_right (by decide) hz;rw[Nat.pow_add _ _ 5]at f3;omega
   . have:=I.rC i hit;unfold g;rw[this];by_cases hlt:i<t
     . have a:=(s.De hlt q).2.2;have:=(S.hi i q hlt).2.2;rw[<-a]at this;exact Nat.le_trans this p1
     . exact Nat.le_trans (s.lo.2.2 i q (Nat.le_of_not_lt hlt) hi) p2
theorem JN{x y:Int}(hy:y≠0):(qn x y).natAbs<=x.natAbs+y.natAbs:=by
 have h:=rZ (x:=x) hy;have h2:(qn x y*y).natAbs=(qn x y).natAbs*y.natAbs:=Int.natAbs_mul _ _;have h3:(qn x y).natAbs<=(qn x y).natAbs*y.natAbs:=Nat.le_mul_of_pos_right _ (Int.natAbs_pos.mpr hy);generalize qn x y*y=t at h h2;omega
theorem jR.zi{A:Rows}{N w e0 z:Nat}(hA:bZ N w A)(hlo:gw A N 0 (2^e0))(hN:N<=8)(hz:∀t,t<=N->Vz N e0 t<=z){p t:Nat}{b:B3}(hp:p<w)(h:jR A N p t b):ze N p t z b:=by
 obtain⟨ld,S⟩:=h.Dv hA hlo hN (Nat.le_of_lt hp);by_cases ht:t<N
 . exact S.zi hp hN (hz (t+1) ht)
 . have hle:=S.le;have e:N=t:=by omega
   have nolive:∀ {X:Rows} {L:List Nat} {k:Nat},ij X N t p L->k∈L->False:=fun h hk=>by
    have:=(h.mem _).mp hk;omega
   refine⟨fun c g=>?_,fun c r k g l hk=>(nolive l (List.mem_singleton.mpr rfl)).elim⟩;cases g with
   |refl=>
    have p1:2^Vz N e0 t<=2^z:=Nat.pow_le_pow_right (by decide) (hz t hle);exact fun i q hi=>⟨Nat.le_trans (S.hi i q (by omega)).1 p1,Nat.le_trans (S.hi i q (by omega)).2.1 p1,Nat.le_trans (S.hi i q (by omega)).2.2 p1⟩
   |head s _=>
    obtain⟨L,k,j,hL,_⟩:=s;exact(nolive (k:=k) hL (by simp)).elim
theorem Dg{n:Nat}{f:Nat->Int}:∀ {N:Nat},n<=N->(∀i,n<=i->i<N->f i=0)->S N f=S n f
 |0,h,_=>by rw[Nat.le_zero.mp h]
 |N+1,h,z=>by
  by_cases e:n=N+1
  . rw[e]
  . have hn:n<=N:=by omega
    show S N f+f N=_;rw[z N hn (Nat.lt_succ_self N),Int.add_zero];exact Dg hn fun i h1 h2=>z i h1 (Nat.lt_succ_of_lt h2)
theorem f_.qJ{A:Rows}{N w top e u:Nat}{c:B3}{ld:Nat->Nat}(s:f_ A N w c top w ld e u):cQ c.A top w ld/\sL c.A top ld:=⟨⟨s.lead,s.mono⟩,s.red⟩
theorem f_.in{A:Rows}{N w top e u:Nat}{c:B3}{ld:Nat->Nat}(s:f_ A N w c top w ld e u)(k:Nat)(hk:k<top):bF A N w (g c.A k):=
 ⟨g c.U k,fun q hq=>s.tn.ua k q (Nat.lt_of_lt_of_le hk s.le) hq⟩
theorem f_.out{A:Rows}{N w top e u:Nat}{c:B3}{ld:Nat->Nat}(s:f_ A N w c top w ld e u)(k:Nat)(hk:k<N):bF c.A top w (g A k):=by
 refine⟨fun i=>g c.C i k,fun q hq=>?_⟩
 have e1:S N (fun i=>g c.C i k*g c.A i q)=g A k q:=by
  have:S N (fun i=>g c.C i k*g c.A i q)=S N fun i=>S N fun j=>g c.C i k*g c.U i j*g A j q:=bI fun i hi=>by
   rw[s.tn.ua i q hi hq,<-oN];exact bI fun j _=>(Int.mul_assoc _ _ _).symm
  rw[this,AQ]
  have e2:S N (fun j=>S N fun i=>g c.C i k*g c.U i j*g A j q)=S N fun j=>dl k j*g A j q:=bI fun j hj=>by
   rw[Ax,s.tn.bu k j hk hj]
  rw[e2,qX hk fun j=>g A j q]
 rw[<-e1];exact Dg s.le fun i h1 h2=>by rw[s.zs i q h1 h2 hq,Int.mul_zero]
theorem Fb{X:Rows}{n i q:Nat}(h:i<n):g (X.take n) i q=g X i q:=by
 unfold g;rw[List.getD_eq_getElem?_getD (l:=X.take n),List.getD_eq_getElem?_getD (l:=X),List.getElem?_take_of_lt h]
theorem Cc{X:Rows}{N w n:Nat}(hX:bZ N w X)(h:n<=N):bZ n w (X.take n):=
 ⟨by rw[List.length_take,hX.len];omega,fun r hr=>hX.nG r (List.mem_of_mem_take hr)⟩
theorem f_.Hk{A F:Rows}{N w n top e u:Nat}{c:B3}{ld ld':Nat->Nat}(s:f_ A N w c top w ld e u)(hF:bZ n w F)(sF:cQ F n w ld')(rF:sL F n ld')(h1:∀k,k<N->bF F n w (g A k))(h2:∀k,k<n->bF A N w (g F k)):c.A.take top=F:=by
 have l1:∀k,k<top->bF F n w (g c.A k):=fun k hk=>bF.trans h1 (s.in k hk);have l2:∀k,k<n->bF c.A top w (g F k):=fun k hk=>bF.trans s.out (h2 k hk);have e:=s.qJ.1.many sF l1 l2;subst e;refine(Cc s.tn.isA s.le).ext hF fun i q hi hq=>?_;rw[Fb hi];exact s.qJ.1.only sF l1 l2 s.qJ.2 rF hi q hq
theorem bF.yh{X:Rows}{n w:Nat}{u v:Nat->Int}(x:Int)(hu:bF X n w u)(hv:bF X n w v):bF X n w fun c=>u c+x*v c:=by
 obtain⟨y,hy⟩:=hu;obtain⟨z,hz⟩:=hv;refine⟨fun k=>y k+x*z k,fun c hc=>?_⟩;show u c+x*v c=S n fun k=>(y k+x*z k)*g X k c;rw[hy c hc,hz c hc,<-oN,<-m9];exact bI fun k _=>by rw[Int.add_mul,Int.mul_assoc]
theorem bF.eq{X:Rows}{n w:Nat}{u v:Nat->Int}(hu:bF X n w u)(h:∀c,c<w->v c=u c):bF X n w v:=by
 obtain⟨y,hy⟩:=hu;exact⟨y,fun c hc=>(h c hc).trans (hy c hc)⟩
structure cD(X:Rows)(n:Nat)(Y:Rows)(m w:Nat):Prop where
 to:∀k,k<n->bF Y m w (g X k)
 of:∀k,k<m->bF X n w (g Y k)
theorem cD.refl(X:Rows)(n w:Nat):cD X n X n w:=⟨fun _ h=>bF.row h,fun _ h=>bF.row h⟩
theorem cD.symm{X Y:Rows}{n m w:Nat}(h:cD X n Y m w):cD Y m X n w:=⟨h.of,h.to⟩
theorem cD.trans{X Y Z:Rows}{n m l w:Nat}(h:cD X n Y m w)(h':cD Y m Z l w):cD X n Z l w:=
 ⟨fun k hk=>bF.trans h'.to (h.to k hk),fun k hk=>bF.trans h.of (h'.of k hk)⟩
theorem cD.add{X Y:Rows}{n w k o:Nat}{x:Int}(hk:k<n)(ho:o<n)(hko:k≠o)(e:∀q,q<w->g Y k q=g X k q+x*g X o q)(h:∀i q,i<n->i≠k->q<w->g Y i q=g X i q):cD X n Y n w:=by
 refine⟨fun i hi=>?_,fun i hi=>?_⟩
 . by_cases hik:i=k
   . subst hik;refine((bF.row hk).yh (-x) (bF.row ho)).eq fun q hq=>?_;rw[e q hq,h o q ho (Ne.symm hko) hq,Int.neg_mul];omega
   . exact(bF.row hi).eq fun q hq=>(h i q hi hik hq).symm
 . by_cases hik:i=k
   . subst hik;exact((bF.row hk).yh x (bF.row ho)).eq e
   . exact(bF.row hi).eq fun q hq=>h i q hi hik hq
theorem cD.perm{X Y:Rows}{n w:Nat}{f:Nat->Nat}(hf:∀i,i<n->f i<n)(hff:∀i,f (f i)=i)(e:∀i q,i<n->q<w->g Y i q=g X (f i) q):cD X n Y n w:=
 ⟨fun i hi=>(bF.row (hf i hi)).eq fun q hq=>by rw[e (f i) q (hf i hi) hq,hff],fun i hi=>(bF.row (hf i hi)).eq fun q hq=>e i q hi hq⟩
theorem cD.neg{X Y:Rows}{n w k:Nat}(hk:k<n)(e:∀q,q<w->g Y k q= -g X k q)(h:∀i q,i<n->i≠k->q<w->g Y i q=g X i q):cD X n Y n w:=by
 have ng:∀ {Z:Rows} {u:Nat->Int},bF Z n w u->bF Z n w fun q=> -u q:=fun{Z u} hu=>(hu.yh (-2) hu).eq fun q _=>by omega
 refine⟨fun i hi=>?_,fun i hi=>?_⟩
 . by_cases hik:i=k
   . subst hik;exact(ng (bF.row hk)).eq fun q hq=>by rw[e q hq,Int.neg_neg]
   . exact(bF.row hi).eq fun q hq=>(h i q hi hik hq).symm
 . by_cases hik:i=k
   . subst hik;exact(ng (bF.row hk)).eq e
   . exact(bF.row hi).eq fun q hq=>h i q hi hik hq
theorem cD.ins{X Y:Rows}{n w k:Nat}(hk:k<=n)(hr:bF X n w (g Y k))(lo:∀i q,i<k->q<w->g Y i q=g X i q)(hi:∀i q,k<=i->i<n->q<w->g Y (i+1) q=g X i q):cD X n Y (n+1) w:=by
 refine⟨fun i h=>?_,fun i h=>?_⟩
 . by_cases l:i<k
   . exact(bF.row (Nat.lt_succ_of_lt h)).eq fun q hq=>(lo i q l hq).symm
   . exact(bF.row (Nat.succ_lt_succ h)).eq fun q hq=>(hi i q (Nat.le_of_not_lt l) h hq).symm
 . rcases Nat.lt_trichotomy i k with l|l|l
   . exact(bF.row (Nat.lt_of_lt_of_le l hk)).eq fun q hq=>lo i q l hq
   . subst l;exact hr
   . cases i with
     |zero=>exact absurd l (Nat.not_lt_zero _)
     |succ i=>exact(bF.row (Nat.lt_of_succ_lt_succ h)).eq fun q hq=>hi i q (Nat.le_of_lt_succ l) (Nat.lt_of_succ_lt_succ h) hq
theorem bF.zero{X:Rows}{n w:Nat}{v:Nat->Int}(h:∀c,c<w->v c=0):bF X n w v:=
 ⟨fun _=>0,fun c hc=>by rw[h c hc,qB fun k _=>Int.zero_mul _]⟩
structure iD(A:Rows)(N w M:Nat)(X:Rows)(m:Nat):Prop where
 is:bZ m w X
 lo:1<=m
 hi:m<=8
 bd:∀r∈X,∀x∈r,x.natAbs<=M
 same:cD A N X m w
theorem iD.more{A X:Rows}{N w M M' m:Nat}(h:iD A N w M X m)(l:M<=M'):iD A N w M' X m:=⟨h.is,h.lo,h.hi,fun r hr x hx=>Nat.le_trans (h.bd r hr x hx) l,h.same⟩
theorem iD.mem{A X:Rows}{N w M m k:Nat}(h:iD A N w M X m)(hk:k<m):X.getD k []∈X:=by
 rw[aU (by rw[h.is.len];exact hk)];exact List.getElem_mem _
theorem CD{M:Nat}{r s:Row}{c:Int}(hr:∀x∈r,x.natAbs<=M)(hs:∀x∈s,x.natAbs<=M)(hc:c.natAbs<=7):∀x∈ck r c s,x.natAbs<=M*8:=fun x hx=>by
 unfold ck at hx;obtain⟨k,hk,e⟩:=List.mem_iff_getElem.mp hx;rw[List.getElem_zipWith]at e;rw[List.length_zipWith]at hk;have h1:=hr _ (List.getElem_mem (Nat.lt_of_lt_of_le hk (Nat.min_le_left _ _)));have h2:=hs _ (List.getElem_mem (Nat.lt_of_lt_of_le hk (Nat.min_le_right _ _)));rw[<-e];refine Nat.le_trans (Int.natAbs_add_le _ _) ?_;rw[Int.natAbs_mul];have:=Nat.mul_le_mul hc h2;omega
theorem iD.put{A X:Rows}{N w M M' m k:Nat}{r:Row}(h:iD A N w M X m)(l:M<=M')(hr:r.length=w)(hb:∀x∈r,x.natAbs<=M')(s:cD X m (X.set k r) m w):iD A N w M' (X.set k r) m:=
 ⟨vY h.is hr,h.lo,h.hi,fun q hq x hx=>(List.mem_or_eq_of_mem_set hq).elim (fun z=>Nat.le_trans (h.bd q z x hx) l) (fun z=>hb x (z▸hx)),h.same.trans s⟩
theorem iD.add{A X:Rows}{N w M m k o:Nat}{c:Int}(h:iD A N w M X m)(hk:k<m)(ho:o<m)(hko:k≠o)(hc:c.natAbs<=7):iD A N w (M*8) (X.set k (ck (X.getD k []) c (X.getD o []))) m:=by
 have lX:k<X.length:=by rw[h.is.len];exact hk
 have e:(X.getD k []).length=(X.getD o []).length:=(h.is.row hk).trans (h.is.row ho).symm;refine h.put (Nat.le_mul_of_pos_right _ (by decide)) (by rw[pV e];exact h.is.row hk) (CD (h.bd _ (h.mem hk)) (h.bd _ (h.mem ho)) hc) (cD.add (x:=c) hk ho hko (fun q _=>?_) fun i q _ hi _=>?_)
 . rw[lY lX,if_pos rfl,oQ e];rfl
 . rw[lY lX,if_neg hi]
theorem iD.neg{A X:Rows}{N w M m k:Nat}(h:iD A N w M X m)(hk:k<m):iD A N w M (X.set k ((X.getD k []).map fun x=> -x)) m:=by
 have lX:k<X.length:=by rw[h.is.len];exact hk
 refine h.put (Nat.le_refl _) (by rw[List.length_map];exact h.is.row hk) (fun x hx=>?_) (cD.neg hk (fun q _=>?_) fun i q _ hi _=>?_)
 . obtain⟨y,hy,rfl⟩:=List.mem_map.mp hx;rw[Int.natAbs_neg];exact h.bd _ (h.mem hk) y hy
 . rw[lY lX,if_pos rfl];unfold g;generalize X.getD k []=r;rw[List.getD_eq_getElem?_getD,List.getElem?_map,List.getD_eq_getElem?_getD];cases r[q]?<;>rfl
 . rw[lY lX,if_neg hi]
theorem iD.swap{A X:Rows}{N w M m k o:Nat}(h:iD A N w M X m)(hk:k<m)(ho:o<m):iD A N w M ((X.set k (X.getD o [])).set o (X.getD k [])) m:=by
 have lX:k<X.length:=by rw[h.is.len];exact hk
 have lo:o<(X.set k (X.getD o [])).length:=by rw[List.length_set,h.is.len];exact ho
 refine⟨vY (vY h.is (h.is.row ho)) (h.is.row hk),h.lo,h.hi,fun q hq x hx=>?_,h.same.trans (cD.perm (f:=fun i=>if i=o then k else if i=k then o else i) (fun i hi=>?_) (fun i=>?_) fun i q _ _=>?_)⟩
 . rcases List.mem_or_eq_of_mem_set hq with z|z
   . rcases List.mem_or_eq_of_mem_set z with z|z
     . exact h.bd q z x hx
     . exact h.bd _ (h.mem ho) x (z▸hx)
   . exact h.bd _ (h.mem hk) x (z▸hx)
 . show(if i=o then k else if i=k then o else i)<m;split
   . exact hk
   . split
     . exact ho
     . exact hi
 . show(if(if i=o then k else if i=k then o else i)=o then k else if(if i=o then k else if i=k then o else i)=k then o else(if i=o then k else if i=k then o else i))=i;by_cases h1:i=o
   . rw[if_pos h1,if_pos rfl];split
     . rename_i z;rw[z,h1]
     . exact h1.symm
   . rw[if_neg h1];by_cases h2:i=k
     . rw[if_pos h2,if_pos rfl];exact h2.symm
     . rw[if_neg h2,if_neg h1,if_neg h2]
 . show _=g X (if i=o then k else if i=k then o else i) q;rw[lY lo,lY lX];split
   . rfl
   . split<;>rfl
theorem l8{X:Rows}{r:Row}{k:Nat}(hk:k<=X.length)(i:Nat):(X.take k++r::X.drop k).getD i []=if i<k then X.getD i []else if i=k then r else X.getD (i-1) []:=by
 have lt:(X.take k).length=k:=by rw[List.length_take];omega
 rw[List.getD_eq_getElem?_getD,List.getD_eq_getElem?_getD,List.getD_eq_getElem?_getD];by_cases h:i<k
 . rw[if_pos h,List.getElem?_append_left (by rw[lt];exact h),List.getElem?_take_of_lt h]
 . rw[if_neg h,List.getElem?_append_right (by rw[lt];omega),lt];by_cases h2:i=k
   . rw[if_pos h2,h2,Nat.sub_self];rfl
   . rw[if_neg h2];have:i-k=(i-1-k)+1:=by omega
     rw[this,List.getElem?_cons_succ,List.getElem?_drop];congr 2;omega
theorem AS{A:Rows}{N w M:Nat}(hA:bZ N w A)(hb:∀r∈A,∀x∈r,x.natAbs<=M):gw A N 0 M:=fun i q _ hi=>by
 by_cases hq:q<w
 . have li:i<A.length:=by rw[hA.len];exact hi
   have lq:q<(A[i]).length:=by rw[hA.nG _ (List.getElem_mem li)];exact hq
   unfold g;rw[aU li,aU lq];exact hb _ (List.getElem_mem li) _ (List.getElem_mem lq)
 . have:g A i q=0:=by
    unfold g;rw[kn (by rw[bR hA hi];exact Nat.le_of_not_lt hq)]
   rw[this];exact Nat.zero_le _
structure nk(F:Rows)(w:Nat)(ld:Nat->Nat)(row:Nat->Int)(i:Nat)(o:Int)(L:Nat->Int):Prop where
 pos:0<o
 sum:bF F i w fun c=>o*row c-L c
 off:∀k,k<i->L (ld k)=0
 least:∀(m:Int) (v:Nat->Int),bF F i w v->(∀k,k<i->m*row (ld k)=v (ld k))->o∣m
def PN:List Int->Int
 | []=>1
 |x::xs=>x*PN xs
theorem vQ:∀ {ls:List Int},(∀x∈ls,1<=x)->1<=PN ls
 | [],_=>Int.le_refl _
 |x::xs,h=>by
  have h1:=h x List.mem_cons_self;have h2:=vQ fun y hy=>h y (List.mem_cons_of_mem _ hy);have:=Int.mul_le_mul h1 h2 (by decide) (Int.le_trans (by decide) h1);exact this
theorem wq:∀ {ls:List Int} {x:Int},(∀x∈ls,1<=x)->x∈ls->x<=PN ls
 |y::ys,x,h,hx=>by
  have h1:=h y List.mem_cons_self;have h':∀z∈ys,1<=z:=fun z hz=>h z (List.mem_cons_of_mem _ hz);have h2:=vQ h';rcases List.mem_cons.mp hx with rfl|hx
  . have:=Int.mul_le_mul_of_nonneg_left h2 (Int.le_trans (by decide) h1);rw[Int.mul_one]at this;exact this
  . have h3:=wq h' hx;have:=Int.mul_le_mul_of_nonneg_right h1 (Int.le_trans (by decide) h2);rw[Int.one_mul]at this;exact Int.le_trans h3 this
theorem zW:∀ {ls:List Int} {k:Nat} {f:Int},k<ls.length->PN (ls.set k (ls.getD k 0*f))=PN ls*f
 | [],_,_,h=>absurd h (Nat.not_lt_zero _)
 |x::xs,0,f,_=>by
  show x*f*PN xs=x*PN xs*f;rw[Int.mul_assoc,Int.mul_assoc,Int.mul_comm f]
 |x::xs,k+1,f,h=>by
  show x*PN (xs.set k (xs.getD k 0*f))=x*PN xs*f;rw[zW (Nat.lt_of_succ_lt_succ h),Int.mul_assoc]
theorem Av:∀w:Nat,PN (List.replicate w 1)=1
 |0=>rfl
 |w+1=>by
  rw[List.replicate_succ];show 1*PN (List.replicate w 1)=1;rw[Av w];rfl
structure UR(ls:List Int)(w k:Nat)(r:Row):Prop where
 len:r.length=w
 lo:∀c,c<k->r.getD c 0=0
 at':r.getD k 0=ls.getD k 0
 up:∀c,k<c->c<w->0<=r.getD c 0/\r.getD c 0<ls.getD c 0
def nV(zs:List (Nat×Row))(i:Nat):Nat:=(zs.getD i (0,[])).1
theorem HN{zs:List (Nat×Row)}{i:Nat}(hi:i<zs.length):(zs.map (·.2)).getD i []=(zs.getD i (0,[])).2:=by
 rw[aU (by rw[List.length_map];exact hi),aU hi,List.getElem_map]
structure Zs(ls:List Int)(w:Nat)(zs:List (Nat×Row)):Prop where
 ur:∀z∈zs,z.1<w/\UR ls w z.1 z.2
 inc:zs.Pairwise fun a b=>a.1<b.1
 pos:∀x∈ls,1<=x
 len:ls.length=w
theorem Zs.mem{ls:List Int}{w i:Nat}{zs:List (Nat×Row)}(h:Zs ls w zs)(hi:i<zs.length):nV zs i<w/\UR ls w (nV zs i) ((zs.map (·.2)).getD i []):=by
 rw[HN hi];unfold nV;rw[aU hi];exact h.ur _ (List.getElem_mem hi)
theorem Zs.mono{ls:List Int}{w:Nat}{zs:List (Nat×Row)}(h:Zs ls w zs)(i j:Nat)(hij:i<j)(hj:j<zs.length):nV zs i<nV zs j:=by
 unfold nV;rw[aU hj,aU (Nat.lt_trans hij hj)];exact List.pairwise_iff_getElem.mp h.inc i j (Nat.lt_trans hij hj) hj hij
theorem Zs.Kb{ls:List Int}{w c:Nat}{zs:List (Nat×Row)}(h:Zs ls w zs)(hc:c<w):1<=ls.getD c 0:=by
 rw[aU (by rw[h.len];exact hc)];exact h.pos _ (List.getElem_mem _)
theorem Zs.is{ls:List Int}{w:Nat}{zs:List (Nat×Row)}(h:Zs ls w zs):bZ zs.length w (zs.map (·.2)):=⟨List.length_map _,fun r hr=>by
 obtain⟨z,hz,rfl⟩:=List.mem_map.mp hr;exact(h.ur z hz).2.len⟩
theorem Zs.qJ{ls:List Int}{w:Nat}{zs:List (Nat×Row)}(h:Zs ls w zs):cQ (zs.map (·.2)) zs.length w (nV zs):=
 ⟨fun i hi=>by
  obtain⟨h1,h2⟩:=h.mem hi;refine⟨h1,?_,h2.lo⟩;unfold g;rw[h2.at'];exact Int.lt_of_lt_of_le (by decide) (h.Kb h1),h.mono⟩
theorem Zs.red{ls:List Int}{w:Nat}{zs:List (Nat×Row)}(h:Zs ls w zs):sL (zs.map (·.2)) zs.length (nV zs):=fun i j hij hj=>by
 obtain⟨h1,h2⟩:=h.mem hj;obtain⟨h3,h4⟩:=h.mem (Nat.lt_trans hij hj);unfold g;rw[h2.at'];exact h4.up _ (h.mono i j hij hj) h1
theorem Zs.small{ls:List Int}{w:Nat}{M:Int}{zs:List (Nat×Row)}(h:Zs ls w zs)(hM:∀x∈ls,x<=M)(hM0:0<=M)(r:Row)(hr:r∈zs.map (·.2))(x:Int)(hx:x∈r):0<=x/\x<=M:=by
 obtain⟨z,hz,rfl⟩:=List.mem_map.mp hr;obtain⟨h1,u⟩:=h.ur z hz;obtain⟨c,hc,rfl⟩:=List.mem_iff_getElem.mp hx;have e:(z.2).getD c 0=z.2[c]:=aU hc;rw[<-e];have hcw:c<w:=by rw[<-u.len];exact hc
 have big:∀k,k<w->ls.getD k 0<=M:=fun k hk=>by
  rw[aU (by rw[h.len];exact hk)];exact hM _ (List.getElem_mem _)
 rcases Nat.lt_trichotomy c z.1 with q|q|q
 . rw[u.lo c q];exact⟨Int.le_refl _,hM0⟩
 . rw[q,u.at'];exact⟨Int.le_trans (by decide) (h.Kb h1),big _ h1⟩
 . have:=u.up c q hcw;exact⟨this.1,Int.le_trans (Int.le_of_lt this.2) (big c hcw)⟩
theorem Zs.erase{ls:List Int}{w k:Nat}{zs:List (Nat×Row)}(h:Zs ls w zs):Zs ls w (zs.eraseIdx k):=
 ⟨fun z hz=>h.ur z (List.mem_of_mem_eraseIdx hz),h.inc.sublist (List.eraseIdx_sublist _ _),h.pos,h.len⟩
theorem oC{α β:Type}(f:α->β):∀(l:List α) (k:Nat),(l.map f).eraseIdx k=(l.eraseIdx k).map f
 | [],_=>rfl
 |_::_,0=>rfl
 |x::l,k+1=>by
  show f x::(l.map f).eraseIdx k=f x::(l.eraseIdx k).map f;rw[oC f l k]
end Mx
namespace Prog
open PySem L2 L3
open PySem.Spec hiding items?
open PyProof.Rows hiding St
theorem jf{i j:Int}(h1: -(2^64)<i)(h2:i<2^64):IntMulOk i j:= .of_left (intBits_le_64 h1 h2)
theorem kh{i j:Int}(h1: -(2^64)<j)(h2:j<2^64):IntMulOk i j:= .of_right (intBits_le_64 h1 h2)
def isInt:D->Bool
 | .int _=>true
 |_=>false
abbrev aq(r:List Int):List D:=r.map D.int
abbrev bg(r:List Int):D:= .tup (aq r)
abbrev aQ(r:List Int):D:= .lst (aq r)
abbrev d3(A:List (List Int)):D:= .tup (A.map bg)
def bC(st:ag):List D->List (List Int)->Prop
 | [],[]=>True
 |d::ds,r::rs=>items? st d=some (aq r)/\bC st ds rs
 |_,_=>False
structure gI(st:ag)(d:D)(A:List (List Int)):Prop where
 ex:∃ds,items? st d=some ds/\bC st ds A
theorem bC.len{st:ag}:∀ {ds:List D} {A:List (List Int)},bC st ds A->ds.length=A.length
 | [],[],_=>rfl
 |_::_,_::_,h=>by simp[bC.len h.2]
theorem bC.tup{st:ag}:∀ {A:List (List Int)},bC st (A.map bg) A
 | []=>trivial
 |_::_=>⟨rfl,bC.tup⟩
theorem bC.lst{st:ag}:∀ {A:List (List Int)},bC st (A.map aQ) A
 | []=>trivial
 |_::_=>⟨rfl,bC.lst⟩
theorem bC.get{st:ag}:∀ {ds:List D} {A:List (List Int)} {i:Nat} {d:D},bC st ds A->ds[i]?=some d->∃r,A[i]?=some r/\items? st d=some (aq r)
 |_::_,r::_,0,_,h,e=>by simp at e;subst e;exact⟨r,rfl,h.1⟩
 |_::_,_::_,i+1,d,h,e=>by
  obtain⟨r,e1,e2⟩:=bC.get (i:=i) (d:=d) h.2 (by simpa using e);exact⟨r,by simpa using e1,e2⟩
theorem Fl{st:ag}{A:List (List Int)}:gI st (d3 A) A:=⟨_,rfl,bC.tup⟩
structure Ext(st st':ag):Prop where
 len:st.length<=st'.length
 same:∀m,m<st.length->st'[m]?=st[m]?
theorem Ext.refl{st:ag}:Ext st st:=⟨Nat.le_refl _,fun _ _=>rfl⟩
theorem Ext.trans{st st1 st2:ag}(a:Ext st st1)(b:Ext st1 st2):Ext st st2:=⟨Nat.le_trans a.len b.len,fun m h=>(b.same m (Nat.lt_of_lt_of_le h a.len)).trans (a.same m h)⟩
theorem Ext.push{st:ag}{c:List Cell}:Ext st (st++c):=⟨by simp,fun m h=>List.getElem?_append_left h⟩
theorem Ext.set{st:ag}{n:Nat}{c:Cell}{st0:ag}(a:Ext st0 st)(h:st0.length<=n):Ext st0 (st.set n c):=⟨by rw[List.length_set];exact a.len,fun m hm=>by rw[List.getElem?_set_ne (by omega)];exact a.same m hm⟩
theorem Ext.items{st st':ag}{d:D}{xs:List D}(x:Ext st st')(e:items? st d=some xs):items? st' d=some xs:=by
 cases d with
 |ref n=>
  unfold items? at e⊢;simp only at e⊢;cases q:st[n]? with
  |none=>rw[q]at e;cases e
  |some c=>
   have hn:=(List.getElem?_eq_some_iff.mp q).1;rw[x.same n hn];exact e
 |_=>exact e
theorem kl{r:List Int}{k:Nat}(h:k<r.length):c_ (aq r) (k:Int)=some (.int (r.getD k 0)):=by
 refine fS ?_;rw[List.getElem?_map,List.getElem?_eq_getElem h,Mx.aU h];rfl
theorem getD_mem{r:List Int}{k:Nat}(h:k<r.length):r.getD k 0∈r:=by rw[Mx.aU h];exact List.getElem_mem _
theorem bC.at{st:ag}{ds:List D}{A:List (List Int)}{k:Nat}(h:bC st ds A)(hk:k<A.length):∃d,c_ ds (k:Int)=some d/\items? st d=some (aq (A.getD k [])):=by
 have hl:=h.len;have e:ds[k]?=some ds[k]:=List.getElem?_eq_getElem (by omega);obtain⟨r,er,hr⟩:=h.get e;refine⟨ds[k],fS e,?_⟩;rw[Mx.aU hk];rw[List.getElem?_eq_getElem hk]at er;cases er;exact hr
theorem ints_app{r:List Int}{x:Int}:aq r++[D.int x]=aq (r++[x]):=by simp[aq]
theorem vo{A:List (List Int)}{r:List Int}:A.map bg++[bg r]=(A++[r]).map bg:=by simp
theorem qg{r s:List Int}{d:D}(h:d∈jd (aq r) (aq s)):∃a b,a∈r/\b∈s/\d= .tup [.int a,.int b]:=by
 obtain⟨n,hn,e⟩:=List.mem_iff_getElem.mp h;have e':(jd (aq r) (aq s))[n]?=some d:=by rw[List.getElem?_eq_getElem hn,e]
 obtain⟨x,y,ex,ey,rfl⟩:=qd e';rw[List.getElem?_map]at ex ey;cases q1:r[n]? with
 |none=>rw[q1]at ex;cases ex
 |some a=>
  cases q2:s[n]? with
  |none=>rw[q2]at ey;cases ey
  |some b=>
   rw[q1]at ex;rw[q2]at ey;cases ex;cases ey;exact⟨a,b,List.mem_of_getElem? q1,List.mem_of_getElem? q2,rfl⟩
theorem uI(n:Nat):(List.replicate n [D.int 0]).flatten=aq (List.replicate n 0):=by
 induction n with
 |zero=>rfl
 |succ n ih=>rw[List.replicate_succ,List.flatten_cons,ih];rfl
theorem Bu{d:D}{ds:List D}:c_ (d::ds) 0=some d:=fS (j:=0) rfl
def i4:Addr:=139
def nJ:Addr:=152
def iE:Addr:=164
def tw:Addr:=183
def ay:Addr:=118
abbrev eN(b:Bool):Cell:=Cell.tab 98 ⟨48,32,48,66⟩ "Bench.live_rows.<locals>.<lambda>" b
abbrev Hq:List (Addr×Pos×Str):=[(98,⟨48,32,48,66⟩,"Bench.live_rows.<locals>.<lambda>")]
def ll:cq:=fun ds st K=>∃(d:D) (A:List (List Int)),ds=[d]/\gI st d A/\A.length<=1000/\K (d3 A) st
def lH:List Str:=["rows"]
def zz:DS:=(cj (bQ dM (af (cU (cW (ae 0)) [none] (bo 0) bT (bQ dM (af (ae 0) ak))) ak)))
theorem eU{tg:eL}{te:DE}{ok:ag->Prop}{σc:a_}{st:ag}{K:List D->ag->Prop}{ds:List D}{A:List (List Int)}(f:List Int->D)(aB:ok st)(hr:bC st ds A)(hx:∀d r,r∈A->items? st d=some (aq r)->∀K',K' (f r) st->∃σ2,tg d σc=some σ2/\te σ2 st K')(k:K (A.map f) st):cX tg bT te ok σc ds [] st K:=by
 refine i5 (fun rest acc st'=>∃(A1 A2:List (List Int)),st=st'/\A1++A2=A/\bC st rest A2/\acc=A1.map f) ?_ ?_ _ _ _ ⟨[],A,rfl,rfl,hr,rfl⟩
 . rintro acc st' ⟨A1,A2,rfl,he,h,rfl⟩;match A2,h with
   | [],_=>
     rw[List.append_nil]at he;subst he;exact⟨aB,k⟩
 . rintro d rest acc st' ⟨A1,A2,rfl,he,h,rfl⟩ next
   match A2,h with
   |r::A2,h=>
    obtain⟨σ2,e2,q⟩:=hx d r (by rw[<-he];simp) h.1 (fun y st2=>cX tg bT te ok σc rest (A1.map f++[y]) st2 K) (next _ _ ⟨A1++[r],A2,rfl,by rw[<-he];simp,h.2,by simp⟩);exact⟨aB,σ2,e2,q⟩
theorem yY:∀ds st K,ll ds st K->ds.length=1/\zz {nx:=fun _ st'=>K .aC st',rt:=K} (a7 lH ds) st:=by
 rintro ds st K ⟨d,A,rfl,⟨da,hd,ra⟩,hl,k⟩;refine⟨rfl,?_⟩;refine kH hd fun ok aB=>⟨bP (by rw[ra.len];exact hl),?_⟩
 refine eU bg aB ra (fun e r hr he K' q=>⟨_,rfl,dD he q⟩) ?_;exact dD rfl k
def lZ:cq:=fun ds st K=>∃x y t r s,ds=[x,.int t,y]/\items? st x=some (aq r)/\items? st y=some (aq s)/\r.length<=1000/\(∀b∈s,IntMulOk t b)/\K (aQ (Mx.ck r t s)) st
def o4:List Str:=["row","times","other"]
def Ea:DS:=(cj (cU (wz (af (ae 0) (af (ae 2) ak))) [none,none,some 1] (kb 0 1) bT (aE dm (ae 0) (aE dn (ae 2) (ae 1)))))
theorem lB{t:Int}:∀(r s:List Int),(jd (aq r) (aq s)).map (fun d=>match d with| .tup [.int a,.int b]=> .int (a+t*b)|_=> .aC)=aq (Mx.ck r t s)
 | [],_=>rfl
 |_::_,[]=>rfl
 |a::r,b::s=>by
  have:=lB (t:=t) r s;unfold jd Mx.ck at this⊢;simp only[aq,List.map_cons,List.zip_cons_cons,List.zipWith_cons_cons]at this⊢;rw[this]
theorem BC:∀ds st K,lZ ds st K->ds.length=3/\Ea {nx:=fun _ st'=>K .aC st',rt:=K} (a7 o4 ds) st:=by
 rintro ds st K ⟨x,y,t,r,s,rfl,hx,hy,hl,hm,k⟩;refine⟨rfl,?_⟩;refine vk hx hy fun ok aB=>⟨bP (by rw[mF];simp;omega),?_⟩
 refine comp_map (g:=fun d=>match d with| .tup [.int a,.int b]=> .int (a+t*b)|_=> .aC) (aB st hx hy) _ (fun d hd K' q=>?_) ?_
 . obtain⟨a,b,ha,hb,rfl⟩:=qg hd;exact⟨_,rfl,eZ (hm b hb) (dR q)⟩
 . rw[lB];exact k
def qp:cq:=fun ds st K=>∃(d:D) (A:List (List Int)) (j:Nat),ds=[d,.int j]/\gI st d A/\(∀r∈A,j<r.length)/\A.length<=1000/\K (bg (Mx.se A j)) st
def mW:List Str:=["rows","place"]
def BO:DS:=(cj (bQ dM (af (cU (cW (ae 0)) [none,some 1] (bo 0) bT (aE bM (ae 0) (ae 1))) ak)))
theorem zx{tg:eL}{te:DE}{ok:ag->Prop}{σc:a_}{st:ag}{K:List D->ag->Prop}{ds:List D}{A:List (List Int)}(f:List Int->D)(aB:ok st)(hr:bC st ds A)(hx:∀d r,r∈A->items? st d=some (aq r)->∀K',K' (f r) st->∃σ2,tg d σc=some σ2/\te σ2 st K')(k:K (A.map f) st):cX tg bT te ok σc ds [] st K:=by
 refine i5 (fun rest acc st'=>∃(A1 A2:List (List Int)),st=st'/\A1++A2=A/\bC st rest A2/\acc=A1.map f) ?_ ?_ _ _ _ ⟨[],A,rfl,rfl,hr,rfl⟩
 . rintro acc st' ⟨A1,A2,rfl,he,h,rfl⟩;match A2,h with
   | [],_=>
     rw[List.append_nil]at he;subst he;exact⟨aB,k⟩
 . rintro d rest acc st' ⟨A1,A2,rfl,he,h,rfl⟩ next
   match A2,h with
   |r::A2,h=>
    obtain⟨σ2,e2,q⟩:=hx d r (by rw[<-he];simp) h.1 (fun y st2=>cX tg bT te ok σc rest (A1.map f++[y]) st2 K) (next _ _ ⟨A1++[r],A2,rfl,by rw[<-he];simp,h.2,by simp⟩);exact⟨aB,σ2,e2,q⟩
theorem AE(A:List (List Int))(j:Nat):A.map (fun r=>D.int (r.getD j 0))=aq (Mx.se A j):=by unfold Mx.se aq;rw[List.map_map];rfl
theorem AX:∀ds st K,qp ds st K->ds.length=2/\BO {nx:=fun _ st'=>K .aC st',rt:=K} (a7 mW ds) st:=by
 rintro ds st K ⟨d,A,j,rfl,⟨da,hd,ra⟩,hj,hl,k⟩;refine⟨rfl,?_⟩;refine kH hd fun ok aB=>⟨bP (by rw[ra.len];exact hl),?_⟩
 refine zx (fun r=> .int (r.getD j 0)) aB ra (fun e r hr he K' q=>⟨_,rfl,aX he (kl (hj r hr)) q⟩) ?_;rw[AE];exact dD rfl k
def jQ:cq:=fun ds st K=>∃(d:D) (A:List (List Int)) (n:Nat),ds=[d,.int n]/\gI st d A/\(∀r∈A,r.length=n)/\A.length<=1000/\n<=1000/\K (d3 (Mx.Dn A n)) st
def g7:List Str:=["rows","wide"]
def uh:DS:=(cj (bQ dM (af (cU (dA (af (ae 1) ak)) [none,some 0] (bo 0) bT (aV qp (af (ae 1) (af (ae 0) ak)))) ak)))
theorem Cs(A:List (List Int))(n:Nat):(List.range n).map (fun j=>bg (Mx.se A j))=(Mx.Dn A n).map bg:=by unfold Mx.Dn;rw[List.map_map];rfl
theorem sE:∀ds st K,jQ ds st K->ds.length=2/\uh {nx:=fun _ st'=>K .aC st',rt:=K} (a7 g7 ds) st:=by
 rintro ds st K ⟨d,A,n,rfl,hd,hw,hl,hn,k⟩;refine⟨rfl,?_⟩;refine fD ⟨by omega,by omega⟩ ⟨bP (by rw[gG];omega),?_⟩;rw[Int.toNat_natCast];refine mX (fun j=>bg (Mx.se A j)) n (fun i hi K' q=>⟨_,rfl,d,A,i,rfl,hd,fun r hr=>by rw[hw r hr];exact hi,hl,q⟩) ?_;rw[Cs];exact dD rfl k
def nc:cq:=fun ds st K=>∃(n i:Nat),ds=[.int n,.int i]/\n<=1000/\K (bg (Mx.iA n i)) st
def j6:List Str:=["n","place"]
def zp:DS:=(cj (bQ dM (af (cU (dA (af (ae 0) ak)) [none,some 1] (bo 0) bT (GI (bL (aE kD (ae 0) (ae 1))) (dC (.int 1)) (dC (.int 0)))) ak)))
theorem wW:∀ds st K,nc ds st K->ds.length=2/\zp {nx:=fun _ st'=>K .aC st',rt:=K} (a7 j6 ds) st:=by
 rintro ds st K ⟨n,i,rfl,hn,k⟩;refine⟨rfl,?_⟩;refine fD ⟨by omega,by omega⟩ ⟨bP (by rw[gG];omega),?_⟩;rw[Int.toNat_natCast];refine mX (fun j=> .int (Mx.dl j i)) n (fun j hj K' q=>⟨_,rfl,?_⟩) ?_
 . refine eq2 (fun h=>ib ?_) fun h=>?_
   . have:j=i:=by omega
     subst this;rw[Mx.d7]at q;exact q
   . rw[Mx.eG (by omega)]at q;exact q
 . have:(List.range n).map (fun j=>D.int (Mx.dl j i))=aq (Mx.iA n i):=by unfold Mx.iA aq;rw[List.map_map];rfl
   rw[this];exact dD rfl k
def jw:cq:=fun ds st K=>∃(n:Nat),ds=[.int n]/\n<=1000/\K (d3 (Mx.units n)) st
def jt:List Str:=["n"]
def wN:DS:=(cj (bQ dM (af (cU (dA (af (ae 0) ak)) [none,some 0] (bo 0) bT (aV nc (af (ae 1) (af (ae 0) ak)))) ak)))
theorem uH:∀ds st K,jw ds st K->ds.length=1/\wN {nx:=fun _ st'=>K .aC st',rt:=K} (a7 jt ds) st:=by
 rintro ds st K ⟨n,rfl,hn,k⟩;refine⟨rfl,?_⟩;refine fD ⟨by omega,by omega⟩ ⟨bP (by rw[gG];omega),?_⟩;rw[Int.toNat_natCast];refine mX (fun i=>bg (Mx.iA n i)) n (fun i hi K' q=>⟨_,rfl,n,i,rfl,hn,q⟩) ?_;have:(List.range n).map (fun i=>bg (Mx.iA n i))=(Mx.units n).map bg:=by unfold Mx.units;rw[List.map_map];rfl
 rw[this];exact dD rfl k
def gf:cq:=fun ds st K=>∃(t d:Int),ds=[.int t,.int d]/\d≠0/\K (.int (Mx.qn t d)) st
def e7:List Str:=["top","bottom"]
def ox:DS:=(cj (aE mB (aE dm (aE dn (dC (.int 2)) (ae 0)) (ae 1)) (aE dn (dC (.int 2)) (ae 1))))
theorem Bw{a:Int}{m:Nat}(h:a.natAbs<2^m):Builtin.Int.intBits a<=m:=by
 unfold Builtin.Int.intBits;by_cases h0:a.natAbs=0
 . have:a=0:=by omega
   subst this;simp
 . have:=(Nat.log2_lt h0).mpr h;split<;>omega
theorem mn{a b:Int}{m n:Nat}(ha:a.natAbs<=2^m)(hb:b.natAbs<=2^n)(h:m+n<=130000000):IntMulOk a b:=by
 have q:∀ {x:Int} {k:Nat},x.natAbs<=2^k->Builtin.Int.intBits x<=k+1:=fun{x k} h=>Bw (Nat.lt_of_le_of_lt h (Nat.pow_lt_pow_right (by decide) (Nat.lt_succ_self k)));have h1:=q ha;have h2:=q hb;have e:(2:Nat)^27=134217728:=by decide
 have z:Builtin.Int.intTooBig (Builtin.Int.intBits a+Builtin.Int.intBits b)=false:=by
  unfold Builtin.Int.intTooBig bitsLine;exact decide_eq_false (by omega)
 unfold IntMulOk;rw[z];simp
theorem nu:∀ds st K,gf ds st K->ds.length=2/\ox {nx:=fun _ st'=>K .aC st',rt:=K} (a7 e7 ds) st:=by
 rintro ds st K ⟨t,d,rfl,hd,k⟩;exact⟨rfl,eZ (jf (by decide) (by decide)) (dR (eZ (jf (by decide) (by decide)) (wu (by omega) k)))⟩
def g4:cq:=fun ds st K=>∃(n k o:Nat) (A:List (List Int)),ds=[.ref n,.int k,.int o]/\st[n]?=some (.lst (A.map aQ))/\k<A.length/\o<A.length/\K (.ref st.length) (st++[.lst ((Mx.a8 A k o).map aQ)])
def ji:List Str:=["rows","k","other","order"]
def wQ:DS:=(aO (a9 3 (bQ nP (af (ae 0) ak)))
 (aO (di (ae 3) (ae 1) (aE bM (ae 0) (ae 2)))
 (aO (di (ae 3) (ae 2) (aE bM (ae 0) (ae 1)))
 (cj (ae 3)))))
theorem cG{A:List (List Int)}{j:Nat}(h:j<A.length):c_ (A.map aQ) (j:Int)=some (aQ (A.getD j [])):=by
 refine fS ?_;rw[List.getElem?_map,List.getElem?_eq_getElem h,Mx.aU h];rfl
theorem jB{m k:Nat}(h:k<m):jG m (k:Int)=some k:=by
 have:=kB (i:=(k:Int)) (m:=m) (by omega) (by omega);rw[Int.toNat_natCast]at this;exact this
theorem fR{A:List (List Int)}{k:Nat}{r:List Int}:(A.map aQ).set k (aQ r)=(A.set k r).map aQ:=by rw[List.map_set]
theorem uP:∀ds st K,g4 ds st K->ds.length=3/\wQ {nx:=fun _ st'=>K .aC st',rt:=K} (a7 ji ds) st:=by
 rintro ds st K ⟨n,k,o,A,rfl,e,hk,ho,kk⟩;refine⟨rfl,?_⟩;have hn:n<st.length:=(List.getElem?_eq_some_iff.mp e).1;refine Bf (aH e) ?_;have e1:(st++[Cell.lst (A.map aQ)])[n]?=some (.lst (A.map aQ)):=by rw[List.getElem?_append_left hn];exact e
 have e2:(st++[Cell.lst (A.map aQ)])[st.length]?=some (.lst (A.map aQ)):=by simp
 refine aX (aH e1) (cG ho) (eh e2 (by rw[List.length_map];exact jB hk) ?_);rw[fR]
 have es:(st++[Cell.lst (A.map aQ)]).set st.length (.lst ((A.set k (A.getD o [])).map aQ))=st++[Cell.lst ((A.set k (A.getD o [])).map aQ)]:=by
  rw[List.set_append_right _ _ (Nat.le_refl _),Nat.sub_self];rfl
 rw[es];have e3:(st++[Cell.lst ((A.set k (A.getD o [])).map aQ)])[n]?=some (.lst (A.map aQ)):=by rw[List.getElem?_append_left hn];exact e
 have e4:(st++[Cell.lst ((A.set k (A.getD o [])).map aQ)])[st.length]?=some (.lst ((A.set k (A.getD o [])).map aQ)):=by simp
 refine aX (aH e3) (cG hk) (eh e4 (by rw[List.length_map,List.length_set];exact jB ho) ?_);rw[fR]
 have es2:(st++[Cell.lst ((A.set k (A.getD o [])).map aQ)]).set st.length (.lst (((A.set k (A.getD o [])).set o (A.getD k [])).map aQ))=st++[Cell.lst ((Mx.a8 A k o).map aQ)]:=by
  rw[List.set_append_right _ _ (Nat.le_refl _),Nat.sub_self];rfl
 rw[es2];exact kk
def jA:cq:=fun ds st K=>∃(d:D) (r:List Int),ds=[d]/\items? st d=some (aq r)/\r.length<=1000/\K (aQ (r.map fun x=> -x)) st
def lj:List Str:=["row"]
def zB:DS:=(cj (cU (cW (ae 0)) [none] (bo 0) bT (nS i6 (ae 0))))
theorem x_:∀ds st K,jA ds st K->ds.length=1/\zB {nx:=fun _ st'=>K .aC st',rt:=K} (a7 lj ds) st:=by
 rintro ds st K ⟨d,r,rfl,hd,hl,k⟩;refine⟨rfl,?_⟩;refine kH hd fun ok aB=>⟨bP (by unfold aq;rw[List.length_map];exact hl),?_⟩
 refine comp_map (g:=fun x=>match x with| .int a=> .int (-a)|_=> .aC) aB _ (fun x hx K' q=>?_) ?_
 . unfold aq at hx;obtain⟨a,_,rfl⟩:=List.mem_map.mp hx;exact⟨_,rfl,jJ q⟩
 . have e:(aq r).map (fun x=>match x with| .int a=> .int (-a)|_=> .aC)=aq (r.map fun x=> -x):=by unfold aq;rw[List.map_map,List.map_map];rfl
   rw[e];exact k
structure Bn(st:ag)(b xb xu xc:Nat)(A U C:List (List Int)):Prop where
 eb:st[b]?=some (Cell.ins ay [("body",.ref xb),("turn",.ref xu),("back_columns",.ref xc)])
 e1:st[xb]?=some (Cell.lst (A.map aQ))
 e2:st[xu]?=some (Cell.lst (U.map aQ))
 e3:st[xc]?=some (Cell.lst (C.map aQ))
 n1:xb≠xu
 n2:xb≠xc
 n3:xu≠xc
theorem iO{st:ag}{b x:Nat}{C:Addr}{fs:List (Str×D)}{xs:List D}(h1:st[b]?=some (Cell.ins C fs))(h2:st[x]?=some (Cell.lst xs)):b≠x:=fun z=>by rw[z,h2]at h1;cases h1
def hW:cq:=fun ds st K=>∃(b N:Nat) (d:D) (A:List (List Int)),ds=[.ref b,d]/\st[b]?=some (.ins ay [])/\gI st d A/\A.length=N/\N<=8/\∀st',Bn st' b st.length (st.length+1) (st.length+2) A (Mx.units N) (Mx.units N)->st'.length=st.length+3->(∀m,m<st.length->m≠b->st'[m]?=st[m]?)->K .aC st'
def fG:List Str:=["self","rows"]
def qc:DS:=(aO (kY ay "body" (ae 0) (jK (cW (ae 1)) [none] (bo 0) bT (bQ jx (af (ae 0) ak))))
 (aO (kY ay "turn" (ae 0) (jK (cW (aV jw (af (bQ dZ (af (ae 1) ak)) ak))) [none] (bo 0) bT (bQ jx (af (ae 0) ak))))
 (kY ay "back_columns" (ae 0) (jK (cW (aV jw (af (bQ dZ (af (ae 1) ak)) ak))) [none] (bo 0) bT (bQ jx (af (ae 0) ak))))))
theorem mS(f:Str)(v:D):∀fs:List (Str×D),(putD f v fs).length<=fs.length+1
 | []=>by simp[putD]
 |(g,x)::r=>by
  unfold putD;split
  . simp
  . have:=mS f v r;simp only[List.length_cons];omega
theorem wc{st:ag}{A:List (List Int)}:bC st (A.map bg) A:=bC.tup
theorem t7(n:Nat):(Mx.units n).length=n:=by unfold Mx.units;simp
theorem pw:∀ds st K,hW ds st K->ds.length=2/\qc {nx:=fun _ st'=>K .aC st',rt:=K} (a7 fG ds) st:=by
 rintro ds st K ⟨b,N,d,A,rfl,eb,hA,hl,hN,k⟩;refine⟨rfl,?_⟩;have hb:b<st.length:=(List.getElem?_eq_some_iff.mp eb).1;obtain⟨da,hd,ra⟩:=hA.ex;have hdl:=ra.len;have lst:∀(e:D) (r:List Int),True:=fun _ _=>trivial;refine kH hd fun ok aB=>⟨bP (by omega),?_⟩
 refine eU aQ aB ra (fun e r hr he K' q=>⟨_,rfl,kg he q⟩) ?_;have eb1:(st++[Cell.lst (A.map aQ)])[b]?=some (.ins ay []):=by rw[List.getElem?_append_left hb];exact eb
 refine ko eb1 (by decide) ?_;generalize hs1:(st++[Cell.lst (A.map aQ)]).set b (.ins ay (putD "body" (.ref st.length) []))=st1;have l1:st1.length=st.length+1:=by rw[<-hs1];simp
 have f1:∀m,m<st.length->m≠b->st1[m]?=st[m]?:=fun m hm hmb=>by rw[<-hs1,List.getElem?_set_ne (Ne.symm hmb),List.getElem?_append_left hm]
 have b1:st1[b]?=some (.ins ay (putD "body" (.ref st.length) [])):=by rw[<-hs1,List.getElem?_set_self (by simp;omega)]
 have x1:st1[st.length]?=some (.lst (A.map aQ)):=by rw[<-hs1,List.getElem?_set_ne (by omega)];simp
 clear hs1
 have itd:∃da',items? st1 d=some da'/\da'.length=N:=by
  cases d with
  |ref n=>
   by_cases hnb:n=b
   . subst hnb;unfold items? at hd;simp only[eb]at hd;cases hd
   . have hn:n<st.length:=by
      unfold items? at hd;simp only at hd;cases q:st[n]? with
      |none=>rw[q]at hd;cases hd
      |some c=>exact(List.getElem?_eq_some_iff.mp q).1
     refine⟨da,?_,by omega⟩;unfold items? at hd⊢;simp only at hd⊢;rw[f1 n hn hnb];exact hd
  |_=>exact⟨da,hd,by omega⟩
 obtain⟨da1,hd1,hdl1⟩:=itd;refine cP hd1 ?_;rw[hdl1];refine⟨N,rfl,by omega,?_⟩;refine i7 ⟨bP (by rw[List.length_map,t7];omega),?_⟩;refine eU aQ trivial wc (fun e r hr he K' q=>⟨_,rfl,kg he q⟩) ?_;have b2:(st1++[Cell.lst ((Mx.units N).map aQ)])[b]?=some (.ins ay (putD "body" (.ref st.length) [])):=by rw[List.getElem?_append_left (by omega)];exact b1
 refine ko b2 (by have:=mS "body" (.ref st.length) [];simp only[List.length_nil]at this;omega) ?_;generalize hs2:(st1++[Cell.lst ((Mx.units N).map aQ)]).set b (.ins ay (putD "turn" (.ref st1.length) (putD "body" (.ref st.length) [])))=st2;have l2:st2.length=st.length+2:=by rw[<-hs2];simp;omega
 have f2:∀m,m<st1.length->m≠b->st2[m]?=st1[m]?:=fun m hm hmb=>by rw[<-hs2,List.getElem?_set_ne (Ne.symm hmb),List.getElem?_append_left hm]
 have b2':st2[b]?=some (.ins ay (putD "turn" (.ref st1.length) (putD "body" (.ref st.length) []))):=by rw[<-hs2,List.getElem?_set_self (by simp;omega)]
 have x2:st2[st1.length]?=some (.lst ((Mx.units N).map aQ)):=by rw[<-hs2,List.getElem?_set_ne (by omega)];simp
 clear hs2
 have itd2:items? st2 d=some da1:=by
  cases d with
  |ref n=>
   by_cases hnb:n=b
   . subst hnb;unfold items? at hd1;simp only[b1]at hd1;cases hd1
   . have hn:n<st1.length:=by
      unfold items? at hd1;simp only at hd1;cases q:st1[n]? with
      |none=>rw[q]at hd1;cases hd1
      |some c=>exact(List.getElem?_eq_some_iff.mp q).1
     unfold items? at hd1⊢;simp only at hd1⊢;rw[f2 n hn hnb];exact hd1
  |_=>exact hd1
 refine cP itd2 ?_;rw[hdl1];refine⟨N,rfl,by omega,?_⟩;refine i7 ⟨bP (by rw[List.length_map,t7];omega),?_⟩;refine eU aQ trivial wc (fun e r hr he K' q=>⟨_,rfl,kg he q⟩) ?_;have b3:(st2++[Cell.lst ((Mx.units N).map aQ)])[b]?=some (.ins ay (putD "turn" (.ref st1.length) (putD "body" (.ref st.length) []))):=by rw[List.getElem?_append_left (by omega)];exact b2'
 refine ko b3 (by have h1:=mS "body" (.ref st.length) [];have h2:=mS "turn" (.ref st1.length) (putD "body" (.ref st.length) []);simp only[List.length_nil]at h1;omega) ?_;refine k _ ⟨?_,?_,?_,?_,by omega,by omega,by omega⟩ (by simp;omega) fun m hm hmb=>?_
 . rw[List.getElem?_set_self (by simp;omega),l1,l2];rfl
 . rw[List.getElem?_set_ne (by omega),List.getElem?_append_left (by omega),f2 _ (by omega) (by omega)];exact x1
 . rw[List.getElem?_set_ne (by omega),List.getElem?_append_left (by omega)];rw[l1]at x2;exact x2
 . rw[List.getElem?_set_ne (by omega)];rw[show st.length+2=st2.length by omega];simp
 . rw[List.getElem?_set_ne (Ne.symm hmb),List.getElem?_append_left (by omega),f2 m (by omega) hmb,f1 m hm hmb]
def iK:cq:=fun ds st K=>∃(b xb xu xc N w k j:Nat) (A U C:List (List Int)) (q:Int),ds=[.ref b,.int k,.int q,.int j]/\Bn st b xb xu xc A U C/\Mx.bZ N w A/\Mx.bZ N N U/\Mx.bZ N N C/\k<N/\j<N/\N<=8/\w<=9/\(∀x∈A.getD j [],IntMulOk (-q) x)/\(∀x∈U.getD j [],IntMulOk (-q) x)/\(∀x∈C.getD k [],IntMulOk q x)/\
 ∀st',Bn st' b xb xu xc (Mx.bh A k q j) (Mx.bh U k q j) (Mx.bh C j (-q) k)->st'.length=st.length->(∀m,m≠xb->m≠xu->m≠xc->st'[m]?=st[m]?)->K .aC st'
def iJ:List Str:=["self","k","times","other"]
def vR:DS:=(aO (di (cM ay "body" (ae 0)) (ae 1) (aV lZ (af (aE bM (cM ay "body" (ae 0)) (ae 1)) (af (nS i6 (ae 2)) (af (aE bM (cM ay "body" (ae 0)) (ae 3)) ak)))))
 (aO (di (cM ay "turn" (ae 0)) (ae 1) (aV lZ (af (aE bM (cM ay "turn" (ae 0)) (ae 1)) (af (nS i6 (ae 2)) (af (aE bM (cM ay "turn" (ae 0)) (ae 3)) ak)))))
 (di (cM ay "back_columns" (ae 0)) (ae 3) (aV lZ (af (aE bM (cM ay "back_columns" (ae 0)) (ae 3)) (af (ae 2) (af (aE bM (cM ay "back_columns" (ae 0)) (ae 1)) ak)))))))
theorem ud:∀ds st K,iK ds st K->ds.length=4/\vR {nx:=fun _ st'=>K .aC st',rt:=K} (a7 iJ ds) st:=by
 rintro ds st K ⟨b,xb,xu,xc,N,w,k,j,A,U,C,q,rfl,B,hA,hU,hC,hk,hj,hN,hw,mA,mU,mC,kk⟩;refine⟨rfl,?_⟩;have lA:=hA.len;have lU:=hU.len;have lC:=hC.len;have rA:=Mx.bR hA hk;have rU:=Mx.bR hU hk;have rC:=Mx.bR hC hj;have bx1:=iO B.eb B.e1;have bx2:=iO B.eb B.e2;have bx3:=iO B.eb B.e3;have n1:=B.n1;have n2:=B.n2;have n3:=B.n3;refine bN B.eb rfl (aX (aH B.e1) (cG (by omega)) (jJ (bN B.eb rfl (aX (aH B.e1) (cG (by omega)) ?_))));refine⟨_,_,-q,A.getD k [],A.getD j [],rfl,rfl,rfl,by omega,mA,?_⟩;refine bN B.eb rfl (eh B.e1 (by rw[List.length_map,lA];exact jB hk) ?_);rw[fR];have g1:∀m,m≠xb->(st.set xb (.lst ((A.set k (Mx.ck (A.getD k []) (-q) (A.getD j []))).map aQ)))[m]?=st[m]?:=fun m hm=>List.getElem?_set_ne (Ne.symm hm);have h1:(st.set xb (.lst ((A.set k (Mx.ck (A.getD k []) (-q) (A.getD j []))).map aQ)))[xb]?=some (.lst ((Mx.bh A k q j).map aQ)):=List.getElem?_set_self (List.getElem?_eq_some_iff.mp B.e1).1;have z1:(st.set xb (.lst ((A.set k (Mx.ck (A.getD k []) (-q) (A.getD j []))).map aQ))).length=st.length:=List.length_set;generalize st.set xb (.lst ((A.set k (Mx.ck (A.getD k []) (-q) (A.getD j []))).map aQ))=st1 at g1 h1 z1⊢;have eb1:=(g1 b bx1).trans B.eb;have e21:=(g1 xu (Ne.symm n1)).trans B.e2;have e31:=(g1 xc (Ne.symm n2)).trans B.e3;refine bN eb1 rfl (aX (aH e21) (cG (by omega)) (jJ (bN eb1 rfl (aX (aH e21) (cG (by omega)) ?_))));refine⟨_,_,-q,U.getD k [],U.getD j [],rfl,rfl,rfl,by omega,mU,?_⟩;refine bN eb1 rfl (eh e21 (by rw[List.length_map,lU];exact jB hk) ?_);rw[fR];have g2:∀m,m≠xu->(st1.set xu (.lst ((U.set k (Mx.ck (U.getD k []) (-q) (U.getD j []))).map aQ)))[m]?=st1[m]?:=fun m hm=>List.getElem?_set_ne (Ne.symm hm);have h2:(st1.set xu (.lst ((U.set k (Mx.ck (U.getD k []) (-q) (U.getD j []))).map aQ)))[xu]?=some (.lst ((Mx.bh U k q j).map aQ)):=List.getElem?_set_self (List.getElem?_eq_some_iff.mp e21).1;have z2:(st1.set xu (.lst ((U.set k (Mx.ck (U.getD k []) (-q) (U.getD j []))).map aQ))).length=st1.length:=List.length_set;generalize st1.set xu (.lst ((U.set k (Mx.ck (U.getD k []) (-q) (U.getD j []))).map aQ))=st2 at g2 h2 z2⊢;have eb2:=(g2 b bx2).trans eb1;have e32:=(g2 xc (Ne.symm n3)).trans e31;refine bN eb2 rfl (aX (aH e32) (cG (by omega)) (bN eb2 rfl (aX (aH e32) (cG (by omega)) ?_)));refine⟨_,_,q,C.getD j [],C.getD k [],rfl,rfl,rfl,by omega,mC,?_⟩;refine bN eb2 rfl (eh e32 (by rw[List.length_map,lC];exact jB hj) ?_);rw[fR];have hc:C.set j (Mx.ck (C.getD j []) q (C.getD k []))=Mx.bh C j (-q) k:=by unfold Mx.bh;rw[Int.neg_neg]
 rw[hc];refine kk _ ⟨?_,?_,?_,?_,n1,n2,n3⟩ (by rw[List.length_set];omega) fun m m1 m2 m3=>?_
 . rw[List.getElem?_set_ne (Ne.symm bx3)];exact eb2
 . rw[List.getElem?_set_ne (Ne.symm n2),g2 _ n1];exact h1
 . rw[List.getElem?_set_ne (Ne.symm n3)];exact h2
 . exact List.getElem?_set_self (List.getElem?_eq_some_iff.mp e32).1
 . rw[List.getElem?_set_ne (Ne.symm m3),g2 m m2,g1 m m1]
def ip:cq:=fun ds st K=>∃(b xb xu xc N w k o:Nat) (A U C:List (List Int)),ds=[.ref b,.int k,.int o]/\Bn st b xb xu xc A U C/\Mx.bZ N w A/\Mx.bZ N N U/\Mx.bZ N N C/\k<N/\o<N/\
 ∀st',Bn st' b st.length (st.length+1) (st.length+2) (Mx.a8 A k o) (Mx.a8 U k o) (Mx.a8 C k o)->st'.length=st.length+3->(∀m,m<st.length->m≠b->st'[m]?=st[m]?)->K .aC st'
def fN:List Str:=["self","k","other"]
def pZ:DS:=(aO (kY ay "body" (ae 0) (aV g4 (af (cM ay "body" (ae 0)) (af (ae 1) (af (ae 2) ak)))))
 (aO (kY ay "turn" (ae 0) (aV g4 (af (cM ay "turn" (ae 0)) (af (ae 1) (af (ae 2) ak)))))
 (kY ay "back_columns" (ae 0) (aV g4 (af (cM ay "back_columns" (ae 0)) (af (ae 1) (af (ae 2) ak)))))))
theorem pk:∀ds st K,ip ds st K->ds.length=3/\pZ {nx:=fun _ st'=>K .aC st',rt:=K} (a7 fN ds) st:=by
 rintro ds st K ⟨b,xb,xu,xc,N,w,k,o,A,U,C,rfl,B,hA,hU,hC,hk,ho,kk⟩;refine⟨rfl,?_⟩;have lA:=hA.len;have lU:=hU.len;have lC:=hC.len;have bx1:=iO B.eb B.e1;have bx2:=iO B.eb B.e2;have bx3:=iO B.eb B.e3;have hb:b<st.length:=(List.getElem?_eq_some_iff.mp B.eb).1;have hu:xu<st.length:=(List.getElem?_eq_some_iff.mp B.e2).1;have hc:xc<st.length:=(List.getElem?_eq_some_iff.mp B.e3).1;refine bN B.eb rfl ?_;refine⟨xb,k,o,A,rfl,B.e1,by omega,by omega,?_⟩;have eb1:(st++[Cell.lst ((Mx.a8 A k o).map aQ)])[b]?=some (.ins ay [("body",.ref xb),("turn",.ref xu),("back_columns",.ref xc)]):=by rw[List.getElem?_append_left hb];exact B.eb
 refine ko eb1 (by simp) ?_;have pb:putD "body" (.ref st.length) [("body",.ref xb),("turn",.ref xu),("back_columns",.ref xc)]=([("body",.ref st.length),("turn",.ref xu),("back_columns",.ref xc)]:List (Str×D)):=rfl;rw[pb];generalize hs1:(st++[Cell.lst ((Mx.a8 A k o).map aQ)]).set b (.ins ay [("body",.ref st.length),("turn",.ref xu),("back_columns",.ref xc)])=st1;have l1:st1.length=st.length+1:=by rw[<-hs1];simp
 have f1:∀m,m<st.length->m≠b->st1[m]?=st[m]?:=fun m hm hmb=>by rw[<-hs1,List.getElem?_set_ne (Ne.symm hmb),List.getElem?_append_left hm]
 have b1:st1[b]?=some (.ins ay [("body",.ref st.length),("turn",.ref xu),("back_columns",.ref xc)]):=by rw[<-hs1,List.getElem?_set_self (by simp;omega)]
 have x1:st1[st.length]?=some (.lst ((Mx.a8 A k o).map aQ)):=by rw[<-hs1,List.getElem?_set_ne (by omega)];simp
 clear hs1 eb1;refine bN b1 rfl ?_;refine⟨xu,k,o,U,rfl,(f1 xu hu (Ne.symm bx2)).trans B.e2,by omega,by omega,?_⟩;have eb1:(st1++[Cell.lst ((Mx.a8 U k o).map aQ)])[b]?=some (.ins ay [("body",.ref st.length),("turn",.ref xu),("back_columns",.ref xc)]):=by rw[List.getElem?_append_left (by omega)];exact b1
 refine ko eb1 (by simp) ?_;have pb:putD "turn" (.ref st1.length) [("body",.ref st.length),("turn",.ref xu),("back_columns",.ref xc)]=([("body",.ref st.length),("turn",.ref st1.length),("back_columns",.ref xc)]:List (Str×D)):=rfl;rw[pb];generalize hs2:(st1++[Cell.lst ((Mx.a8 U k o).map aQ)]).set b (.ins ay [("body",.ref st.length),("turn",.ref st1.length),("back_columns",.ref xc)])=st2;have l2:st2.length=st.length+2:=by rw[<-hs2];simp;omega
 have f2:∀m,m<st1.length->m≠b->st2[m]?=st1[m]?:=fun m hm hmb=>by rw[<-hs2,List.getElem?_set_ne (Ne.symm hmb),List.getElem?_append_left hm]
 have b2:st2[b]?=some (.ins ay [("body",.ref st.length),("turn",.ref st1.length),("back_columns",.ref xc)]):=by rw[<-hs2,List.getElem?_set_self (by simp;omega)]
 have x2:st2[st1.length]?=some (.lst ((Mx.a8 U k o).map aQ)):=by rw[<-hs2,List.getElem?_set_ne (by omega)];simp
 clear hs2 eb1;refine bN b2 rfl ?_;refine⟨xc,k,o,C,rfl,((f2 xc (by omega) (Ne.symm bx3)).trans (f1 xc hc (Ne.symm bx3))).trans B.e3,by omega,by omega,?_⟩;have eb1:(st2++[Cell.lst ((Mx.a8 C k o).map aQ)])[b]?=some (.ins ay [("body",.ref st.length),("turn",.ref st1.length),("back_columns",.ref xc)]):=by rw[List.getElem?_append_left (by omega)];exact b2
 refine ko eb1 (by simp) ?_;have pb:putD "back_columns" (.ref st2.length) [("body",.ref st.length),("turn",.ref st1.length),("back_columns",.ref xc)]=([("body",.ref st.length),("turn",.ref st1.length),("back_columns",.ref st2.length)]:List (Str×D)):=rfl;rw[pb];refine kk _ ⟨?_,?_,?_,?_,by omega,by omega,by omega⟩ (by simp;omega) fun m hm hmb=>?_
 . rw[List.getElem?_set_self (by simp;omega),l1,l2]
 . rw[List.getElem?_set_ne (by omega),List.getElem?_append_left (by omega),f2 _ (by omega) (by omega)];exact x1
 . rw[List.getElem?_set_ne (by omega),List.getElem?_append_left (by omega)];rw[l1]at x2;exact x2
 . rw[List.getElem?_set_ne (by omega)];rw[show st.length+2=st2.length by omega];simp
 . rw[List.getElem?_set_ne (Ne.symm hmb),List.getElem?_append_left (by omega),f2 m (by omega) hmb,f1 m hm hmb]
def fX:cq:=fun ds st K=>∃(b xb xu xc N w k:Nat) (A U C:List (List Int)),ds=[.ref b,.int k]/\Bn st b xb xu xc A U C/\Mx.bZ N w A/\Mx.bZ N N U/\Mx.bZ N N C/\k<N/\N<=8/\w<=9/\
 ∀st',Bn st' b xb xu xc (Mx.fx A k) (Mx.fx U k) (Mx.fx C k)->st'.length=st.length->(∀m,m≠xb->m≠xu->m≠xc->st'[m]?=st[m]?)->K .aC st'
def eJ:List Str:=["self","k"]
def ny:DS:=(aO (di (cM ay "body" (ae 0)) (ae 1) (aV jA (af (aE bM (cM ay "body" (ae 0)) (ae 1)) ak)))
 (aO (di (cM ay "turn" (ae 0)) (ae 1) (aV jA (af (aE bM (cM ay "turn" (ae 0)) (ae 1)) ak)))
 (di (cM ay "back_columns" (ae 0)) (ae 1) (aV jA (af (aE bM (cM ay "back_columns" (ae 0)) (ae 1)) ak)))))
theorem m7:∀ds st K,fX ds st K->ds.length=2/\ny {nx:=fun _ st'=>K .aC st',rt:=K} (a7 eJ ds) st:=by
 rintro ds st K ⟨b,xb,xu,xc,N,w,k,A,U,C,rfl,B,hA,hU,hC,hk,hN,hw,kk⟩;refine⟨rfl,?_⟩;have lA:=hA.len;have lU:=hU.len;have lC:=hC.len;have rA:=Mx.bR hA hk;have rU:=Mx.bR hU hk;have rC:=Mx.bR hC hk;have bx1:=iO B.eb B.e1;have bx2:=iO B.eb B.e2;have bx3:=iO B.eb B.e3;have n1:=B.n1;have n2:=B.n2;have n3:=B.n3;refine bN B.eb rfl (aX (aH B.e1) (cG (by omega)) ?_);refine⟨_,A.getD k [],rfl,rfl,by omega,?_⟩;refine bN B.eb rfl (eh B.e1 (by rw[List.length_map,lA];exact jB hk) ?_);rw[fR];have g1:∀m,m≠xb->(st.set xb (.lst ((A.set k ((A.getD k []).map fun x=> -x)).map aQ)))[m]?=st[m]?:=fun m hm=>List.getElem?_set_ne (Ne.symm hm);have h1:(st.set xb (.lst ((A.set k ((A.getD k []).map fun x=> -x)).map aQ)))[xb]?=some (.lst ((Mx.fx A k).map aQ)):=List.getElem?_set_self (List.getElem?_eq_some_iff.mp B.e1).1;have z1:(st.set xb (.lst ((A.set k ((A.getD k []).map fun x=> -x)).map aQ))).length=st.length:=List.length_set;generalize st.set xb (.lst ((A.set k ((A.getD k []).map fun x=> -x)).map aQ))=st1 at g1 h1 z1⊢;have eb1:=(g1 b bx1).trans B.eb;have e21:=(g1 xu (Ne.symm n1)).trans B.e2;have e31:=(g1 xc (Ne.symm n2)).trans B.e3;refine bN eb1 rfl (aX (aH e21) (cG (by omega)) ?_);refine⟨_,U.getD k [],rfl,rfl,by omega,?_⟩;refine bN eb1 rfl (eh e21 (by rw[List.length_map,lU];exact jB hk) ?_);rw[fR];have g2:∀m,m≠xu->(st1.set xu (.lst ((U.set k ((U.getD k []).map fun x=> -x)).map aQ)))[m]?=st1[m]?:=fun m hm=>List.getElem?_set_ne (Ne.symm hm);have h2:(st1.set xu (.lst ((U.set k ((U.getD k []).map fun x=> -x)).map aQ)))[xu]?=some (.lst ((Mx.fx U k).map aQ)):=List.getElem?_set_self (List.getElem?_eq_some_iff.mp e21).1;have z2:(st1.set xu (.lst ((U.set k ((U.getD k []).map fun x=> -x)).map aQ))).length=st1.length:=List.length_set;generalize st1.set xu (.lst ((U.set k ((U.getD k []).map fun x=> -x)).map aQ))=st2 at g2 h2 z2⊢;have eb2:=(g2 b bx2).trans eb1;have e32:=(g2 xc (Ne.symm n3)).trans e31;refine bN eb2 rfl (aX (aH e32) (cG (by omega)) ?_);refine⟨_,C.getD k [],rfl,rfl,by omega,?_⟩;refine bN eb2 rfl (eh e32 (by rw[List.length_map,lC];exact jB hk) ?_);rw[fR];refine kk _ ⟨?_,?_,?_,?_,n1,n2,n3⟩ (by rw[List.length_set];omega) fun m m1 m2 m3=>?_
 . rw[List.getElem?_set_ne (Ne.symm bx3)];exact eb2
 . rw[List.getElem?_set_ne (Ne.symm n2),g2 _ n1];exact h1
 . rw[List.getElem?_set_ne (Ne.symm n3)];exact h2
 . exact List.getElem?_set_self (List.getElem?_eq_some_iff.mp e32).1
 . rw[List.getElem?_set_ne (Ne.symm m3),g2 m m2,g1 m m1]
def fm:cq:=fun ds st K=>∃(b xb xu xc N w top p:Nat) (A U C:List (List Int)) (f:Bool),ds=[.ref b,.int top,.int p]/\Bn st b xb xu xc A U C/\Mx.bZ N w A/\top<=N/\N<=8/\p<w/\w<=9/\st[0]?=some (eN f)/\
 ∀L,Mx.ij A N top p L->K (.lst (L.map fun(k:Nat)=> .int (k:Int))) (st.set 0 (eN true))
def fk:List Str:=["self","top","place","live"]
def pC:DS:=(aO (a9 3 (cU (mv (af (ae 1) (af (bQ dZ (af (cM ay "body" (ae 0)) ak)) ak))) [none,some 0,some 2] (bo 0) (bL (aE tF (aE bM (aE bM (cM ay "body" (ae 1)) (ae 0)) (ae 2)) (dC (.int 0)))) (ae 0)))
 (cj (uG 0 98 ⟨48,32,48,66⟩ "Bench.live_rows.<locals>.<lambda>" [none,some 0,some 2] (bQ vq (af (aE bM (aE bM (cM ay "body" (ae 1)) (ae 0)) (ae 2)) ak)) (ae 3))))
theorem rJ{a b:Prop}(h:b):if false=true then a else b:=h
theorem Es{st:ag}{b:Nat}{C:Addr}{fs:List (Str×D)}{f:Bool}(h1:st[b]?=some (Cell.ins C fs))(h2:st[0]?=some (eN f)):b≠0:=fun z=>by rw[z,h2]at h1;cases h1
theorem oK{st:ag}{b:Nat}{xs:List D}{f:Bool}(h1:st[b]?=some (Cell.lst xs))(h2:st[0]?=some (eN f)):b≠0:=fun z=>by rw[z,h2]at h1;cases h1
theorem Bn.keep{st st':ag}{b xb xu xc:Nat}{A U C:List (List Int)}(B:Bn st b xb xu xc A U C)(h:∀m,m=b\/m=xb\/m=xu\/m=xc->st'[m]?=st[m]?):Bn st' b xb xu xc A U C:=
 ⟨(h b (.inl rfl)).trans B.eb,(h xb (.inr (.inl rfl))).trans B.e1,(h xu (.inr (.inr (.inl rfl)))).trans B.e2,(h xc (.inr (.inr (.inr rfl)))).trans B.e3,B.n1,B.n2,B.n3⟩
theorem Bn.tab{st:ag}{b xb xu xc:Nat}{A U C:List (List Int)}{f:Bool}(B:Bn st b xb xu xc A U C)(h:st[0]?=some (eN f))(c:Cell):Bn (st.set 0 c) b xb xu xc A U C:=
 B.keep fun m hm=>List.getElem?_set_ne fun z=>by
  subst z;rcases hm with rfl|rfl|rfl|rfl
  . exact Es B.eb h rfl
  . exact oK B.e1 h rfl
  . exact oK B.e2 h rfl
  . exact oK B.e3 h rfl
theorem kv{r:List Int}{k:Nat}(h:k<r.length):c_ (aq r) (k:Int)=some (.int (r.getD k 0)):=by
 refine fS ?_;unfold aq;rw[List.getElem?_map,List.getElem?_eq_getElem h,Mx.aU h];rfl
def dY(A:List (List Int))(N top p:Nat):List Nat:=(List.range (N-top)).filterMap fun i=>if Mx.g A (top+i) p≠0 then some (top+i)else none
theorem tY{A:List (List Int)}{N top p k:Nat}:k∈dY A N top p↔top<=k/\k<N/\Mx.g A k p≠0:=by
 unfold dY;rw[List.mem_filterMap];constructor
 . rintro⟨i,hi,e⟩;rw[List.mem_range]at hi;split at e
   . rename_i h;cases e;exact⟨by omega,by omega,h⟩
   . cases e
 . rintro⟨h1,h2,h3⟩;refine⟨k-top,List.mem_range.mpr (by omega),?_⟩;rw[show top+(k-top)=k by omega,if_pos h3]
theorem pw_filterMap{f:Nat->Option Nat}(h:∀i j a b,i<j->f i=some a->f j=some b->a<b):∀ {l:List Nat},l.Pairwise (· < ·)->(l.filterMap f).Pairwise (· < ·)
 | [],_=>by simp
 |x::l,hl=>by
  obtain⟨h1,h2⟩:=List.pairwise_cons.mp hl;rw[List.filterMap_cons];split
  . exact pw_filterMap h h2
  . rename_i a e;refine List.pairwise_cons.mpr ⟨fun b hb=>?_,pw_filterMap h h2⟩;obtain⟨j,hj,ej⟩:=List.mem_filterMap.mp hb;exact h x j a b (h1 j hj) e ej
theorem pw_liveR{A:List (List Int)}{N top p:Nat}:(dY A N top p).Pairwise (· < ·):=by
 unfold dY;refine pw_filterMap (fun i j a b hij ha hb=>?_) List.pairwise_lt_range;split at ha
 . split at hb
   . cases ha;cases hb;omega
   . cases hb
 . cases ha
theorem uf{f:Nat->Option Nat}(l:List Nat):(l.filterMap f).length<=l.length:=List.length_filterMap_le ..
theorem Fj{A:List (List Int)}{N top p:Nat}{os:List (Int×Int)}(hp:os.Perm (((dY A N top p).map fun(k:Nat)=>(((Mx.g A k p).natAbs:Nat):Int)).zip ((dY A N top p).map fun(k:Nat)=>(k:Int))))(hs:os.Pairwise slt):
 Mx.ij A N top p (os.map fun q=>q.2.toNat)/\os.map (fun q=>D.int q.2)=(os.map fun q=>q.2.toNat).map fun(k:Nat)=>D.int (k:Int):=by
 have hz:((dY A N top p).map fun(k:Nat)=>(((Mx.g A k p).natAbs:Nat):Int)).zip ((dY A N top p).map fun(k:Nat)=>(k:Int))=(dY A N top p).map fun k=>((((Mx.g A k p).natAbs:Nat):Int),(k:Int)):=by
  exact List.zip_map' ..
 rw[hz]at hp
 have hm:∀q∈os,∃k,k∈dY A N top p/\q=((((Mx.g A k p).natAbs:Nat):Int),(k:Int)):=fun q hq=>by
  obtain⟨k,h1,h2⟩:=List.mem_map.mp (hp.mem_iff.mp hq);exact⟨k,h1,h2.symm⟩
 refine⟨⟨fun k=>?_,?_,?_⟩,?_⟩
 . rw[<-tY];constructor
   . intro h;obtain⟨q,hq,e⟩:=List.mem_map.mp h;obtain⟨j,h1,rfl⟩:=hm q hq;simp only[Int.toNat_natCast]at e;rw[<-e];exact h1
   . intro h;exact List.mem_map.mpr ⟨((((Mx.g A k p).natAbs:Nat):Int),(k:Int)),hp.mem_iff.mpr (List.mem_map.mpr ⟨k,h,rfl⟩),by simp⟩
 . rw[List.pairwise_map];refine hs.imp_of_mem fun{x y} hx hy h=>?_;obtain⟨j,_,rfl⟩:=hm x hx;obtain⟨k,_,rfl⟩:=hm y hy;unfold slt at h;simp only[Int.toNat_natCast];omega
 . have e:((dY A N top p).map fun k=>((((Mx.g A k p).natAbs:Nat):Int),(k:Int))).map (fun q=>q.2.toNat)=dY A N top p:=by
    rw[List.map_map];exact(List.map_congr_left fun k _=>Int.toNat_natCast k).trans (List.map_id _)
   have hq:=hp.map fun q=>q.2.toNat;rw[e]at hq;exact hq.nodup_iff.mpr (pw_liveR.imp fun h=>Nat.ne_of_lt h)
 . rw[List.map_map];refine List.map_congr_left fun q hq=>?_;obtain⟨j,_,rfl⟩:=hm q hq;simp
theorem nM:∀ds st K,fm ds st K->ds.length=3/\pC {nx:=fun _ st'=>K .aC st',rt:=K} (a7 fk ds) st:=by
 rintro ds st K ⟨b,xb,xu,xc,N,w,top,p,A,U,C,f,rfl,B,hA,ht,hN,hp,hw,h0,k⟩;refine⟨rfl,?_⟩;have lA:=hA.len;have rowA:∀i,i<N->(A.getD i []).length=w:=fun i hi=>Mx.bR hA hi;refine bN B.eb rfl (cP (aH B.e1) ?_);rw[List.length_map,lA];refine xN ⟨by omega,by omega,by omega,by omega⟩ ⟨bP (by unfold cA;simp;omega),?_⟩;have er:((N:Int)-(top:Int)).toNat=N-top:=by omega
 rw[er];refine i5 (fun rest acc st'=>∃i:Nat,i<=N-top/\st'=st/\rest=(List.range (N-top-i)).map (fun j=>D.int ((top+i+j:Nat):Int))/\acc=((List.range i).filterMap fun i=>if Mx.g A (top+i) p≠0 then some (top+i)else none).map fun(k:Nat)=>D.int (k:Int)) ?_ ?_ _ _ _ ⟨0,Nat.zero_le _,rfl,by unfold cA;simp,by simp⟩
 . rintro acc st' ⟨i,hi,rfl,hr,rfl⟩
   have hi':i=N-top:=by
    rcases Nat.lt_or_ge i (N-top)with z|z
    . rw[show N-top-i=(N-top-i-1)+1 by omega,List.range_succ_eq_map]at hr;cases hr
    . omega
   subst hi';refine⟨trivial,?_⟩;have e1:((dY A N top p).map fun(k:Nat)=>D.int (k:Int))=((dY A N top p).map fun(k:Nat)=>(k:Int)).map D.int:=by rw[List.map_map];rfl
   refine⟨(dY A N top p).map fun(k:Nat)=>(k:Int),(dY A N top p).map fun(k:Nat)=>(((Mx.g A k p).natAbs:Nat):Int),f,congrArg D.lst e1,?_,?_,by rw[List.length_map,List.length_map],h0,fun i n q hn hq=>?_,fun os hp' hs=>?_⟩
   . rw[List.length_map];have:=uf (f:=fun i=>if Mx.g A (top+i) p≠0 then some (top+i)else none) (List.range (N-top));rw[List.length_range]at this;show(dY A N top p).length<64;unfold dY;omega
   . rw[List.pairwise_map];exact pw_liveR.imp fun h=>by omega
   . rw[List.getElem?_map]at hn hq;cases z:(dY A N top p)[i]? with
     |none=>rw[z]at hn;cases hn
     |some j=>
      rw[z]at hn hq;cases hn;cases hq;obtain⟨j1,j2,j3⟩:=tY.mp (List.mem_of_getElem? z);have B1:=B.tab h0 (eN true);refine bN B1.eb rfl (aX (aH B1.e1) (cG (by omega)) (aX rfl (kv (by rw[rowA j j2];exact hp)) (Hz ⟨rfl,rfl⟩)))
   . obtain⟨h1,h2⟩:=Fj hp' hs;rw[h2];exact k _ h1
 . rintro d rest acc st' ⟨i,hi,rfl,hr,rfl⟩ next
   have hlt:i<N-top:=by
    rcases Nat.lt_or_ge i (N-top)with z|z
    . exact z
    . rw[show N-top-i=0 by omega]at hr;cases hr
   rw[show N-top-i=(N-top-i-1)+1 by omega,List.range_succ_eq_map,List.map_cons,List.map_map]at hr;obtain⟨rfl,rfl⟩:=List.cons.inj hr;refine⟨trivial,_,rfl,?_⟩;refine bN B.eb rfl (aX (aH B.e1) (cG (j:=top+i+0) (by omega)) (aX rfl (kv (by rw[rowA _ (by omega)];exact hp)) ?_));have e2:List.range (i+1)=List.range i++[i]:=List.range_succ
   have e3:((List.range (N-top-i-1)).map ((fun j=>D.int ((top+i+j:Nat):Int))∘Nat.succ))=(List.range (N-top-(i+1))).map fun j=>D.int ((top+(i+1)+j:Nat):Int):=by
    rw[show N-top-i-1=N-top-(i+1) by omega];refine List.map_congr_left fun j _=>?_;show D.int ((top+i+(j+1):Nat):Int)=_;rw[show top+i+(j+1)=top+(i+1)+j by omega]
   refine ne2 (fun h=>?_) fun h=>?_
   . refine(next _ _ ⟨i+1,by omega,rfl,e3,?_⟩);rw[e2,List.filterMap_append,List.map_append];have:Mx.g A (top+i) p≠0:=h;simp[this]
   . refine(next _ _ ⟨i+1,by omega,rfl,e3,?_⟩);rw[e2,List.filterMap_append,List.map_append];have:Mx.g A (top+i) p=0:=h;simp[this]
structure Bo(n0:Nat)(st st':ag)(b xb xu xc:Nat):Prop where
 lo:1<=n0/\n0<=b/\n0<=xb/\n0<=xu/\n0<=xc
 fr:∀m,m<n0->m≠0->st'[m]?=st[m]?
 tb:∃f,st'[0]?=some (eN f)
def iY:cq:=fun ds st K=>∃(n0 b xb xu xc N w top p e u z:Nat) (A0 A U C:List (List Int)) (ld:Nat->Nat),ds=[.ref b,.int top,.int p]/\Bn st b xb xu xc A U C/\Bo n0 st st b xb xu xc/\Mx.f_ A0 N w ⟨A,U,C⟩ top p ld e u/\N<=8/\w<=9/\p<w/\z<=60000000/\(∀c,Mx.dN N top p ⟨A,U,C⟩ c->Mx.Sm c N (2^z))/\
 (∀st',Bn st' b xb xu xc A U C->Bo n0 st st' b xb xu xc->Mx.ij A N top p []->K (.bl false) st')/\
 ∀st' xb' xu' xc' (c:Mx.B3) (r:Nat),Bn st' b xb' xu' xc' (Mx.setB c p top r).A (Mx.setB c p top r).U (Mx.setB c p top r).C->Bo n0 st st' b xb' xu' xc'->Mx.dN N top p ⟨A,U,C⟩ c->Mx.ij c.A N top p [r]->K (.bl true) st'
def gE:List Str:=["self","top","place","live","great","small"]
def sD:DS:=(aO (a9 3 (gZ ay "live_rows" fm (ae 0) (af (ae 1) (af (ae 2) ak))))
 (aO (vX (bL (aE k_ (bQ dZ (af (ae 3) ak)) (dC (.int 1)))) (aO (a9 4 (aE bM (ae 3) (nS i6 (dC (.int 1)))))
 (aO (a9 5 (aE bM (ae 3) (nS i6 (dC (.int 2)))))
 (aO (fu (gZ ay "take" iK (ae 0) (af (ae 4) (af (aV gf (af (aE bM (aE bM (cM ay "body" (ae 0)) (ae 4)) (ae 2)) (af (aE bM (aE bM (cM ay "body" (ae 0)) (ae 5)) (ae 2)) ak))) (af (ae 5) ak)))))
 (a9 3 (gZ ay "live_rows" fm (ae 0) (af (ae 1) (af (ae 2) ak))))))))
 (aO (dG (bL (aE kD (bQ dZ (af (ae 3) ak)) (dC (.int 0)))) (cj (dC (.bl false))) dw)
 (aO (fu (gZ ay "exchange" ip (ae 0) (af (ae 1) (af (aE bM (ae 3) (dC (.int 0))) ak))))
 (aO (dG (bL (aE oz (aE bM (aE bM (cM ay "body" (ae 0)) (ae 1)) (ae 2)) (dC (.int 0)))) (fu (gZ ay "change_sign" fX (ae 0) (af (ae 1) ak))) dw)
 (cj (dC (.bl true))))))))
theorem Bo.HH{n0:Nat}{st st':ag}{b xb xu xc:Nat}(h:Bo n0 st st' b xb xu xc):Bo n0 st (st'.set 0 (eN true)) b xb xu xc:=
 ⟨h.lo,fun m hm h0=>by rw[List.getElem?_set_ne (Ne.symm h0)];exact h.fr m hm h0,true,by
  obtain⟨f,e⟩:=h.tb;exact List.getElem?_set_self (List.getElem?_eq_some_iff.mp e).1⟩
theorem Bo.low{n0:Nat}{st st1 st2:ag}{b xb xu xc:Nat}(h:Bo n0 st st1 b xb xu xc)(f:∀m,m≠xb->m≠xu->m≠xc->st2[m]?=st1[m]?):Bo n0 st st2 b xb xu xc:=by
 obtain⟨l1,l2,l3,l4,l5⟩:=h.lo;refine⟨h.lo,fun m hm h0=>?_,?_⟩
 . rw[f m (by omega) (by omega) (by omega)];exact h.fr m hm h0
 . obtain⟨z,e⟩:=h.tb;exact⟨z,by rw[f 0 (by omega) (by omega) (by omega)];exact e⟩
theorem vx{n j:Nat}(h:1<=j)(h2:j<=n):jG n (-(j:Int))=some (n-j):=by
 unfold jG;rw[if_neg (by omega),if_pos (by omega)];congr 1;omega
theorem JD{L:List Nat}{j k:Nat}:c_ ((L++[j,k]).map fun(k:Nat)=>D.int (k:Int)) (-1)=some (.int (k:Int)):=by
 unfold c_;have:=vx (n:=((L++[j,k]).map fun(k:Nat)=>D.int (k:Int)).length) (j:=1) (by decide) (by simp);rw[show(-((1:Nat):Int))= -1 from rfl]at this;rw[this];simp
theorem IT{L:List Nat}{j k:Nat}:c_ ((L++[j,k]).map fun(k:Nat)=>D.int (k:Int)) (-2)=some (.int (j:Int)):=by
 unfold c_;have:=vx (n:=((L++[j,k]).map fun(k:Nat)=>D.int (k:Int)).length) (j:=2) (by decide) (by simp);rw[show(-((2:Nat):Int))= -2 from rfl]at this;rw[this];simp
theorem Cf:∀ {L:List Nat},1<L.length->∃M j k,L=M++[j,k]:=fun{L} h=>by
 refine⟨L.take (L.length-2),L[L.length-2]'(by omega),L[L.length-1]'(by omega),?_⟩;have e1:L=L.take (L.length-2)++L.drop (L.length-2):=(List.take_append_drop _ _).symm
 have e2:L.drop (L.length-2)=[L[L.length-2]'(by omega),L[L.length-1]'(by omega)]:=by
  rw[List.drop_eq_getElem_cons (by omega),List.drop_eq_getElem_cons (by omega),List.drop_eq_nil_of_le (by omega)];congr 2;congr 1;omega
 rw[<-e2];exact e1
theorem qS:∀ds st K,iY ds st K->ds.length=3/\sD {nx:=fun _ st'=>K .aC st',rt:=K} (a7 gE ds) st:=by
 rintro ds st K ⟨n0,b,xb,xu,xc,N,w,top,p,e,u,z,A0,A,U,C,ld,rfl,B,O,S,hN,hw,hp,hzz,hz,kf,kt⟩;refine⟨rfl,?_⟩;have hle:=S.le;obtain⟨f,h0⟩:=O.tb;refine iG B.eb rfl ?_;refine⟨b,xb,xu,xc,N,w,top,p,A,U,C,f,rfl,B,S.tn.isA,hle,hN,hp,hw,h0,fun L hL=>?_⟩;have B1:=B.tab h0 (eN true);have O1:=O.HH;try dsimp only[ak]
 refine eO (fun σ st'=>∃(L:List Nat) (v4 v5:Option D) (c:Mx.B3) (gr:Nat),σ=[some (.ref b),some (.int top),some (.int p),some (.lst (L.map fun(k:Nat)=> .int (k:Int))),v4,v5]/\L.length<=1/\Bn st' b xb xu xc c.A c.U c.C/\Bo n0 st st' b xb xu xc/\Mx.dN N top p ⟨A,U,C⟩ c/\Mx.nh A0 N w top p (2^e) ⟨A,U,C⟩ c gr/\Mx.ij c.A N top p L) (fun nx hnx=>?_) ?_
 . refine⟨fun m σ st'=>∃(L:List Nat) (v4 v5:Option D) (c:Mx.B3) (gr:Nat),σ=[some (.ref b),some (.int top),some (.int p),some (.lst (L.map fun(k:Nat)=> .int (k:Int))),v4,v5]/\Bn st' b xb xu xc c.A c.U c.C/\Bo n0 st st' b xb xu xc/\Mx.dN N top p ⟨A,U,C⟩ c/\Mx.nh A0 N w top p (2^e) ⟨A,U,C⟩ c gr/\Mx.ij c.A N top p L/\m=Mx.mu c.A N p,⟨_,L,none,none,⟨A,U,C⟩,1,rfl,B1,O1,.refl _,S.xQ,hL,rfl⟩,?_⟩;rintro m σ st1 ⟨L,v4,v5,c,gr,rfl,B,O,hR,hG,hL,rfl⟩;refine cP rfl ?_;rw[List.length_map];refine DH (fun h=>ib ?_) fun h=>rJ (hnx _ _ ⟨L,v4,v5,c,gr,rfl,by omega,B,O,hR,hG,hL⟩);obtain⟨M,j,k,rfl⟩:=Cf (L:=L) (by omega);refine jJ (aX rfl JD (jJ (aX rfl IT ?_)));obtain⟨G2,hlt,hoth,k1,k2,j1,j2,hjk,hj0⟩:=hG.step hp hL;have T:=hG.tn;have lA:=T.isA.len;have hsm:=hz c hR;refine iG B.eb rfl (bN B.eb rfl (aX (aH B.e1) (cG (by omega)) (aX rfl (kv (by rw[Mx.bR T.isA k2];exact hp)) (bN B.eb rfl (aX (aH B.e1) (cG (by omega)) (aX rfl (kv (by rw[Mx.bR T.isA j2];exact hp)) ?_))))));refine⟨_,_,rfl,hj0,?_⟩;have hq:(Mx.qn (Mx.g c.A k p) (Mx.g c.A j p)).natAbs<=2^(z+1):=Nat.le_trans (Mx.JN hj0) (Mx.wG (hsm k p k2).1 (hsm j p j2).1)
   have hm:∀ {x:Int},x.natAbs<=2^z->IntMulOk (Mx.qn (Mx.g c.A k p) (Mx.g c.A j p)) x/\IntMulOk (-(Mx.qn (Mx.g c.A k p) (Mx.g c.A j p))) x:=fun{x} h=>
    ⟨mn hq h (by omega),mn (by rw[Int.natAbs_neg];exact hq) h (by omega)⟩
   have mg:∀ {X:List (List Int)} {i:Nat} {x:Int},x∈X.getD i []->∃q,x=Mx.g X i q:=fun{X i x} hx=>by
    obtain⟨c,hc,rfl⟩:=List.mem_iff_getElem.mp hx;exact⟨c,by unfold Mx.g;rw[Mx.aU hc]⟩
   refine⟨b,xb,xu,xc,N,w,k,j,c.A,c.U,c.C,_,rfl,B,T.isA,T.eM,T.fC,k2,j2,hN,hw,fun x hx=>(by obtain⟨q,rfl⟩:=mg hx;exact(hm (hsm j q j2).1).2),fun x hx=>(by obtain⟨q,rfl⟩:=mg hx;exact(hm (hsm j q j2).2.1).2),fun x hx=>(by obtain⟨q,rfl⟩:=mg hx;exact(hm (hsm k q k2).2.2).1),fun st2 B2 l2 f2=>?_⟩;have O2:=O.low f2;obtain⟨f',h0'⟩:=O2.tb;refine iG B2.eb rfl ?_;refine⟨b,xb,xu,xc,N,w,top,p,_,_,_,f',rfl,B2,G2.tn.isA,hle,hN,hp,hw,h0',fun L2 hL2=>?_⟩;refine⟨_,?_,L2,_,_,Mx.iM c p k j,_,rfl,B2.tab h0' (eN true),O2.HH,hR.tail ⟨M,k,j,hL,rfl⟩,G2,hL2,rfl⟩;unfold Mx.mu;refine Mx.CN (k:=k) hlt k2 fun i hi=>?_;by_cases h:i=k
   . rw[h];exact Nat.le_of_lt hlt
   . rw[hoth i h];exact Nat.le_refl _
 . rintro σ st1 ⟨L,v4,v5,c,gr,rfl,hl,B,O,hR,hG,hL⟩;refine cP rfl ?_;rw[List.length_map];match L,hl,hL with
   | [],_,hL=>
     refine eq2 (fun h=>ib ?_) fun h=>absurd rfl h
     have e0:c=⟨A,U,C⟩:=by
      rcases hG.IG with z|⟨j,h1,h2,h3⟩
      . exact z
      . exact absurd ((hL.mem j).mpr ⟨h1,h2,h3⟩) (by simp)
     subst e0;exact kf st1 B O hL
   | [r],_,hL=>
     refine eq2 (fun h=>absurd h (by simp)) fun h=>rJ ?_;obtain⟨s1,hr1,hr2⟩:=hG.set hL;have ht:top<N:=by omega
     have T:=hG.tn;refine iG B.eb rfl (aX rfl (show c_ ([r].map fun(k:Nat)=>D.int (k:Int)) 0=some (.int (r:Int))from rfl) ?_);refine⟨b,xb,xu,xc,N,w,top,r,c.A,c.U,c.C,rfl,B,T.isA,T.eM,T.fC,ht,hr2,fun st2 B2 l2 f2=>?_⟩;obtain⟨l1,l2',l3,l4,l5⟩:=O.lo
     have hst:n0<=st1.length:=by
      have:=(List.getElem?_eq_some_iff.mp B.eb).1;omega
     have O2:Bo n0 st st2 b st1.length (st1.length+1) (st1.length+2):=by
      refine⟨⟨l1,l2',by omega,by omega,by omega⟩,fun m hm h0=>?_,?_⟩
      . rw[f2 m (by omega) (by omega)];exact O.fr m hm h0
      . obtain⟨z,e⟩:=O.tb;exact⟨z,by rw[f2 0 (by omega) (by omega)];exact e⟩
     have T1:=T.C7 ht hr2;refine bN B2.eb rfl (aX (aH B2.e1) (cG (by have:=T1.isA.len;omega)) (aX rfl (kv (by rw[Mx.bR T1.isA ht];exact hp)) ?_));refine FE (fun h=>ib ?_) fun h=>rJ ?_
     . have es:Mx.setB c p top r=⟨Mx.fx (Mx.a8 c.A top r) top,Mx.fx (Mx.a8 c.U top r) top,Mx.fx (Mx.a8 c.C top r) top⟩:=if_pos h;refine iG B2.eb rfl ?_;refine⟨b,_,_,_,N,w,top,_,_,_,rfl,B2,T1.isA,T1.eM,T1.fC,ht,hN,hw,fun st3 B3 l3 f3=>?_⟩;exact kt st3 _ _ _ c r (by rw[es];exact B3) (O2.low f3) hR hL
     . have es:Mx.setB c p top r=⟨Mx.a8 c.A top r,Mx.a8 c.U top r,Mx.a8 c.C top r⟩:=if_neg (fun z=>by unfold Mx.g at z;omega);exact kt st2 _ _ _ c r (by rw[es];exact B2) O2 hR hL
def fY:cq:=fun ds st K=>∃(b xb xu xc N w top p e u z:Nat) (A0 A U C:List (List Int)),ds=[.ref b,.int top,.int p]/\Bn st b xb xu xc A U C/\Mx.Tn A0 A U C N w/\N<=8/\w<=9/\p<w/\top<N/\0<Mx.g A top p/\(∀q,q<p->Mx.g A top q=0)/\
 (∀q,(Mx.g A top q).natAbs<=2^e/\(Mx.g U top q).natAbs<=2^e/\(Mx.g C top q).natAbs<=2^e)/\(∀i q,i<top->(Mx.g A i q).natAbs<=2^u/\(Mx.g U i q).natAbs<=2^u/\(Mx.g C i q).natAbs<=2^u)/\z<=60000000/\(∀k,k<=top->Mx.Sm (Mx.gT p top k ⟨A,U,C⟩) N (2^z))/\
 ∀st',Bn st' b xb xu xc (Mx.gT p top top ⟨A,U,C⟩).A (Mx.gT p top top ⟨A,U,C⟩).U (Mx.gT p top top ⟨A,U,C⟩).C->(∀m,m≠xb->m≠xu->m≠xc->st'[m]?=st[m]?)->K .aC st'
def eF:List Str:=["self","top","place","k"]
def nA:DS:=(gq (dA (af (ae 1) ak)) (bo 3) (fu (gZ ay "take" iK (ae 0) (af (ae 3) (af (aE mB (aE bM (aE bM (cM ay "body" (ae 0)) (ae 3)) (ae 2)) (aE bM (aE bM (cM ay "body" (ae 0)) (ae 1)) (ae 2))) (af (ae 1) ak))))))
theorem yP{X:List (List Int)}{i:Nat}{x:Int}(hx:x∈X.getD i []):∃q,x=Mx.g X i q:=by
 obtain⟨c,hc,rfl⟩:=List.mem_iff_getElem.mp hx;exact⟨c,by unfold Mx.g;rw[Mx.aU hc]⟩
theorem mI:∀ds st K,fY ds st K->ds.length=3/\nA {nx:=fun _ st'=>K .aC st',rt:=K} (a7 eF ds) st:=by
 rintro ds st K ⟨b,xb,xu,xc,N,w,top,p,e,u,z,A0,A,U,C,rfl,B,T,hN,hw,hp,ht,htp,hz,hlo,hhi,hzz,hsm,kk⟩;refine⟨rfl,?_⟩;refine fD ⟨by omega,by omega⟩ ?_;rw[Int.toNat_natCast];refine gj top (fun k σ st'=>∃v3:Option D,σ=[some (.ref b),some (.int top),some (.int p),v3]/\Bn st' b xb xu xc (Mx.gT p top k ⟨A,U,C⟩).A (Mx.gT p top k ⟨A,U,C⟩).U (Mx.gT p top k ⟨A,U,C⟩).C/\(∀m,m≠xb->m≠xu->m≠xc->st'[m]?=st[m]?)/\Mx.lQ A0 N w top p e u ⟨A,U,C⟩ k (Mx.gT p top k ⟨A,U,C⟩)) ?_ ?_ ⟨none,rfl,B,fun _ _ _ _=>rfl,Mx.lQ.start T fun q=>(hlo q).2.2⟩
 . rintro σ st' ⟨v3,rfl,B',f,I⟩;exact kk st' B' f
 . rintro k σ st' rest hk ⟨v3,rfl,B',f,I⟩ next
   refine⟨_,rfl,?_⟩;have hs:=I.step hk ht hp htp hz (fun q=>⟨(hlo q).1,(hlo q).2.1⟩) hhi;have hs2:=hsm k (Nat.le_of_lt hk);generalize hc:Mx.gT p top k ⟨A,U,C⟩=c at*;have lA:=I.tn.isA.len;have kN:k<N:=by omega
   have gA:∀i q,k<=i->Mx.g c.A i q=Mx.g A i q:=fun i q hi=>by unfold Mx.g;rw[(I.rA i hi).1]
   have hq:((Mx.g c.A k p).fdiv (Mx.g c.A top p)).natAbs<=2^z:=Nat.le_trans (Mx.vE _ (by rw[gA top p (by omega)];exact htp)) (hs2 k p kN).1;have htp':Mx.g c.A top p≠0:=by rw[gA top p (by omega)];omega
   refine iG B'.eb rfl (bN B'.eb rfl (aX (aH B'.e1) (cG (by omega)) (aX rfl (kv (by rw[Mx.bR I.tn.isA kN];exact hp)) (bN B'.eb rfl (aX (aH B'.e1) (cG (by omega)) (aX rfl (kv (by rw[Mx.bR I.tn.isA ht];exact hp)) (wu htp' ?_)))))));refine⟨b,xb,xu,xc,N,w,k,top,c.A,c.U,c.C,_,rfl,B',I.tn.isA,I.tn.eM,I.tn.fC,kN,ht,hN,hw,fun x hx=>?_,fun x hx=>?_,fun x hx=>?_,fun st2 B2 l2 f2=>?_⟩
   . obtain⟨q,rfl⟩:=yP hx;exact mn (by rw[Int.natAbs_neg];exact hq) (hs2 top q ht).1 (by omega)
   . obtain⟨q,rfl⟩:=yP hx;exact mn (by rw[Int.natAbs_neg];exact hq) (hs2 top q ht).2.1 (by omega)
   . obtain⟨q,rfl⟩:=yP hx;exact mn hq (hs2 k q kN).2.2 (by omega)
   . have el:Mx.gT p top (k+1) ⟨A,U,C⟩=⟨Mx.bh c.A k ((Mx.g c.A k p).fdiv (Mx.g c.A top p)) top,Mx.bh c.U k ((Mx.g c.A k p).fdiv (Mx.g c.A top p)) top,Mx.bh c.C top (-((Mx.g c.A k p).fdiv (Mx.g c.A top p))) k⟩:=by rw[<-hc];rfl
     refine next _ _ ⟨_,rfl,?_,fun m h1 h2 h3=>(f2 m h1 h2 h3).trans (f m h1 h2 h3),?_⟩
     . rw[el];exact B2
     . rw[el];exact hs
structure Bk(st st':ag):Prop where
 le:st.length<=st'.length
 fr:∀m,m<st.length->m≠0->st'[m]?=st[m]?
 tb:∃f,st'[0]?=some (eN f)
def mM:cq:=fun ds st K=>∃(d:D) (N w e0 z:Nat) (A:List (List Int)) (f:Bool),ds=[d]/\gI st d A/\Mx.bZ N w A/\1<=N/\N<=8/\w<=9/\Mx.gw A N 0 (2^e0)/\z<=60000000/\(∀p t c,p<w->Mx.jR A N p t c->Mx.ze N p t z c)/\st[0]?=some (eN f)/\
 ∀st' (top:Nat) (c:Mx.B3),Mx.jR A N w top c->Bk st st'->K (.tup [d3 (c.A.take top),d3 c.U,d3 (Mx.Dn c.C N)]) st'
def j5:List Str:=["rows","bench","top","place","back"]
def yv:DS:=(aO (a9 1 (zt ay hW (af (ae 0) ak)))
 (aO (a9 2 (dC (.int 0)))
 (aO (gq (dA (af (bQ dZ (af (aE bM (ae 0) (dC (.int 0))) ak)) ak)) (bo 3) (dG (bL (gZ ay "gather" iY (ae 1) (af (ae 2) (af (ae 3) ak)))) (aO (fu (gZ ay "lower_above" fY (ae 1) (af (ae 2) (af (ae 3) ak))))
 (yr 2 (vG (fun i j=>i+j)) (dC (.int 1)))) dw))
 (aO (a9 4 (aV jQ (af (cM ay "back_columns" (ae 1)) (af (bQ dZ (af (ae 0) ak)) ak))))
 (cj (kU (af (aV ll (af (uJ (cM ay "body" (ae 1)) sI (yB (ae 2))) ak)) (af (aV ll (af (cM ay "turn" (ae 1)) ak)) (af (ae 4) ak)))))))))
theorem tZ{st st':ag}{f:Bool}(h0:st[0]?=some (eN f))(fr:∀m,m<st.length->m≠0->st'[m]?=st[m]?){d:D}{xs:List D}(h:items? st d=some xs):items? st' d=some xs:=by
 cases d with
 |ref n=>
  have e:=nD h;have n0:n≠0:=oK e h0;rw[aH ((fr n (List.getElem?_eq_some_iff.mp e).1 n0).trans e)]
 |_=>exact h
theorem sW{st st':ag}{f:Bool}(h0:st[0]?=some (eN f))(fr:∀m,m<st.length->m≠0->st'[m]?=st[m]?):∀ {ds:List D} {A:List (List Int)},bC st ds A->bC st' ds A
 | [],[],_=>trivial
 |_::_,_::_,h=>⟨tZ h0 fr h.1,sW h0 fr h.2⟩
theorem rh{st st':ag}{f:Bool}(h0:st[0]?=some (eN f))(fr:∀m,m<st.length->m≠0->st'[m]?=st[m]?){d:D}{A:List (List Int)}(h:gI st d A):gI st' d A:=by
 obtain⟨ds,h1,h2⟩:=h.ex;exact⟨ds,tZ h0 fr h1,sW h0 fr h2⟩
theorem Hg{xs:List D}{j:Nat}:L3.cutD xs none (some (j:Int))=xs.take j:=by
 unfold L3.cutD;rw[HT.Fc,HT.BW,List.drop_zero,Nat.sub_zero];by_cases h:j<=xs.length
 . rw[Nat.min_eq_left h]
 . rw[Nat.min_eq_right (by omega),List.take_length,List.take_of_length_le (by omega)]
theorem wX:∀ds st K,mM ds st K->ds.length=1/\yv {nx:=fun _ st'=>K .aC st',rt:=K} (a7 j5 ds) st:=by
 rintro ds st K ⟨d,N,w,e0,z,A,f,rfl,hd,hA,hN1,hN,hw,hlo,hzz,hsz,h0,kk⟩;refine⟨rfl,?_⟩;have lA:=hA.len;have h0l:0<st.length:=(List.getElem?_eq_some_iff.mp h0).1;have hd1:gI (st++[Cell.ins ay []]) d A:=rh h0 (fun m hm _=>List.getElem?_append_left hm) hd;refine⟨st.length,N,d,A,rfl,by simp,hd1,lA,hN,fun st1 B1 l1 f1=>⟨rfl,?_⟩⟩;have hl1:(st++[Cell.ins ay []]).length=st.length+1:=by simp
 have fr1:∀m,m<st.length->st1[m]?=st[m]?:=fun m hm=>by rw[f1 m (by omega) (by omega),List.getElem?_append_left hm]
 have O1:Bo st.length st st1 st.length (st.length+1) (st.length+1+1) (st.length+1+2):=⟨⟨h0l,by omega,by omega,by omega,by omega⟩,fun m hm _=>fr1 m hm,f,(fr1 0 h0l).trans h0⟩
 rw[hl1]at B1;have hdk:∀ {st':ag},(∀m,m<st.length->m≠0->st'[m]?=st[m]?)->gI st' d A:=fun h=>rh h0 h hd;obtain⟨da,hda,hra⟩:=(hdk O1.fr).ex;have hdl:=hra.len
 have hrow0:∃d0,da[0]?=some d0/\items? st1 d0=some (aq (A.getD 0 [])):=by
  have hi:0<da.length:=by omega
  obtain⟨r,e1,e2⟩:=bC.get hra (List.getElem?_eq_getElem hi);refine⟨da[0],List.getElem?_eq_getElem hi,?_⟩;have:A.getD 0 []=r:=by rw[List.getD_eq_getElem?_getD,e1];rfl
  rw[this];exact e2
 obtain⟨d0,hd0,hi0⟩:=hrow0;have er:(aq (A.getD 0 [])).length=w:=by unfold aq;rw[List.length_map];exact Mx.bR hA (by omega)
 try dsimp only[ak]
 refine eO (A:=a9 2 _) (fun σ st'=>σ=[some d,some (.ref st.length),some (.int 0),none,none]/\st'=st1) (fun nx h=>h _ _ ⟨rfl,rfl⟩) ?_;rintro _ _ ⟨rfl,rfl⟩;refine eO (A:=gq _ _ _) (fun σ st'=>∃(top xb xu xc:Nat) (v3:Option D) (c:Mx.B3),σ=[some d,some (.ref st.length),some (.int top),v3,none]/\Bn st' st.length xb xu xc c.A c.U c.C/\Bo st.length st st' st.length xb xu xc/\Mx.jR A N w top c) (fun nx hnx=>?_) ?_
 . refine aX hda (show c_ da 0=some d0 from fS (j:=0) hd0) (cP hi0 ?_);rw[er];refine fD ⟨by omega,by omega⟩ ?_;rw[Int.toNat_natCast];refine gj w (fun p σ st'=>∃(top xb xu xc:Nat) (v3:Option D) (c:Mx.B3),σ=[some d,some (.ref st.length),some (.int top),v3,none]/\Bn st' st.length xb xu xc c.A c.U c.C/\Bo st.length st st' st.length xb xu xc/\Mx.jR A N p top c) ?_ ?_ ⟨0,_,_,_,none,⟨A,Mx.units N,Mx.units N⟩,rfl,B1,O1,.start⟩
   . rintro σ st' ⟨top,xb,xu,xc,v3,c,rfl,B,O,hC⟩;exact hnx _ _ ⟨top,xb,xu,xc,v3,c,rfl,B,O,hC⟩
   . rintro p σ st' rest hp ⟨top,xb,xu,xc,v3,c,rfl,B,O,hC⟩ next
     refine⟨_,rfl,?_⟩;obtain⟨ld,S⟩:=hC.Dv hA hlo hN (Nat.le_of_lt hp);have hle:=S.le;have hroom:=hsz p top c hp hC;refine iG B.eb rfl ?_;refine⟨st.length,st.length,xb,xu,xc,N,w,top,p,_,_,z,A,c.A,c.U,c.C,ld,rfl,B,⟨O.lo,fun _ _ _=>rfl,O.tb⟩,S,hN,hw,hp,hzz,hroom.ga,fun st2 B2 O2 hL=>?_,fun st2 xb2 xu2 xc2 c2 r B2 O2 hR hL=>?_⟩
     . exact rJ (next _ _ ⟨top,xb,xu,xc,_,c,rfl,B2,⟨O2.lo,fun m h1 h2=>(O2.fr m h1 h2).trans (O.fr m h1 h2),O2.tb⟩,.next hC (.none hL)⟩)
     . refine ib ?_;obtain⟨s1,ht,_⟩:=S.one hp hR hL;have O2':Bo st.length st st2 st.length xb2 xu2 xc2:=⟨O2.lo,fun m h1 h2=>(O2.fr m h1 h2).trans (O.fr m h1 h2),O2.tb⟩
       refine iG B2.eb rfl ?_;refine⟨st.length,xb2,xu2,xc2,N,w,top,p,(N-top+1)*(Mx.Ez N e0 top+1),Mx.Vz N e0 top,z,A,_,_,_,rfl,B2,s1.tn,hN,hw,hp,ht,s1.tp,fun q hq=>s1.zs top q (Nat.le_refl _) ht hq,fun q=>⟨s1.lo.1 top q (Nat.le_refl _) ht,s1.lo.2.1 top q (Nat.le_refl _) ht,s1.lo.2.2 top q (Nat.le_refl _) ht⟩,fun i q hi=>?_,hzz,fun k hk=>hroom.lo c2 r k hR hL hk,fun st3 B3 f3=>?_⟩
       . obtain⟨a1,a2,a3⟩:=s1.De hi q;rw[a1,a2,a3];exact S.hi i q hi
       . exact next _ _ ⟨top+1,xb2,xu2,xc2,_,_,rfl,B3,O2'.low f3,.next hC (.one hR hL)⟩
 . rintro σ st2 ⟨top,xb,xu,xc,v3,c,rfl,B,O,hC⟩;obtain⟨ld,S⟩:=hC.Dv hA hlo hN (Nat.le_refl _);have hle:=S.le;have T:=S.tn;have lN:=T.isA.len;refine bN B.eb rfl ?_;obtain⟨da2,hda2,hra2⟩:=(hdk O.fr).ex;refine cP hda2 ?_;rw[hra2.len,lA];refine⟨_,c.C,N,rfl,⟨_,aH B.e3,bC.lst⟩,T.fC.nG,by rw[T.fC.len];omega,by omega,?_⟩;refine bN B.eb rfl (Al B.e1 ?_);rw[Hg,<-List.map_take];refine⟨_,c.A.take top,rfl,⟨_,rfl,bC.lst⟩,by rw[List.length_take];omega,?_⟩;refine bN B.eb rfl ?_;refine⟨_,c.U,rfl,⟨_,aH B.e2,bC.lst⟩,by rw[T.eM.len];omega,?_⟩;refine⟨by show 3<=sizeLine;decide,?_⟩;refine kk st2 top c hC ⟨?_,O.fr,O.tb⟩;have:=(List.getElem?_eq_some_iff.mp B.eb).1;omega
structure uV(A:List (List Int))(N w:Nat)(F:List (List Int))(m:Nat)(ld:Nat->Nat):Prop where
 isA:Mx.bZ N w A
 DJ:Mx.bZ m w F
 st:Mx.cQ F m w ld
 rd:Mx.sL F m ld
 sm:Mx.cD A N F m w
 lo:Mx.gw A N 0 (2^48)
 n1:1<=N
 n8:N<=8
 w8:w<=8
def ot:cq:=fun ds st K=>∃(d:D) (A F:List (List Int)) (N w m:Nat) (ld:Nat->Nat) (f:Bool),ds=[d]/\gI st d A/\uV A N w F m ld/\st[0]?=some (eN f)/\∀st',Bk st st'->K (d3 F) st'
def k9:List Str:=["rows"]
def zK:DS:=(cj (aE bM (aV mM (af (ae 0) ak)) (dC (.int 0))))
theorem yQ:∀ds st K,ot ds st K->ds.length=1/\zK {nx:=fun _ st'=>K .aC st',rt:=K} (a7 k9 ds) st:=by
 rintro ds st K ⟨d,A,F,N,w,m,ld,f,rfl,hd,h,h0,k⟩;have h8:=h.n8;refine⟨rfl,d,N,w,48,60000000,A,f,rfl,hd,h.isA,h.n1,h8,Nat.le_succ_of_le h.w8,h.lo,Nat.le_refl _,fun p t c hp H=>Mx.jR.zi h.isA h.lo h8 (fun t ht=>(Mx.La N (Nat.lt_succ_of_le h8) t (Nat.lt_succ_of_le ht)).2) hp H,h0,fun st' top c hC B=>aX rfl Bu ?_⟩;obtain⟨ld',s⟩:=hC.Dv h.isA h.lo h8 (Nat.le_refl _);rw[s.Hk h.DJ h.st h.rd h.sm.to h.sm.of];exact k st' B
theorem t5{m:Int}(h0:0<m)(h:m<2^62):m.natAbs.log2<9000:=by
 have:m.natAbs.log2<62:=(Nat.log2_lt (by omega)).mpr (by omega);omega
def qC(b:Nat)(r:List Int):List (List Int):=(List.range b).map fun(i:Nat)=>r++[(i:Int)]
def gS(R:List (List Int))(b:Nat):List (List Int):=R.flatMap (qC b)
theorem pS(b:Nat):∀R:List (List Int),(gS R b).length=R.length*b
 | []=>by simp[gS]
 |r::R=>by
  have:=pS b R;unfold gS qC at*;rw[List.flatMap_cons,List.length_append,this,List.length_map,List.length_range,List.length_cons,Nat.succ_mul,Nat.add_comm]
theorem B_{R:List (List Int)}{b w:Nat}(h:∀r∈R,r.length=w):∀r∈gS R b,r.length=w+1:=fun r hr=>by
 obtain⟨s,hs,hr⟩:=List.mem_flatMap.mp hr;obtain⟨i,_,rfl⟩:=List.mem_map.mp hr;rw[List.length_append,h s hs];rfl
theorem vi{b:Nat}{r:List Int}{σc:a_}{te:DE}{st:ag}{K:List D->ag->Prop}(hr:r.length<=8)(ht:∀(i:Nat) K',dm (bg r) (.tup [.int (i:Int)]) st K'->∃σ2,bo 0 (.int (i:Int)) σc=some σ2/\te σ2 st K')(k:K ((qC b r).map bg) st):cX (bo 0) bT te (fun _=>True) σc (cA 0 b) [] st K:=by
 refine comp_map (g:=fun d=>match d with| .int i=>bg (r++[((i.toNat:Nat):Int)])|_=> .aC) trivial _ (fun d hd K' q=>?_) ?_
 . obtain⟨i,_,rfl⟩:=tD hd;refine ht i K' (xO (by rw[sizeLine_eq,List.length_map];simp;omega) ?_);have e:(aq r++[D.int (i:Int)])=aq (r++[(i:Int)]):=by simp[aq]
   rw[e];exact q
 . have ea:(cA 0 b).map (fun d=>match d with| .int i=>bg (r++[((i.toNat:Nat):Int)])|_=> .aC)=(List.range b).map (fun(i:Nat)=>bg (r++[(i:Int)])):=tU (f:=fun(i:Nat)=>bg (r++[(i:Int)])) b;rw[ea];unfold qC at k;rw[List.map_map]at k;exact k
def iR:cq:=fun ds st K=>∃(d:D) (R:List (List Int)) (b w:Nat),ds=[d,.int b]/\items? st d=some (R.map bg)/\(∀r∈R,r.length=w)/\w<=8/\b<=1000/\R.length*b<=1000/\∀st',st'[st.length]?=some (.lst ((gS R b).map bg))->Ext st st'->K (.ref st.length) st'
def gc:List Str:=["rows","bound","longer","row"]
def qM:DS:=(aO (a9 2 (nR ak))
 (aO (gq (cW (ae 0)) (bo 3) (fu (g8 jZ (ae 2) (af (cU (dA (af (ae 1) ak)) [none,some 3] (bo 0) bT (aE dm (ae 1) (kU (af (ae 0) ak)))) ak))))
 (cj (ae 2))))
theorem tj{R:List (List Int)}{b i:Nat}(h:i<R.length):gS (R.take (i+1)) b=gS (R.take i) b++qC b (R.getD i []):=by
 unfold gS;rw[List.take_succ_eq_append_getElem h,List.flatMap_append,List.flatMap_singleton,Mx.aU h]
theorem tS{R:List (List Int)}{i:Nat}{d:D}{rest:List D}(h:d::rest=(R.map bg).drop i):i<R.length/\d=bg (R.getD i [])/\rest=(R.map bg).drop (i+1):=by
 have hil:i<R.length:=by
  rcases Nat.lt_or_ge i R.length with h'|h'
  . exact h'
  . rw[List.drop_eq_nil_of_le (by rw[List.length_map];exact h')]at h;cases h
 rw[List.drop_eq_getElem_cons (by rw[List.length_map];exact hil),List.getElem_map]at h;obtain⟨rfl,rfl⟩:=List.cons.inj h;exact⟨hil,by rw[Mx.aU hil],rfl⟩
theorem tG{R:List (List Int)}{i:Nat}(h: []=(R.map bg).drop i):R.length<=i:=by
 have:=congrArg List.length h;rw[List.length_drop,List.length_map,List.length_nil]at this;omega
theorem xH{R:List (List Int)}{b i:Nat}:(gS (R.take i) b).length<=R.length*b:=by
 rw[pS,List.length_take];exact Nat.mul_le_mul_right _ (Nat.min_le_right _ _)
theorem qk:∀ds st K,iR ds st K->ds.length=2/\qM {nx:=fun _ st'=>K .aC st',rt:=K} (a7 gc ds) st:=by
 rintro ds st K ⟨d,R,b,w,rfl,hd,hw,w8,hb,hRb,k⟩;refine⟨rfl,Nat.zero_le _,?_⟩;refine o3 (Ext.push.items hd) fun ok aB=>?_;refine fP (fun rest σ st'=>∃(i:Nat) (v3:Option D),i<=R.length/\rest=(R.map bg).drop i/\σ=[some d,some (.int b),some (.ref st.length),v3]/\st'[st.length]?=some (.lst ((gS (R.take i) b).map bg))/\Ext st st') ?_ ?_ _ _ _ ⟨0,none,Nat.zero_le _,rfl,rfl,List.getElem?_concat_length,Ext.push⟩
 . rintro σ st' ⟨i,v3,hi,hrest,rfl,e,X⟩;rw[List.take_of_length_le (tG hrest)]at e;exact⟨aB _ (X.items hd),k st' e X⟩
 . rintro x rest σ st' ⟨i,v3,hi,hrest,rfl,e,X⟩ next
   obtain⟨hil,rfl,rfl⟩:=tS hrest;have hr:(R.getD i []).length=w:=hw _ (by rw[Mx.aU hil];exact List.getElem_mem _);refine⟨aB _ (X.items hd),_,rfl,A6 (fun K' q=>q) e (fD ⟨by omega,by omega⟩ ⟨bP (by rw[gG];omega),?_⟩)⟩;rw[Int.toNat_natCast];refine vi (by omega) (fun j K' q=>⟨_,rfl,Nat.le_of_ble_eq_true rfl,q⟩) ?_;have l1:=xH (R:=R) (b:=b) (i:=i);have l2:(qC b (R.getD i [])).length=b:=by unfold qC;simp
   refine F4 e (by rw[sizeLine_eq,List.length_map,List.length_map];omega) (next _ _ ⟨i+1,_,hil,rfl,rfl,?_,X.set (Nat.le_refl _)⟩);rw[List.getElem?_set_self (List.getElem?_eq_some_iff.mp e).1,tj hil,List.map_append]
def fO(l:List Nat):Nat:=l.foldl (· * ·) 1
def jN(l:List Nat):List (List Int):=l.foldl gS [[]]
theorem wA:∀(l:List Nat) (R:List (List Int)),(l.foldl gS R).length=l.foldl (· * ·) R.length
 | [],_=>rfl
 |x::l,R=>by rw[List.foldl_cons,List.foldl_cons,wA l,pS]
theorem si(l:List Nat):(jN l).length=fO l:=wA l [[]]
theorem vg:∀(l:List Nat) {R:List (List Int)} {w:Nat},(∀r∈R,r.length=w)->∀r∈l.foldl gS R,r.length=w+l.length
 | [],_,_,h=>h
 |x::l,R,w,h=>fun r hr=>by
  have:=vg l (B_ h) r hr;rw[List.length_cons];omega
theorem rR(l:List Nat):∀r∈jN l,r.length=l.length:=fun r hr=>by
 have:=vg l (R:=[[]]) (w:=0) (fun r hr=>by rw[List.mem_singleton.mp hr];rfl) r hr;omega
theorem oZ:∀(l:List Nat) (a:Nat),(∀x∈l,1<=x)->a<=l.foldl (· * ·) a
 | [],_,_=>Nat.le_refl _
 |x::l,a,h=>Nat.le_trans (Nat.le_mul_of_pos_right a (h x List.mem_cons_self)) (oZ l _ fun y hy=>h y (List.mem_cons_of_mem _ hy))
theorem pX{l:List Nat}(h:∀x∈l,1<=x)(i:Nat):fO (l.take i)<=fO l:=by
 conv=>rhs;rw[<-List.take_append_drop i l]
 unfold fO;rw[List.foldl_append];exact oZ _ _ fun x hx=>h x (List.mem_of_mem_drop hx)
theorem mZ{l:List Nat}{i:Nat}(h:i<l.length):fO (l.take (i+1))=fO (l.take i)*l.getD i 0:=by
 unfold fO;rw[List.take_succ_eq_append_getElem h,List.foldl_append,List.getD_eq_getElem?_getD,List.getElem?_eq_getElem h];rfl
theorem uY{l:List Nat}{i:Nat}(h:i<l.length):jN (l.take (i+1))=gS (jN (l.take i)) (l.getD i 0):=by
 unfold jN;rw[List.take_succ_eq_append_getElem h,List.foldl_append,List.getD_eq_getElem?_getD,List.getElem?_eq_getElem h];rfl
abbrev e8(l:List Nat):List D:=l.map fun(n:Nat)=>D.int (n:Int)
def jq:lI:=fun ds st K ex=>∃(d:D) (A F:List (List Int)) (N w m:Nat) (ld:Nat->Nat) (f:Bool) (bs:List Nat),ds=[d]/\(∀st,gI st d A)/\uV A N w F m ld/\st[0]?=some (eN f)/\m<=w/\
 (m=w->bs.length=w/\(∀x∈bs,1<=x/\x<2^62)/\∀i,i<w->Mx.g F i i=((bs.getD i 0:Nat):Int))/\
 ∀st',Bk st st'->if m<w then K .aC st' else if 300<fO bs then ex iE st' else K (.tup ((jN bs).map bg)) st'
def jj:List Str:=["rows","form","bounds","count","bound","rests"]
def wK:kM:=(lS (mr (a9 1 (aV ot (af (ae 0) ak))))
 (lS (mr (dG (bL (aE oz (bQ dZ (af (ae 1) ak)) (bQ dZ (af (aE bM (ae 0) (dC (.int 0))) ak)))) (cj (dC .aC)) dw))
 (lS (mr (a9 2 (cU (yx (af (ae 1) ak)) [none,none] (kb 0 1) bT (aE bM (ae 1) (ae 0)))))
 (lS (mr (a9 3 (dC (.int 1))))
 (lS (mr (gq (cW (ae 2)) (bo 4) (a9 3 (aE dn (ae 3) (ae 4)))))
 (lS (FT (bL (aE k_ (ae 3) (dC (.int 300)))) (vC iE (af (dC (.str "there are more rests than may be told")) ak)) (mr dw))
 (lS (mr (a9 5 (fj (af (kU ak) ak))))
 (lS (mr (gq (cW (ae 2)) (bo 4) (a9 5 (aV iR (af (ae 5) (af (ae 4) ak))))))
 (mr (cj (bQ dM (af (ae 5) ak))))))))))))
theorem lu{l:List Nat}{i:Nat}{d:D}{rest:List D}(h:d::rest=(e8 l).drop i):i<l.length/\d= .int ((l.getD i 0:Nat):Int)/\rest=(e8 l).drop (i+1):=by
 have hil:i<l.length:=by
  rcases Nat.lt_or_ge i l.length with h'|h'
  . exact h'
  . rw[List.drop_eq_nil_of_le (by rw[List.length_map];exact h')]at h;cases h
 rw[List.drop_eq_getElem_cons (by rw[List.length_map];exact hil),List.getElem_map]at h;obtain⟨rfl,rfl⟩:=List.cons.inj h;exact⟨hil,by rw[List.getD_eq_getElem?_getD,List.getElem?_eq_getElem hil];rfl,rfl⟩
theorem m6{l:List Nat}{i:Nat}(h: []=(e8 l).drop i):l.length<=i:=by
 have:=congrArg List.length h;rw[List.length_drop,List.length_map,List.length_nil]at this;omega
theorem Bk.Lc{st st1 st2:ag}(B:Bk st st1)(X:Ext st1 st2):Bk st st2:=by
 have l1:=B.le;obtain⟨f,e⟩:=B.tb;have l0:=(List.getElem?_eq_some_iff.mp e).1;exact⟨by have:=X.len;omega,fun m hm h0=>by rw[X.same m (by omega),B.fr m hm h0],f,by rw[X.same 0 l0];exact e⟩
theorem AI{l rest:List D}{x:D}{i:Nat}(h:x::rest=l.drop i):l[i]?=some x/\rest=l.drop (i+1):=by
 have hil:i<l.length:=by
  rcases Nat.lt_or_ge i l.length with h'|h'
  . exact h'
  . rw[List.drop_eq_nil_of_le h']at h;cases h
 rw[List.drop_eq_getElem_cons hil]at h;obtain⟨rfl,rfl⟩:=List.cons.inj h;exact⟨List.getElem?_eq_getElem hil,rfl⟩
theorem Ae{l:List Nat}{i:Nat}(h:i<l.length):e8 (l.take (i+1))=e8 (l.take i)++[.int ((l.getD i 0:Nat):Int)]:=by
 unfold e8;rw[List.take_succ_eq_append_getElem h,List.map_append,List.getD_eq_getElem?_getD,List.getElem?_eq_getElem h];rfl
theorem uK:∀ds st K ex,jq ds st K ex->ds.length=1/\wK {nx:=fun _ st'=>K .aC st',rt:=K} ex (a7 jj ds) st:=by
 rintro ds st K ex ⟨d,A,F,N,w,m,ld,f,bs,rfl,hd,hF,t0,hm,hbs,k⟩;refine⟨rfl,d,A,F,N,w,m,ld,f,rfl,hd st,hF,t0,fun st1 B1=>?_⟩;have k1:=k st1 B1;have lA:=hF.isA.len;have lF:=hF.DJ.len;have w8:=hF.w8;obtain⟨ds',he,ri⟩:=(hd st1).ex;obtain⟨d0,h0,i0⟩:=ri.at (k:=0) (by have:=hF.n1;omega);have r0:(A.getD 0 []).length=w:=hF.isA.row hF.n1;refine cP rfl (aX he h0 (cP i0 ?_));rw[List.length_map,List.length_map,lF,r0];refine FE (fun h=>ib ?_) fun h=>?_
 . rw[if_pos (by omega)]at k1;exact k1
 rw[if_neg (by omega)]at k1;obtain rfl:m=w:=by omega
 obtain⟨lb,hb,hg⟩:=hbs rfl;refine Eh rfl fun ok aB=>⟨bP (by rw[lp,List.length_map,lF];omega),?_⟩
 refine i5 (fun rest acc st'=>st1=st'/\∃i:Nat,i<=m/\rest=(iV 0 (F.map bg)).drop i/\acc=e8 (bs.take i)) ?_ ?_ _ _ _ ⟨rfl,0,Nat.zero_le _,rfl,rfl⟩;rotate_left
 . rintro x rest acc st' ⟨rfl,i,hi,hrest,rfl⟩ next
   obtain⟨hx,rfl⟩:=AI hrest;obtain⟨y,hy,rfl⟩:=lg hx
   have hiF:i<F.length:=by
    have:=(List.getElem?_eq_some_iff.mp hy).1;rw[List.length_map]at this;exact this
   rw[List.getElem?_map,List.getElem?_eq_getElem hiF]at hy;cases hy;have lr:(F[i]).length=m:=hF.DJ.nG _ (List.getElem_mem _);refine⟨aB _ rfl,_,rfl,aX (e:= .int ((bs.getD i 0:Nat):Int)) rfl ?_ (next _ _ ⟨rfl,i+1,by omega,rfl,(Ae (by omega)).symm⟩)⟩;rw[<-hg i (by omega),Nat.zero_add];have e:Mx.g F i i=(F[i]).getD i 0:=by unfold Mx.g;rw[Mx.aU hiF]
   rw[e];exact kl (by omega)
 rintro acc st' ⟨rfl,i,hi,hrest,rfl⟩;refine⟨aB _ rfl,?_⟩
 have hil:bs.length<=i:=by
  have:=congrArg List.length hrest;rw[List.length_drop,lp,List.length_map,List.length_nil,lF]at this;omega
 rw[List.take_of_length_le hil];clear hil hrest hi i aB ok;refine o6 ?_;refine fP (fun rest σ st'=>st1=st'/\∃(i:Nat) (v4:Option D),i<=bs.length/\rest=(e8 bs).drop i/\σ=[some d,some (d3 F),some (.lst (e8 bs)),some (.int ((fO (bs.take i):Nat):Int)),v4,none]) ?_ ?_ _ _ _ ⟨rfl,0,none,Nat.zero_le _,rfl,rfl⟩;rotate_left
 . rintro x rest σ st' ⟨rfl,i,v4,hi,hrest,rfl⟩ next
   obtain⟨hil,rfl,rfl⟩:=lu hrest;have hx:=hb _ (show bs.getD i 0∈bs by rw[List.getD_eq_getElem?_getD,List.getElem?_eq_getElem hil];exact List.getElem_mem _);refine⟨trivial,_,rfl,eZ (kh (by omega) (by omega)) (next _ _ ⟨rfl,i+1,some (.int ((bs.getD i 0:Nat):Int)),hil,rfl,?_⟩)⟩;rw[mZ hil,Int.natCast_mul];rfl
 rintro σ st' ⟨rfl,i,v4,hi,hrest,rfl⟩;refine⟨trivial,?_⟩;rw[List.take_of_length_le (m6 hrest)];clear hrest hi i;refine DH (fun h=>ib ?_) fun h=>?_
 . rw[if_pos (by omega)]at k1;exact⟨Nat.le_of_ble_eq_true rfl,k1⟩
 have h300:fO bs<=300:=by omega
 have hk:∀st',Bk st st'->K (.tup ((jN bs).map bg)) st':=fun st' B=>by
  have:=k st' B;rw[if_neg (by omega),if_neg (by omega)]at this;exact this
 refine⟨Nat.zero_le _,Nat.le_of_ble_eq_true rfl,?_⟩;refine o6 ?_;refine fP (fun rest σ st'=>∃(i:Nat) (v4:Option D) (dr:D),i<=bs.length/\rest=(e8 bs).drop i/\σ=[some d,some (d3 F),some (.lst (e8 bs)),some (.int ((fO bs:Nat):Int)),v4,some dr]/\items? st' dr=some ((jN (bs.take i)).map bg)/\Bk st st') ?_ ?_ _ _ _ ⟨0,v4,.lst [.tup []],Nat.zero_le _,rfl,rfl,rfl,B1⟩
 . rintro σ st' ⟨i,v4,dr,hi,hrest,rfl,hdr,B'⟩;rw[List.take_of_length_le (m6 hrest)]at hdr;exact⟨trivial,dD hdr (hk st' B')⟩
 . rintro x rest σ st' ⟨i,v4,dr,hi,hrest,rfl,hdr,B'⟩ next
   obtain⟨hil,rfl,rfl⟩:=lu hrest;have hx:=hb _ (show bs.getD i 0∈bs by rw[List.getD_eq_getElem?_getD,List.getElem?_eq_getElem hil];exact List.getElem_mem _);have q1:=pX (fun x hx=>(hb x hx).1) (i+1);have q2:=pX (l:=bs) (fun x hx=>(hb x hx).1) i;have e1:=mZ hil;have e2:=si (bs.take i);have p1:1<=fO (bs.take i):=by unfold fO;exact oZ _ 1 fun x hx=>(hb x (List.mem_of_mem_take hx)).1
   have q3:bs.getD i 0<=fO (bs.take i)*bs.getD i 0:=Nat.le_mul_of_pos_left _ p1;refine⟨trivial,_,rfl,dr,jN (bs.take i),bs.getD i 0,i,rfl,hdr,fun r hr=>?_,by omega,by omega,by rw[e2];omega,fun st2 e X=>next _ _ ⟨i+1,_,_,hil,rfl,rfl,?_,B'.Lc X⟩⟩
   . rw[rR _ r hr,List.length_take];omega
   . rw[uY hil];exact aH e
structure Bx(st:ag)(n:Nat)(b:Int):Prop where
 ex:∃x y z,st[n]?=some (.lst [.int x,.int y,.int z])/\0<=x/\0<=z/\z<=b
structure Upd(st:ag)(n:Nat)(st':ag):Prop where
 len:st'.length=st.length
 same:∀m,m≠n->st'[m]?=st[m]?
theorem Upd.trans{st st1 st2:ag}{n:Nat}(a:Upd st n st1)(b:Upd st1 n st2):Upd st n st2:=⟨b.len.trans a.len,fun m h=>(b.same m h).trans (a.same m h)⟩
theorem Upd.set{st:ag}{n:Nat}{c:Cell}:Upd st n (st.set n c):=⟨List.length_set,fun m h=>List.getElem?_set_ne (Ne.symm h)⟩
structure XU(st:ag)(n:Nat)(st':ag):Prop where
 len:st.length<=st'.length
 same:∀m,m<st.length->m≠n->st'[m]?=st[m]?
theorem XU.trans{st st1 st2:ag}{n:Nat}(a:XU st n st1)(b:XU st1 n st2):XU st n st2:=⟨Nat.le_trans a.len b.len,fun m h g=>(b.same m (Nat.lt_of_lt_of_le h a.len) g).trans (a.same m h g)⟩
theorem XU.upd{st st1:ag}{n:Nat}(a:Upd st n st1):XU st n st1:=⟨by rw[a.len];exact Nat.le_refl _,fun m _ g=>a.same m g⟩
theorem XU.ext{st st1:ag}{n:Nat}(a:Ext st st1):XU st n st1:=⟨a.len,fun m h _=>a.same m h⟩
theorem XU.set{st st1:ag}{n k:Nat}{c:Cell}(a:XU st n st1)(h:st.length<=k):XU st n (st1.set k c):=⟨by rw[List.length_set];exact a.len,fun m hm g=>by rw[List.getElem?_set_ne (Nat.ne_of_gt (Nat.lt_of_lt_of_le hm h))];exact a.same m hm g⟩
theorem Bx.lt{st:ag}{n:Nat}{b:Int}(B:Bx st n b):n<st.length:=by
 obtain⟨_,_,_,e,_⟩:=B.ex;exact(List.getElem?_eq_some_iff.mp e).1
theorem Bx.cell{st st':ag}{n:Nat}{b:Int}(B:Bx st n b)(e:st'[n]?=st[n]?):Bx st' n b:=by
 obtain⟨x,y,z,e1,r⟩:=B.ex;exact⟨x,y,z,e.trans e1,r⟩
theorem Bx.mono{st:ag}{n:Nat}{b b':Int}(B:Bx st n b)(l:b<=b'):Bx st n b':=by
 obtain⟨x,y,z,e,h1,h2,h3⟩:=B.ex;exact⟨x,y,z,e,h1,h2,Int.le_trans h3 l⟩
def kQ:cq:=fun ds st K=>∃(ns:List Int) (k:Nat),ds=[.lst (ns.map .int),.int k]/\k<=3/\ns.length<=63/\∀st',Bx st' st.length 4000->Ext st st'->K (.ref st.length) st'
def iI:List Str:=["_law_script","_law_k","_law_cell"]
def uL:DS:=(aO (a9 2 (dC (.int 0)))
 (aO (dG (bL (aE k_ (bQ dZ (af (ae 0) ak)) (dC (.int 0)))) (a9 2 (aE bM (ae 0) (aE kE (ae 1) (bQ dZ (af (ae 0) ak))))) dw)
 (cj (nR (af (aE dn (ae 2) (bQ rW (af (aE w_ (ae 2) (aE oH (dC (.int 10)) (dC (.int 18)))) ak))) (af (ae 2) (af (aE dn (dC (.int 1009)) (ae 1)) ak)))))))
theorem ug:∀ds st K,kQ ds st K->ds.length=2/\uL {nx:=fun _ st'=>K .aC st',rt:=K} (a7 iI ds) st:=by
 rintro ds st K ⟨ns,k,rfl,hk,hl,q⟩;refine⟨rfl,?_⟩
 have fin:∀c:Int,cj (nR (af (aE dn (ae 2) (bQ rW (af (aE w_ (ae 2) (aE oH (dC (.int 10)) (dC (.int 18)))) ak))) (af (ae 2) (af (aE dn (dC (.int 1009)) (ae 1)) ak))))
  {nx:=fun _ st'=>K .aC st',rt:=K} [some (.lst (ns.map .int)),some (.int k),some (.int c)] st:=by
  intro c;refine va ⟨by decide,by decide,by decide⟩ (Im (DZ (eZ (kh ?_ ?_) (eZ (jf (by decide) (by decide)) ⟨Nat.le_of_ble_eq_true rfl,?_⟩))))
  . split<;>decide
  . split<;>decide
  . refine q _ ⟨_,_,_,by rw[List.getElem?_append_right (Nat.le_refl _),Nat.sub_self];rfl,?_,?_,?_⟩ Ext.push
    . by_cases hc:(10:Int)^(18:Int).toNat<=c
      . have:(0:Int)<=c:=Int.le_trans (by decide) hc;rw[decide_eq_true hc,if_pos rfl];omega
      . rw[decide_eq_false hc,if_neg Bool.false_ne_true];omega
    . omega
    . omega
 refine cP rfl (yE ?_);rw[List.length_map];by_cases h0:(0:Int)<(ns.length:Int)
 . rw[decide_eq_true h0];refine ib (cP rfl (kK (by rw[List.length_map];omega) ?_));rw[List.length_map];have m1:=Int.fmod_nonneg_of_pos (k:Int) h0;have m2:=Int.fmod_lt_of_pos (k:Int) h0;obtain⟨j,ej⟩:=Int.eq_ofNat_of_zero_le m1;rw[ej]at m2⊢;exact aX rfl (kl (r:=ns) (by omega)) (fin _)
 . rw[decide_eq_false h0];exact fin 0
def a6:cq:=fun ds st K=>∃(n:Nat) (m b:Int),ds=[.ref n,.int m]/\Bx st n b/\b<=1000000/\0<m/\m<2^62/\∀r st',0<=r->r<m->Bx st' n (b+1)->Upd st n st'->K (.int r) st'
def ka:List Str:=["_law_source_here","_law_many","_law_digit","_law_m"]
def yW:DS:=(aO (dG (bL (aE k_ (aE bM (ae 0) (dC (.int 0))) (dC (.int 0)))) (aO (a9 2 (aE kE (aE bM (ae 0) (dC (.int 0))) (ae 1)))
 (aO (di (ae 0) (dC (.int 0)) (aE mK (aE bM (ae 0) (dC (.int 0))) (ae 1)))
 (cj (ae 2)))) dw)
 (aO (di (ae 0) (dC (.int 2)) (aE dm (aE bM (ae 0) (dC (.int 2))) (dC (.int 1))))
 (aO (a9 3 (aE kE (aE dn (aE dm (aE dm (aE kE (aE bM (ae 0) (dC (.int 1))) (dC (.int 2147483647))) (aE dn (dC (.int 65539)) (aE bM (ae 0) (dC (.int 2))))) (dC (.int 11))) (dC (.int 48271))) (dC (.int 2147483629))))
 (aO (a9 3 (aE dm (aE kE (aE dn (ae 3) (ae 3)) (dC (.int 1999999973))) (aE dn (dC (.int 39373)) (aE bM (ae 0) (dC (.int 2))))))
 (cj (aE kE (aE mK (aE kE (aE dn (ae 3) (dC (.int 99991))) (dC (.int 2147483587))) (dC (.int 7))) (ae 1)))))))
theorem sr{d:D}{σ:a_}{st:ag}{K:DK}(k:K d st):dC d σ st K:=k
theorem wY:∀ds st K,a6 ds st K->ds.length=2/\yW {nx:=fun _ st'=>K .aC st',rt:=K} (a7 ka ds) st:=by
 rintro ds st K ⟨n,m,b,rfl,⟨x,y,z,e,hx,hz,hb⟩,hb2,hm0,hm1,k⟩;refine⟨rfl,?_⟩;have hn:n<st.length:=(List.getElem?_eq_some_iff.mp e).1;have it:items? st (.ref n)=some [.int x,.int y,.int z]:=aH e;refine aX it (by rfl) (DH (fun h=>ib ?_) fun h=>?_)
 . refine aX it (by rfl) (kK (by omega) (aX it (by rfl) (r_ (by omega) (t5 hm0 hm1) (eh e (by rfl) ?_))));refine k _ _ (Int.fmod_nonneg_of_pos _ hm0) (Int.fmod_lt_of_pos _ hm0) ⟨_,_,_,List.getElem?_set_self hn,?_,hz,by omega⟩ Upd.set;rw[Int.fdiv_eq_ediv_of_nonneg _ (by omega)];exact Int.ediv_nonneg hx (by omega)
 . refine aX it (by rfl) (dR (eh e (by rfl) ?_));have e2:(st.set n (.lst ([D.int x,D.int y,D.int z].set 2 (.int (z+1)))))[n]?=some (.lst [.int x,.int y,.int (z+1)]):=List.getElem?_set_self hn;have it2:=aH e2;refine aX it2 (by rfl) (kK (by decide) (aX it2 (by rfl) (eZ (jf (by decide) (by decide)) ?_)));generalize y.fmod 2147483647=y1;generalize 65539*(z+1)=p;refine dR (sr (dR (sr (eZ (kh (by decide) (by decide)) (sr (kK (by decide) ?_))))));have u1:=Int.fmod_nonneg_of_pos ((y1+p+11)*48271) (show(0:Int)<2147483629 by decide);have u2:=Int.fmod_lt_of_pos ((y1+p+11)*48271) (show(0:Int)<2147483629 by decide);generalize((y1+p+11)*48271).fmod 2147483629=u at u1 u2⊢;refine eZ (jf (by omega) (by omega)) (sr (kK (by decide) ?_));generalize(u*u).fmod 1999999973=u3;refine aX it2 (by rfl) (eZ (jf (by decide) (by decide)) ?_);generalize 39373*(z+1)=p2;refine dR ?_;generalize u3+p2=u4;refine eZ (kh (by decide) (by decide)) (sr (kK (by decide) (sr (r_ (by decide) (by decide+kernel) (kK (by omega) ?_)))));exact k _ _ (Int.fmod_nonneg_of_pos _ hm0) (Int.fmod_lt_of_pos _ hm0) ⟨_,_,_,e2,hx,by omega,by omega⟩ Upd.set
def ky:cq:=fun ds st K=>∃(n:Nat) (b:Int) (d:D) (A:List (List Int)) (N w M:Nat),ds=[.ref n,d]/\Bx st n b/\b<=900000/\gI st d A/\Mx.bZ N w A/\1<=N/\N<=8/\w<=8/\(∀r∈A,∀x∈r,x.natAbs<=M)/\∀B st',Mx.iD A N w (M*8^6) B N->Bx st' n (b+30)->XU st n st'->K (d3 B) st'
def iS:List Str:=["_law_source_here","_law_rows","_law_made","_law_k","_law_i","_law_j","_law_how","_law_by"]
def uZ:DS:=(aO (a9 2 (jK (cW (ae 1)) [none] (bo 0) bT (bQ jx (af (ae 0) ak))))
 (aO (gq (dA (af (aV a6 (af (ae 0) (af (dC (.int 7)) ak))) ak)) (bo 3) (aO (a9 4 (aV a6 (af (ae 0) (af (bQ dZ (af (ae 2) ak)) ak))))
 (aO (a9 5 (aV a6 (af (ae 0) (af (bQ dZ (af (ae 2) ak)) ak))))
 (aO (a9 6 (aV a6 (af (ae 0) (af (dC (.int 4)) ak))))
 (dG (bL (aE kD (ae 4) (ae 5))) (di (ae 2) (ae 4) (cU (cW (aE bM (ae 2) (ae 4))) [none] (bo 0) bT (nS i6 (ae 0)))) (dG (bL (aE kD (ae 6) (dC (.int 0)))) (yZ (rB (oP (ae 2) (ae 4)) (oP (ae 2) (ae 5))) (kU (af (aE bM (ae 2) (ae 5)) (af (aE bM (ae 2) (ae 4)) ak)))) (aO (a9 7 (aE bM (fj (af (dC (.int 1)) (af (nS i6 (dC (.int 1))) (af (dC (.int 2)) (af (nS i6 (dC (.int 2))) ak))))) (aV a6 (af (ae 0) (af (dC (.int 4)) ak)))))
 (di (ae 2) (ae 4) (cU (wz (af (aE bM (ae 2) (ae 4)) (af (aE bM (ae 2) (ae 5)) ak))) [none,none,some 7] (kb 0 1) bT (aE dm (ae 0) (aE dn (ae 2) (ae 1))))))))))))
 (cj (bQ dM (af (cU (cW (ae 2)) [none] (bo 0) bT (bQ dM (af (ae 0) ak))) ak)))))
theorem kF{A:List (List Int)}{k:Nat}(h:k<A.length):c_ (A.map aQ) (k:Int)=some (aQ (A.getD k [])):=by
 refine fS ?_;rw[List.getElem?_map,List.getElem?_eq_getElem h,Mx.aU h];rfl
theorem mD{T:List (List Int)}{l:Nat}{r:List Int}:(T.map aQ).set l (aQ r)=(T.set l r).map aQ:=by rw[List.map_set]
theorem ue:∀ds st K,ky ds st K->ds.length=2/\uZ {nx:=fun _ st'=>K .aC st',rt:=K} (a7 iS ds) st:=by
 rintro ds st K ⟨n,b,d,A,N,w,M,rfl,B,hb,⟨da,hd,ra⟩,hA,hN1,hN8,hw,hbd,k⟩;refine⟨rfl,?_⟩;have hn:=B.lt;have hnL:st.length≠n:=Nat.ne_of_gt hn;have lA:=ra.len;have lAN:=hA.len;refine kH hd fun ok aB=>⟨bP (by omega),?_⟩
 refine eU aQ aB ra (fun d r hr he K' q=>⟨_,rfl,kg he q⟩) ?_;refine⟨n,7,b,rfl,B.cell (List.getElem?_append_left hn),by omega,by decide,by decide,fun r0 st1 z0 z1 B1 U1=>?_⟩;obtain⟨T,rfl⟩:=Int.eq_ofNat_of_zero_le z0;refine fD ⟨by omega,by omega⟩ ?_;rw[Int.toNat_natCast];have e1:st1[st.length]?=some (.lst (A.map aQ)):=(U1.same _ hnL).trans (by rw[List.getElem?_append_right (Nat.le_refl _),Nat.sub_self];rfl);have X1:XU st n st1:=(XU.ext Ext.push).trans (XU.upd U1);refine gj T (fun j σ st'=>∃(X:List (List Int)) (v3 v4 v5 v6 v7:Option D),σ=[some (.ref n),some d,some (.ref st.length),v3,v4,v5,v6,v7]/\st'[st.length]?=some (.lst (X.map aQ))/\Mx.iD A N w (M*8^j) X N/\Bx st' n (b+1+4*j)/\XU st n st') ?_ ?_ ⟨A,none,none,none,none,none,rfl,e1,⟨hA,hN1,hN8,fun r hr x hx=>by rw[Nat.pow_zero,Nat.mul_one];exact hbd r hr x hx,Mx.cD.refl _ _ _⟩,B1.mono (by simp),X1⟩
 . rintro σ st' ⟨X,v3,v4,v5,v6,v7,rfl,e,M',B',X'⟩;have lX:=M'.is.len;refine kH (aH e) fun ok aB=>⟨bP (by rw[List.length_map];omega),?_⟩
   refine eU bg aB bC.lst (fun d r hr he K' q=>⟨_,rfl,dD he q⟩) (dD rfl ?_);exact k X st' (M'.more (Nat.mul_le_mul_left _ (Nat.pow_le_pow_right (by decide) (by omega)))) (B'.mono (by omega)) X'
 . rintro j σ st2 rest hj ⟨X,v3,v4,v5,v6,v7,rfl,e,M',B2,X2⟩ next
   refine⟨_,rfl,?_⟩;have lX:=M'.is.len;have lM:(X.map aQ).length=N:=by rw[List.length_map,lX]
   refine cP (aH e) ⟨n,_,_,rfl,B2,by omega,by omega,by omega,fun rk st3 a0 a1 B3 U3=>?_⟩;obtain⟨kk,rfl⟩:=Int.eq_ofNat_of_zero_le a0;have hk:kk<N:=by omega
   have e3:=(U3.same _ hnL).trans e;refine cP (aH e3) ⟨n,_,_,rfl,B3,by omega,by omega,by omega,fun ro st4 c0 c1 B4 U4=>?_⟩;obtain⟨o,rfl⟩:=Int.eq_ofNat_of_zero_le c0;have ho:o<N:=by omega
   have e4:=(U4.same _ hnL).trans e3;refine⟨n,4,_,rfl,B4,by omega,by decide,by decide,fun way st5 w0 w1 B5 U5=>?_⟩;have e5:=(U5.same _ hnL).trans e4;have X5:XU st n st5:=X2.trans (XU.upd ((U3.trans U4).trans U5));have l5:=(List.getElem?_eq_some_iff.mp e5).1;clear U3 U4 U5 e e3 e4 B2 B3 B4;have pj:M*8^(j+1)=M*8^j*8:=by rw[Nat.pow_succ,Nat.mul_assoc]
   have M1:Mx.iD A N w (M*8^(j+1)) X N:=M'.more (by omega);have wk:=M'.is.row hk;have wo:=M'.is.row ho;have B6:Bx st5 n (b+1+4*((j+1:Nat):Int)):=B5.mono (by omega);refine eq2 (fun heq=>ib ?_) fun hne=>?_
   . refine aX (aH e5) (kF (by omega)) (o6 ⟨bP (by rw[List.length_map];omega),?_⟩);refine comp_map (g:=fun x=>match x with| .int a=> .int (-a)|_=> .aC) trivial _ (fun x hx K' q=>?_) ?_
     . unfold aq at hx;obtain⟨a,_,rfl⟩:=List.mem_map.mp hx;exact⟨_,rfl,jJ q⟩
     have en:(aq (X.getD kk [])).map (fun x=>match x with| .int a=> .int (-a)|_=> .aC)=aq ((X.getD kk []).map fun x=> -x):=by unfold aq;rw[List.map_map,List.map_map];rfl
     rw[en];refine eh e5 (kB (by omega) (by omega)) ?_;rw[Int.toNat_natCast];exact next _ _ ⟨_,_,_,_,_,_,rfl,(List.getElem?_set_self l5).trans (congrArg (fun x=>some (Cell.lst x)) mD),M1.neg hk,B6.cell (List.getElem?_set_ne hnL),X5.set (Nat.le_refl _)⟩
   refine eq2 (fun h0=>ib ?_) fun h0=>?_
   . refine aX (aH e5) (kF (by omega)) (aX (aH e5) (kF (by omega)) ⟨Nat.le_of_ble_eq_true rfl,?_⟩);refine eh e5 (kB (by omega) (by omega)) ?_;rw[Int.toNat_natCast,mD];refine eh (List.getElem?_set_self l5) (kB (by omega) (by rw[List.length_map,List.length_set];omega)) ?_;rw[Int.toNat_natCast,mD,List.set_set];exact next _ _ ⟨_,_,_,_,_,_,rfl,List.getElem?_set_self l5,M1.swap hk ho,B6.cell (List.getElem?_set_ne hnL),X5.set (Nat.le_refl _)⟩
   refine jJ (jJ ⟨Nat.le_of_ble_eq_true rfl,n,4,_,rfl,B5,by omega,by decide,by decide,fun q st6 q0 q1 B6 U6=>?_⟩);have e6:=(U6.same _ hnL).trans e5;have l6:=(List.getElem?_eq_some_iff.mp e6).1
   obtain⟨c,ec,hc⟩:∃c:Int,c_ [D.int 1,.int (-1),.int 2,.int (-2)] q=some (.int c)/\c.natAbs<=7:=by
    have:q=0\/q=1\/q=2\/q=3:=by omega
    rcases this with rfl|rfl|rfl|rfl
    . exact⟨1,rfl,by decide⟩
    . exact⟨-1,rfl,by decide⟩
    . exact⟨2,rfl,by decide⟩
    . exact⟨-2,rfl,by decide⟩
   refine aX rfl ec ?_;refine aX (aH e6) (kF (by omega)) (aX (aH e6) (kF (by omega)) ?_);refine vk rfl rfl fun ok aB=>⟨bP (by rw[mF,List.length_map,List.length_map];omega),?_⟩
   refine comp_map (g:=fun d=>match d with| .tup [.int x,.int y]=> .int (x+c*y)|_=> .aC) (aB st6 rfl rfl) _ (fun d hd K' q=>?_) ?_
   . obtain⟨x,y,_,_,rfl⟩:=qg hd;exact⟨_,rfl,eZ (jf (by omega) (by omega)) (dR q)⟩
   have ea:(jd (aq (X.getD kk [])) (aq (X.getD o []))).map (fun d=>match d with| .tup [.int x,.int y]=> .int (x+c*y)|_=> .aC)=aq (Mx.ck (X.getD kk []) c (X.getD o [])):=lB _ _;rw[ea];refine eh e6 (kB (by omega) (by omega)) ?_;rw[Int.toNat_natCast];refine next _ _ ⟨_,_,_,_,_,_,rfl,(List.getElem?_set_self l6).trans (congrArg (fun x=>some (Cell.lst x)) mD),?_,(B6.cell (List.getElem?_set_ne hnL)).mono (by omega),(X5.trans (XU.upd U6)).set (Nat.le_refl _)⟩
   rw[pj];exact M'.add hk ho (by omega) hc
def mJ:cq:=fun ds st K=>∃(n:Nat) (dl:D) (b:Int) (ls:List Int) (w:Nat),ds=[.ref n,dl]/\Bx st n b/\b<=900000/\(∀st',XU st n st'->items? st' dl=some (aq ls))/\ls.length=w/\w<=8/\(∀x∈ls,1<=x/\x<=1000000000)/\∀(G:List (List Int)) st',G.length=w->(∀k,k<w->Mx.UR ls w k (G.getD k []))->st'[st.length]?=some (.lst (G.map bg))->Bx st' n (b+64)->XU st n st'->K (.ref st.length) st'
def jX:List Str:=["_law_source_here","_law_leads_here","_law_form_here","_law_i","_law_row","_law_j"]
def y0:DS:=(aO (a9 2 (nR ak))
 (aO (gq (dA (af (bQ dZ (af (ae 1) ak)) ak)) (bo 3) (aO (a9 4 (aE qY (aE dn (fj (af (dC (.int 0)) ak)) (ae 3)) (fj (af (aE bM (ae 1) (ae 3)) ak))))
 (aO (gq (mv (af (aE dm (ae 3) (dC (.int 1))) (af (bQ dZ (af (ae 1) ak)) ak))) (bo 5) (fu (gH (ae 4) (aV a6 (af (ae 0) (af (aE bM (ae 1) (ae 5)) ak))))))
 (fu (gH (ae 2) (bQ dM (af (ae 4) ak)))))))
 (cj (ae 2))))
theorem km{α:Type}{l:List α}{x d:α}(k:Nat):(l++[x]).getD k d=if k<l.length then l.getD k d else if k=l.length then x else d:=by
 rw[List.getD_eq_getElem?_getD,List.getD_eq_getElem?_getD];by_cases h:k<l.length
 . rw[if_pos h,List.getElem?_append_left h]
 . rw[if_neg h,List.getElem?_append_right (Nat.le_of_not_lt h)];by_cases h2:k=l.length
   . rw[if_pos h2,h2,Nat.sub_self];rfl
   . rw[if_neg h2,List.getElem?_eq_none (by rw[List.length_singleton];omega)];rfl
theorem zh{tg:eL}{body:DS}{E:g_}{a:Int}(n:Nat)(I:Nat->a_->ag->Prop)(hend:∀σ st,I n σ st->E.nx σ st)
 (hstep:∀(j:Nat) σ st (rest:List D),j<n->I j σ st->(∀σ' st',I (j+1) σ' st'->ff tg body (fun _=>True) E rest σ' st')->∃σ1,tg (.int (a+(j:Int))) σ=some σ1/\body {E with nx:=ff tg body (fun _=>True) E rest,ct:=ff tg body (fun _=>True) E rest,bk:=E.nx} σ1 st)
 {σ:a_} {st:ag} (h0:I 0 σ st):ff tg body (fun _=>True) E (cA a n) σ st:=by
 refine fP (fun rest σ st=>∃j:Nat,j<=n/\rest=(List.range (n-j)).map (fun i=>D.int (a+((j+i:Nat):Int)))/\I j σ st) ?_ ?_ _ _ _ ⟨0,Nat.zero_le _,by unfold cA;simp,h0⟩
 . rintro σ st ⟨j,hj,hr,hI⟩
   have:n-j=0:=by
    cases q:n-j with
    |zero=>rfl
    |succ m=>rw[q,List.range_succ_eq_map]at hr;cases hr
   have e:j=n:=by omega
   subst e;exact⟨trivial,hend _ _ hI⟩
 . rintro d rest σ st ⟨j,hj,hr,hI⟩ next
   cases q:n-j with
   |zero=>rw[q]at hr;cases hr
   |succ m=>
    rw[q,List.range_succ_eq_map,List.map_cons,List.map_map]at hr;simp only[List.cons.injEq]at hr;obtain⟨rfl,hrest⟩:=hr
    obtain⟨σ1,e1,hb⟩:=hstep j σ st rest (by omega) hI fun σ' st' h=>next σ' st' ⟨j+1,by omega,by
     have:n-(j+1)=m:=by omega
     rw[this,hrest];refine List.map_congr_left fun i _=>?_;show D.int (a+((j+(i+1):Nat):Int))=D.int (a+((j+1+i:Nat):Int));congr 2;omega,h⟩
    exact⟨trivial,σ1,e1,hb⟩
theorem wZ:∀ds st K,mJ ds st K->ds.length=2/\y0 {nx:=fun _ st'=>K .aC st',rt:=K} (a7 jX ds) st:=by
 rintro ds st K ⟨n,dl,b,ls,w,rfl,B,hb,el,hw,w8,hls,k⟩;refine⟨rfl,?_⟩;have hn:=B.lt;have hnf:st.length≠n:=Nat.ne_of_gt hn;refine⟨Nat.le_of_ble_eq_true rfl,?_⟩;have X0:XU st n (st++[Cell.lst []]):=XU.ext Ext.push;refine cP (el _ X0) ?_;rw[List.length_map,hw];refine fD ⟨by omega,by omega⟩ ?_;rw[Int.toNat_natCast];refine gj w (fun i σ st'=>∃(G:List (List Int)) (v3 v4 v5:Option D),σ=[some (.ref n),some dl,some (.ref st.length),v3,v4,v5]/\G.length=i/\(∀k,k<i->Mx.UR ls w k (G.getD k []))/\st'[st.length]?=some (.lst (G.map bg))/\Bx st' n (b+8*i)/\XU st n st') ?_ ?_ ⟨[],none,none,none,rfl,rfl,fun k hk=>absurd hk (Nat.not_lt_zero _),by rw[List.getElem?_append_right (Nat.le_refl _),Nat.sub_self];rfl,(B.cell (List.getElem?_append_left hn)).mono (by simp),X0⟩
 . rintro σ st' ⟨G,v3,v4,v5,rfl,hG,hU,e,B',X'⟩;exact k G st' hG hU e (B'.mono (by omega)) X'
 . rintro i σ st1 rest hi ⟨G,v3,v4,v5,rfl,hG,hU,e,B1,X1⟩ next
   refine⟨_,rfl,?_⟩;have hlsi:i<ls.length:=by omega
   have e1:=el _ X1;have hf1:=(List.getElem?_eq_some_iff.mp e).1;have hn1:=B1.lt;refine Ks (Nat.le_of_ble_eq_true rfl) (D9 ⟨by omega,by omega,bP (by simp;omega)⟩ ?_);rw[Int.toNat_natCast,uI];refine aX e1 (kl hlsi) ⟨Nat.le_of_ble_eq_true rfl,EC (bP (by simp;omega)) ?_⟩;rw[ints_app];have X2:XU st n (st1++[Cell.lst (aq (List.replicate i 0++[ls.getD i 0]))]):=X1.trans (XU.ext Ext.push);refine dR (cP (el _ X2) ?_);rw[List.length_map,hw];refine xN ⟨by omega,by omega,by omega,by omega⟩ ?_;have ew:((w:Int)-((i:Int)+1)).toNat=w-(i+1):=by omega
   rw[ew];refine zh (w-(i+1)) (fun t σ st'=>∃(r:List Int) (v5:Option D),σ=[some (.ref n),some dl,some (.ref st.length),some (.int (i:Int)),some (.ref st1.length),v5]/\st'[st1.length]?=some (.lst (aq r))/\r.length=i+1+t/\(∀c,c<i->r.getD c 0=0)/\r.getD i 0=ls.getD i 0/\(∀c,i<c->c<i+1+t->0<=r.getD c 0/\r.getD c 0<ls.getD c 0)/\st'[st.length]?=some (.lst (G.map bg))/\Bx st' n (b+8*i+t)/\XU st n st') ?_ ?_ ⟨List.replicate i 0++[ls.getD i 0],v5,rfl,by rw[List.getElem?_append_right (Nat.le_refl _),Nat.sub_self];rfl,by simp,fun c hc=>?_,?_,fun c h1 h2=>absurd h2 (by omega),(List.getElem?_append_left hf1).trans e,(B1.cell (List.getElem?_append_left hn1)).mono (by simp),X2⟩
   . rintro σ st' ⟨r,v5,rfl,er,lr,r1,r2,r3,ef,B',X'⟩;refine oA (by rfl) ef (dD (aH er) (l9 ef (by rw[sizeLine_eq,List.length_map];omega) ?_));have hf':=(List.getElem?_eq_some_iff.mp ef).1;refine next _ _ ⟨G++[r],_,_,_,rfl,by rw[List.length_append,hG];rfl,fun k hk=>?_,by rw[List.getElem?_set_self hf',vo],(B'.cell (List.getElem?_set_ne hnf)).mono (by omega),X'.set (Nat.le_refl _)⟩
     rw[km,hG];by_cases h:k<i
     . rw[if_pos h];exact hU k h
     . have:k=i:=by omega
       subst this;rw[if_neg h,if_pos rfl];exact⟨by omega,r1,r2,fun c h1 h2=>r3 c h1 (by omega)⟩
   . rintro t σ st' rest' ht ⟨r,v5,rfl,er,lr,r1,r2,r3,ef,B',X'⟩ next';refine⟨_,rfl,?_⟩;have hj:i+1+t<ls.length:=by omega
     have elj:c_ (aq ls) ((i:Int)+1+(t:Int))=some (.int (ls.getD (i+1+t) 0)):=kl hj;have hx:ls.getD (i+1+t) 0∈ls:=getD_mem hj;have hb':=hls _ hx;refine oA (by rfl) er (aX (el _ X') elj ⟨n,_,_,rfl,B',by omega,by omega,by omega,fun x st2 x0 x1 B2 U2=>?_⟩);have l1:st1.length≠n:=Nat.ne_of_gt hn1;have er2:=(U2.same _ l1).trans er;have hl2:=(List.getElem?_eq_some_iff.mp er2).1;refine l9 er2 (by rw[sizeLine_eq,List.length_map];omega) ?_;have ne:st1.length≠st.length:=by omega
     refine next' _ _ ⟨r++[x],_,rfl,by rw[List.getElem?_set_self hl2,ints_app],by rw[List.length_append,lr];rfl,fun c hc=>?_,?_,fun c h1 h2=>?_,(List.getElem?_set_ne ne).trans ((U2.same _ hnf).trans ef),(B2.cell (List.getElem?_set_ne l1)).mono (by omega),(X'.trans (XU.upd U2)).set X1.len⟩
     . rw[km,if_pos (by omega)];exact r1 c hc
     . rw[km,if_pos (by omega)];exact r2
     . rw[km,lr];by_cases h:c<i+1+t
       . rw[if_pos h];exact r3 c h1 h
       . have:c=i+1+t:=by omega
         subst this;rw[if_neg h,if_pos rfl];exact⟨x0,x1⟩
   . rw[km,List.length_replicate,if_pos hc];exact Mx.cY _ _
   . rw[km,List.length_replicate,if_neg (Nat.lt_irrefl i),if_pos rfl]
def lP:cq:=fun ds st K=>∃(n:Nat) (b:Int),ds=[.ref n,.int 216]/\Bx st n b/\b<=900000/\∀(ls:List Int) (w:Nat) st',ls.length=w->1<=w->w<=8->(∀x∈ls,1<=x)->Mx.PN ls<=216->st'[st.length]?=some (.lst (aq ls))->Bx st' n (b+9)->XU st n st'->K (.ref st.length) st'
def js:List Str:=["_law_source_here","_law_most","_law_wide","_law_leads_here","_law_k","_law_at","_law_more","_law_room","_law_one"]
def wJ:DS:=(aO (a9 2 (aE dm (dC (.int 1)) (aV a6 (af (ae 0) (af (dC (.int 4)) ak)))))
 (aO (dG (bL (aE kD (aV a6 (af (ae 0) (af (dC (.int 8)) ak))) (dC (.int 5)))) (a9 2 (aE dm (dC (.int 6)) (aV a6 (af (ae 0) (af (dC (.int 3)) ak))))) dw)
 (aO (a9 3 (aE qK (fj (af (dC (.int 1)) ak)) (ae 2)))
 (aO (gq (dA (af (dC (.int 3)) ak)) (bo 4) (aO (a9 5 (aV a6 (af (ae 0) (af (ae 2) ak))))
 (aO (a9 6 (aE dm (dC (.int 1)) (aV a6 (af (ae 0) (af (dC (.int 6)) ak)))))
 (aO (a9 7 (ae 1))
 (aO (gq (cW (ae 3)) (bo 8) (a9 7 (aE mK (ae 7) (ae 8))))
 (di (ae 3) (ae 5) (aE dn (aE bM (ae 3) (ae 5)) (bQ vw (af (ae 6) (af (bQ wC (af (dC (.int 1)) (af (ae 7) ak))) ak))))))))))
 (cj (ae 3))))))
theorem Fo{k:Nat}{te:DE}{B:DS}{E:g_}{σ:a_}{st:ag}(h:te σ st fun d st1=>B E (σ.set k (some d)) st1):aO (a9 k te) B E σ st:=h
theorem EN(n:Nat):(List.replicate n [D.int 1]).flatten=aq (List.replicate n 1):=by
 induction n with
 |zero=>rfl
 |succ n ih=>rw[List.replicate_succ,List.flatten_cons,ih,List.replicate_succ];rfl
theorem ints_set{s:List Int}{l:Nat}{z:Int}:(aq s).set l (.int z)=aq (s.set l z):=by unfold aq;rw[List.map_set]
theorem v_:∀ds st K,lP ds st K->ds.length=2/\wJ {nx:=fun _ st'=>K .aC st',rt:=K} (a7 js ds) st:=by
 rintro ds st K ⟨n,b,rfl,B,hb,k⟩;refine⟨rfl,?_⟩;refine⟨n,4,b,rfl,B,by omega,by decide,by decide,fun r0 st0 a0 a1 B0 U0=>dR ?_⟩;dsimp only;refine eO (fun σ' st'=>∃w:Nat,1<=w/\w<=8/\σ'=[some (.ref n),some (.int 216),some (.int (w:Int)),none,none,none,none,none,none]/\Bx st' n (b+3)/\Upd st n st') (fun nx hnx=>?_) ?_
 . refine⟨n,8,_,rfl,B0,by omega,by decide,by decide,fun r1 st1 c0 c1 B1 U1=>?_⟩;refine eq2 (fun _=>ib ?_) fun _=>?_
   . refine⟨n,3,_,rfl,B1,by omega,by decide,by decide,fun r2 st2 d0 d1 B2 U2=>dR ?_⟩;obtain⟨w,ew⟩:=Int.eq_ofNat_of_zero_le (show 0<=6+r2 by omega);exact hnx _ _ ⟨w,by omega,by omega,by rw[ew];rfl,B2.mono (by omega),(U0.trans U1).trans U2⟩
   . obtain⟨w,ew⟩:=Int.eq_ofNat_of_zero_le (show 0<=1+r0 by omega);exact hnx _ _ ⟨w,by omega,by omega,by rw[ew];rfl,B1.mono (by omega),U0.trans U1⟩
 rintro σ' st1 ⟨w,w1,w8,rfl,B1,U1⟩;refine Ks (Nat.le_of_ble_eq_true rfl) (D8 ⟨by omega,by omega,bP (by simp;omega)⟩ ?_);rw[Int.toNat_natCast,EN,U1.len];have hn:=B.lt;have hnL:st.length≠n:=Nat.ne_of_gt hn;have X1:XU st n (st1++[Cell.lst (aq (List.replicate w 1))]):=(XU.upd U1).trans (XU.ext Ext.push);refine fD ⟨by decide,by decide⟩ ?_;refine gj 3 (fun j σ st'=>∃(ls:List Int) (v4 v5 v6 v7 v8:Option D),σ=[some (.ref n),some (.int 216),some (.int (w:Int)),some (.ref st.length),v4,v5,v6,v7,v8]/\st'[st.length]?=some (.lst (aq ls))/\ls.length=w/\(∀x∈ls,1<=x)/\Mx.PN ls<=6^j/\Bx st' n (b+3+2*j)/\XU st n st') ?_ ?_ ⟨List.replicate w 1,none,none,none,none,none,rfl,?_,by simp,fun x hx=>by rw[(List.mem_replicate.mp hx).2];exact Int.le_refl _,by rw[Mx.Av];decide,(B1.cell (List.getElem?_append_left B1.lt)).mono (by simp),X1⟩
 . rintro σ st' ⟨ls,v4,v5,v6,v7,v8,rfl,e,hl,h1,hP,B',X'⟩;exact k ls w st' hl w1 w8 h1 hP e (B'.mono (by omega)) X'
 . rintro j σ st2 rest hj ⟨ls,v4,v5,v6,v7,v8,rfl,e,hl,h1,hP,B2,X2⟩ next
   refine⟨_,rfl,?_⟩;refine⟨n,_,_,rfl,B2,by omega,by omega,by omega,fun ra st3 a0 a1 B3 U3=>?_⟩;obtain⟨at',rfl⟩:=Int.eq_ofNat_of_zero_le a0;refine⟨n,6,_,rfl,B3,by omega,by decide,by decide,fun r4 st4 c0 c1 B4 U4=>dR ?_⟩;have e4:st4[st.length]?=some (.lst (aq ls)):=(U4.same _ hnL).trans ((U3.same _ hnL).trans e);have l4:=(List.getElem?_eq_some_iff.mp e4).1;have hat:at'<ls.length:=by omega
   dsimp only;refine Fo ?_;dsimp only[ae];refine eO (fun σ' st'=>st'=st4/\∃(room:Int) (v8:Option D),σ'=[some (.ref n),some (.int 216),some (.int (w:Int)),some (.ref st.length),some (.int (j:Int)),some (.int (at':Int)),some (.int (1+r4)),some (.int room),v8]) (fun nx hnx=>?_) ?_
   . refine kH (aH e4) fun ok aB=>?_;refine fP (fun rest σ st'=>st'=st4/\∃(room:Int) (v8:Option D) (ms:List Int),rest=aq ms/\(∀x∈ms,x∈ls)/\σ=[some (.ref n),some (.int 216),some (.int (w:Int)),some (.ref st.length),some (.int (j:Int)),some (.int (at':Int)),some (.int (1+r4)),some (.int room),v8]) ?_ ?_ _ _ _ ⟨rfl,216,v8,ls,rfl,fun _ h=>h,rfl⟩
     . rintro σ st' ⟨rfl,room,v8,ms,_,_,rfl⟩;exact⟨aB,hnx _ _ ⟨rfl,room,v8,rfl⟩⟩
     . rintro d rest σ st' ⟨rfl,room,v8,ms,hr,hm,rfl⟩ nxt;match ms,hr,hm with
       |y::ms,hr,hm=>
        obtain⟨rfl,rfl⟩:=List.cons.inj hr;have y1:=h1 y (hm y List.mem_cons_self);have y2:=Int.le_trans (Mx.wq h1 (hm y List.mem_cons_self)) hP
        have p6:(6:Int)^j<=216:=by
         have:j=0\/j=1\/j=2:=by omega
         rcases this with rfl|rfl|rfl<;>decide
        exact⟨aB,_,rfl,r_ (by omega) (t5 (by omega) (by omega)) (nxt _ _ ⟨rfl,_,_,ms,rfl,fun x hx=>hm x (List.mem_cons_of_mem _ hx),rfl⟩)⟩
   rintro σ' st' ⟨rfl,room,v8,rfl⟩;refine aX (aH e4) (kl hat) (F5 (GS ?_));generalize ef:(if(if room>1 then room else 1)<1+r4 then(if room>1 then room else 1)else 1+r4)=f
   have hf:1<=f/\f<=6:=by
    rw[<-ef];split<;>split at* <;>omega
   clear ef;refine eZ (kh (by omega) (by omega)) (eh e4 (kB (by omega) (by rw[List.length_map];omega)) ?_);rw[Int.toNat_natCast,ints_set];have hx:ls.getD at' 0∈ls:=getD_mem hat;refine next _ _ ⟨_,_,_,_,_,_,rfl,List.getElem?_set_self l4,by rw[List.length_set];exact hl,fun x hx'=>?_,?_,(B4.cell (List.getElem?_set_ne hnL)).mono (by omega),(X2.trans (XU.upd (U3.trans U4))).set (Nat.le_refl _)⟩
   . rcases List.mem_or_eq_of_mem_set hx' with h|h
     . exact h1 x h
     . have:=h1 _ hx;have:=Int.mul_le_mul this hf.1 (by decide) (Int.le_trans (by decide) this);rw[h];exact this
   . rw[Mx.zW hat,Int.pow_succ];exact Int.mul_le_mul hP hf.2 (by omega) (Int.le_trans (Int.le_trans (by decide) (Mx.vQ h1)) hP)
 . rw[<-U1.len,List.getElem?_append_right (Nat.le_refl _),Nat.sub_self];rfl
structure Kn(st:ag)(n:Nat)(dl:D)(ls:List Int):Prop where
 it:∀st',XU st n st'->items? st' dl=some (aq ls)
 bk:∀st' st'',XU st n st'->Bk st' st''->items? st'' dl=some (aq ls)
 len:1<=ls.length/\ls.length<=8
 ok:∀x∈ls,1<=x/\x<=200000000
def ik:cq:=fun ds st K=>∃(n:Nat) (b:Int),ds=[.ref n]/\Bx st n b/\b<=800000/\∀(dl:D) (ls:List Int) st',Kn st' n dl ls->Bx st' n (b+30)->XU st n st'->K dl st'
def fI:List Str:=["_law_source_here","_law_how","_law_some"]
def qx:DS:=(aO (a9 1 (aV a6 (af (ae 0) (af (dC (.int 8)) ak))))
 (aO (dG (bL (aE k_ (ae 1) (dC (.int 3)))) (cj (aV lP (af (ae 0) (af (dC (.int 216)) ak)))) dw)
 (aO (a9 2 (nR (af (aE bM (fj (af (fj (af (dC (.int 300)) ak)) (af (fj (af (dC (.int 3)) (af (dC (.int 100)) ak))) (af (fj (af (dC (.int 1)) (af (dC (.int 300)) (af (dC (.int 1)) ak)))) (af (fj (af (dC (.int 5)) (af (dC (.int 6)) (af (dC (.int 10)) ak)))) (af (fj (af (dC (.int 2)) (af (dC (.int 1)) (af (dC (.int 150)) (af (dC (.int 1)) (af (dC (.int 1)) (af (dC (.int 1)) (af (dC (.int 1)) ak)))))))) ak)))))) (aV a6 (af (ae 0) (af (dC (.int 5)) ak)))) ak)))
 (aO (fu (gH (ae 2) (aE bM (fj (af (fj (af (dC (.int 301)) ak)) (af (fj (af (dC (.int 7)) (af (dC (.int 43)) ak))) (af (fj (af (dC (.int 1)) (af (dC (.int 301)) ak))) (af (fj (af (dC (.int 43)) (af (dC (.int 1)) (af (dC (.int 7)) ak)))) ak))))) (aV a6 (af (ae 0) (af (dC (.int 4)) ak))))))
 (aO (fu (gH (ae 2) (fj (af (aE dm (dC (.int 2)) (aV a6 (af (ae 0) (af (dC (.int 40)) ak)))) (af (aE dm (dC (.int 7)) (aV a6 (af (ae 0) (af (dC (.int 40)) ak)))) (af (aE dm (dC (.int 5)) (aV a6 (af (ae 0) (af (dC (.int 3)) ak)))) ak))))))
 (aO (fu (gH (ae 2) (fj (af (dC (.int 1)) (af (aE dm (aE oH (dC (.int 10)) (dC (.int 8))) (aV a6 (af (ae 0) (af (aE oH (dC (.int 10)) (dC (.int 6))) ak)))) ak)))))
 (cj (aE bM (ae 2) (ae 1)))))))))
def Hx:List (List Int):=[[300],[3,100],[1,300,1],[5,6,10],[2,1,150,1,1,1,1]]
def Hv:List (List Int):=[[301],[7,43],[1,301],[43,1,7]]
def Ar(ls:List Int):Prop:=(1<=ls.length/\ls.length<=8)/\∀x∈ls,1<=x/\x<=200000000
theorem EG:∀l∈Hx,Ar l:=by unfold Ar;decide
theorem Fp:∀l∈Hv,Ar l:=by unfold Ar;decide
theorem EH{st:ag}{n:Nat}{ls:List Int}(h:Ar ls):Kn st n (.lst (aq ls)) ls:=⟨fun _ _=>rfl,fun _ _ _ _=>rfl,h.1,h.2⟩
theorem ql{T:List (List Int)}{r:Int}(h0:0<=r)(h1:r<T.length):∃l∈T,c_ (T.map fun l=>D.lst (aq l)) r=some (.lst (aq l)):=by
 obtain⟨j,rfl⟩:=Int.eq_ofNat_of_zero_le h0;have hj:j<T.length:=by omega
 exact⟨T[j],List.getElem_mem _,fS (by rw[List.getElem?_map,List.getElem?_eq_getElem hj];rfl)⟩
theorem yJ{n:Nat}(h:n<=1000):n<sizeLine:=Ay h
theorem pA:∀ds st K,ik ds st K->ds.length=1/\qx {nx:=fun _ st'=>K .aC st',rt:=K} (a7 fI ds) st:=by
 rintro ds st K ⟨n,b,rfl,B,hb,k⟩;refine⟨rfl,n,8,_,rfl,B,by omega,by decide,by decide,fun how st1 h0 h1 B1 U1=>?_⟩;have X1:=XU.upd U1;refine DH (fun h=>ib ?_) fun h=>?_
 . refine⟨n,_,rfl,B1,by omega,fun ls w st2 lw w1 w8 hp hP e B2 X2=>k (.ref st1.length) ls st2 ⟨fun st' X=>?_,fun st' st'' X Bb=>?_,⟨by omega,by omega⟩,fun x hx=>⟨hp x hx,?_⟩⟩ (B2.mono (by omega)) (X1.trans X2)⟩
   . have hn:=B1.lt;have hl:=(List.getElem?_eq_some_iff.mp e).1;exact aH ((X.same _ hl (by omega)).trans e)
   . have hn:=B1.lt;have hl:=(List.getElem?_eq_some_iff.mp e).1;have lx:=X.len;exact aH ((Bb.fr _ (by omega) (by omega)).trans ((X.same _ hl (by omega)).trans e))
   . have:=Int.le_trans (Mx.wq hp hx) hP;omega
 refine⟨Nat.le_of_ble_eq_true rfl,Nat.le_of_ble_eq_true rfl,Nat.le_of_ble_eq_true rfl,Nat.le_of_ble_eq_true rfl,Nat.le_of_ble_eq_true rfl,Nat.le_of_ble_eq_true rfl,n,5,_,rfl,B1,by omega,by decide,by decide,fun r1 st2 a1 a2 B2 U2=>?_⟩;obtain⟨l1,m1,e1⟩:=ql (T:=Hx) a1 a2;refine aX rfl e1 ⟨Nat.le_of_ble_eq_true rfl,?_⟩;have n2:=B2.lt;have X2:XU st n (st2++[Cell.lst [D.lst (aq l1)]]):=(X1.trans (XU.upd U2)).trans (XU.ext Ext.push);have p0:st.length<=st2.length:=by rw[U2.len,U1.len];exact Nat.le_refl _
 have c2:(st2++[Cell.lst [D.lst (aq l1)]])[st2.length]?=some (.lst [.lst (aq l1)]):=List.getElem?_concat_length;have B2':Bx (st2++[Cell.lst [D.lst (aq l1)]]) n (b+2):=(B2.cell (List.getElem?_append_left n2)).mono (by omega);have hpn:st2.length≠n:=by omega
 generalize st2.length=p at*;generalize(st2++[Cell.lst [D.lst (aq l1)]])=s2 at*;refine oA (by rfl) c2 ⟨Nat.le_of_ble_eq_true rfl,Nat.le_of_ble_eq_true rfl,Nat.le_of_ble_eq_true rfl,Nat.le_of_ble_eq_true rfl,Nat.le_of_ble_eq_true rfl,n,4,_,rfl,B2',by omega,by decide,by decide,fun r2 st3 a3 a4 B3 U3=>?_⟩;obtain⟨l2,m2,e2⟩:=ql (T:=Hv) a3 a4;refine aX rfl e2 ?_;have c3:=(U3.same p hpn).trans c2;have h3:=(List.getElem?_eq_some_iff.mp c3).1;refine l9 c3 (yJ (Nat.le_of_ble_eq_true rfl)) ?_;have X3:=(X2.trans (XU.upd U3)).set (c:=Cell.lst ([D.lst (aq l1)]++[D.lst (aq l2)])) p0;have c3':(st3.set p (Cell.lst ([D.lst (aq l1)]++[D.lst (aq l2)])))[p]?=some (.lst [.lst (aq l1),.lst (aq l2)]):=List.getElem?_set_self h3;have B3':=B3.cell (st':=st3.set p (Cell.lst ([D.lst (aq l1)]++[D.lst (aq l2)]))) (List.getElem?_set_ne hpn);generalize(st3.set p (Cell.lst ([D.lst (aq l1)]++[D.lst (aq l2)])))=s3 at*;refine oA (by rfl) c3' ⟨n,40,_,rfl,B3',by omega,by decide,by decide,fun x1 st4 b1 b2 B4 U4=>dR ⟨n,40,_,rfl,B4,by omega,by decide,by decide,fun x2 st5 b3 b4 B5 U5=>dR ⟨n,3,_,rfl,B5,by omega,by decide,by decide,fun x3 st6 b5 b6 B6 U6=>dR ⟨Nat.le_of_ble_eq_true rfl,?_⟩⟩⟩⟩;have c6:=(U6.same p hpn).trans ((U5.same p hpn).trans ((U4.same p hpn).trans c3'));have h6:=(List.getElem?_eq_some_iff.mp c6).1;refine l9 c6 (yJ (Nat.le_of_ble_eq_true rfl)) ?_;have X6:=(((X3.trans (XU.upd U4)).trans (XU.upd U5)).trans (XU.upd U6)).set (c:=Cell.lst ([D.lst (aq l1),D.lst (aq l2)]++[D.lst (aq [2+x1,7+x2,5+x3])])) p0;have c6':(st6.set p (Cell.lst ([D.lst (aq l1),D.lst (aq l2)]++[D.lst (aq [2+x1,7+x2,5+x3])])))[p]?=some (.lst [.lst (aq l1),.lst (aq l2),.lst (aq [2+x1,7+x2,5+x3])]):=List.getElem?_set_self h6;have B6':=B6.cell (st':=st6.set p (Cell.lst ([D.lst (aq l1),D.lst (aq l2)]++[D.lst (aq [2+x1,7+x2,5+x3])]))) (List.getElem?_set_ne hpn);show aO _ _ _ _ (st6.set p (Cell.lst ([D.lst (aq l1),D.lst (aq l2)]++[D.lst (aq [2+x1,7+x2,5+x3])])));generalize(st6.set p (Cell.lst ([D.lst (aq l1),D.lst (aq l2)]++[D.lst (aq [2+x1,7+x2,5+x3])])))=s6 at*;refine oA (by rfl) c6' (va (by unfold wg;decide+kernel) (va (by unfold wg;decide+kernel) ⟨n,_,_,rfl,B6',by omega,by decide,by decide,fun x4 st7 b7 b8 B7 U7=>dR ⟨Nat.le_of_ble_eq_true rfl,?_⟩⟩));have c7:=(U7.same p hpn).trans c6';have h7:=(List.getElem?_eq_some_iff.mp c7).1;refine l9 c7 (yJ (Nat.le_of_ble_eq_true rfl)) ?_;have X7:=(X6.trans (XU.upd U7)).set (c:=Cell.lst ([D.lst (aq l1),D.lst (aq l2),D.lst (aq [2+x1,7+x2,5+x3])]++[D.lst (aq [1,10^8+x4])])) p0;have c7':(st7.set p (Cell.lst ([D.lst (aq l1),D.lst (aq l2),D.lst (aq [2+x1,7+x2,5+x3])]++[D.lst (aq [1,10^8+x4])])))[p]?=some (.lst ([l1,l2,[2+x1,7+x2,5+x3],[1,10^8+x4]].map fun l=>D.lst (aq l))):=List.getElem?_set_self h7;have B7':=B7.cell (st':=st7.set p (Cell.lst ([D.lst (aq l1),D.lst (aq l2),D.lst (aq [2+x1,7+x2,5+x3])]++[D.lst (aq [1,10^8+x4])]))) (List.getElem?_set_ne hpn);obtain⟨l,ml,el⟩:=ql (T:=[l1,l2,[2+x1,7+x2,5+x3],[1,10^8+x4]]) h0 (by show how<4;omega);refine aX (aH c7') el (k _ l _ (EH ?_) (B7'.mono (by omega)) X7);have b8':x4<1000000:=b8;have p8:(10:Int)^8=100000000:=by decide
 rcases List.mem_cons.mp ml with rfl|ml
 . exact EG _ m1
 rcases List.mem_cons.mp ml with rfl|ml
 . exact Fp _ m2
 rcases List.mem_cons.mp ml with rfl|ml
 . refine⟨⟨Nat.le_of_ble_eq_true rfl,Nat.le_of_ble_eq_true rfl⟩,fun x hx=>?_⟩;rcases List.mem_cons.mp hx with rfl|hx
   . omega
   rcases List.mem_cons.mp hx with rfl|hx
   . omega
   rw[List.mem_singleton.mp hx];omega
 . rw[List.mem_singleton.mp ml];refine⟨⟨Nat.le_of_ble_eq_true rfl,Nat.le_of_ble_eq_true rfl⟩,fun x hx=>?_⟩;rcases List.mem_cons.mp hx with rfl|hx
   . omega
   rw[List.mem_singleton.mp hx];omega
def nW:cq:=fun ds st K=>∃(dl:D) (bs:List Nat),ds=[dl]/\items? st dl=some (e8 bs)/\bs.length<=8/\(∀x∈bs,1<=x)/\fO bs<=300/\∀st',Ext st st'->K (.tup ((jN bs).map bg)) st'
def kW:List Str:=["_law_leads_here","_law_rests","_law_lead","_law_longer","_law_rest"]
def Ag:DS:=(aO (a9 1 (fj (af (kU ak) ak)))
 (aO (gq (cW (ae 0)) (bo 2) (aO (a9 3 (nR ak))
 (aO (gq (cW (ae 1)) (bo 4) (fu (g8 jZ (ae 3) (af (cU (dA (af (ae 2) ak)) [none,some 4] (bo 0) bT (aE dm (ae 1) (kU (af (ae 0) ak)))) ak))))
 (a9 1 (ae 3)))))
 (cj (bQ dM (af (ae 1) ak)))))
theorem yj:∀ds st K,nW ds st K->ds.length=1/\Ag {nx:=fun _ st'=>K .aC st',rt:=K} (a7 kW ds) st:=by
 rintro ds st K ⟨dl,bs,rfl,hd,b8,hb,h300,k⟩;refine⟨rfl,Nat.zero_le _,Nat.le_of_ble_eq_true rfl,?_⟩;refine o3 hd fun ok aB=>?_;refine fP (fun rest σ st'=>∃(i:Nat) (v2 v3 v4:Option D) (dr:D),i<=bs.length/\rest=(e8 bs).drop i/\σ=[some dl,some dr,v2,v3,v4]/\items? st' dr=some ((jN (bs.take i)).map bg)/\Ext st st') ?_ ?_ _ _ _ ⟨0,none,none,none,.lst [.tup []],Nat.zero_le _,rfl,rfl,rfl,Ext.refl⟩
 . rintro σ st' ⟨i,v2,v3,v4,dr,hi,hrest,rfl,hdr,X⟩;rw[List.take_of_length_le (m6 hrest)]at hdr;exact⟨aB _ (X.items hd),dD hdr (k st' X)⟩
 . rintro x rest σ st' ⟨i,v2,v3,v4,dr,hi,hrest,rfl,hdr,X⟩ next
   obtain⟨hil,rfl,rfl⟩:=lu hrest;have q1:=pX hb (i+1);have e1:=mZ hil;have e2:=si (bs.take i);have p1:1<=fO (bs.take i):=by unfold fO;exact oZ _ 1 fun x hx=>hb x (List.mem_of_mem_take hx)
   have q3:bs.getD i 0<=fO (bs.take i)*bs.getD i 0:=Nat.le_mul_of_pos_left _ p1;have hw:∀r∈jN (bs.take i),r.length=i:=fun r hr=>by rw[rR _ r hr,List.length_take];omega
   have en:jN (bs.take (i+1))=gS (jN (bs.take i)) (bs.getD i 0):=uY hil;generalize jN (bs.take i)=R at*;generalize bs.getD i 0=lead at*;have hRb:R.length*lead<=1000:=by rw[e2];omega
   refine⟨aB _ (X.items hd),_,rfl,Nat.zero_le _,?_⟩;refine o3 (Ext.push.items hdr) fun ok2 hok2=>?_;refine fP (fun rest σ st2=>∃(j:Nat) (v4:Option D),j<=R.length/\rest=(R.map bg).drop j/\σ=[some dl,some dr,some (.int (lead:Int)),some (.ref st'.length),v4]/\st2[st'.length]?=some (.lst ((gS (R.take j) lead).map bg))/\Ext st' st2) ?_ ?_ _ _ _ ⟨0,v4,Nat.zero_le _,rfl,rfl,List.getElem?_concat_length,Ext.push⟩
   . rintro σ st2 ⟨j,v4,hj,hr,rfl,e,X2⟩;rw[List.take_of_length_le (tG hr)]at e;exact⟨hok2 _ (X2.items hdr),next _ _ ⟨i+1,_,_,_,_,hil,rfl,rfl,by rw[en];exact aH e,X.trans X2⟩⟩
   . rintro x rest σ st2 ⟨j,v4,hj,hr,rfl,e,X2⟩ next2;obtain⟨hjl,rfl,rfl⟩:=tS hr;have hrr:(R.getD j []).length=i:=hw _ (by rw[Mx.aU hjl];exact List.getElem_mem _);refine⟨hok2 _ (X2.items hdr),_,rfl,A6 (fun K' q=>q) e (fD ⟨by omega,by omega⟩ ⟨bP (by rw[gG];omega),?_⟩)⟩;rw[Int.toNat_natCast];refine vi (by omega) (fun j K' q=>⟨_,rfl,Nat.le_of_ble_eq_true rfl,q⟩) ?_;have l1:=xH (R:=R) (b:=lead) (i:=j);have l2:(qC lead (R.getD j [])).length=lead:=by unfold qC;simp
     refine F4 e (by rw[sizeLine_eq,List.length_map,List.length_map];omega) (next2 _ _ ⟨j+1,_,hjl,rfl,rfl,?_,X2.set (Nat.le_refl _)⟩);rw[List.getElem?_set_self (List.getElem?_eq_some_iff.mp e).1,tj hjl,List.map_append]
abbrev qT:cq:=Dd jq iE
def rN:List Str:=["_law_rows","_law_found","_law_caught","error"]
/-Q_law_told lacks-/
def mE:cq:=fun ds st K=>∃R:List (List Int),ds=[.tup (R.map bg),.tup (R.map bg)]/\R.length<=1000/\(∀r∈R,r.length<=8)/\K (.bl true) st
def j4:List Str:=["_law_found","_law_due_here"]
def yL:DS:=(aO (dG (yn (oY (bL (bQ p_ (af (ae 0) (af (dC (.ty "tuple")) ak))))) (bL (aE nF (ae 0) (ae 1)))) (cj (dC (.bl false))) dw)
 (cj (bQ sd (af (cU (cW (ae 0)) [none] (bo 0) bT (uq (bQ p_ (af (ae 0) (af (dC (.ty "tuple")) ak))) (bQ sd (af (cU (cW (ae 0)) [none] (bo 0) bT (xT (bL (bQ p_ (af (ae 0) (af (dC (.ty "bool")) ak)))))) ak)))) ak))))
theorem sA:∀l:List D,jF (l.map fun _=>D.bl true)=some (l.map fun _=>true)
 | []=>rfl
 |_::l=>by simp[jF,sA l]
theorem DB(l:List D):(l.map fun _=>true).all id=true:=by simp
theorem Ge{n:Nat}{R:List (List Int)}:pl (n+2) (.tup (R.map bg))=true:=by
 unfold pl;refine List.all_eq_true.mpr fun d hd=>?_;obtain⟨r,_,rfl⟩:=List.mem_map.mp hd;unfold pl;refine List.all_eq_true.mpr fun d hd=>?_;obtain⟨i,_,rfl⟩:=List.mem_map.mp hd;cases n<;>rfl
theorem wI:∀ds st K,mE ds st K->ds.length=2/\yL {nx:=fun _ st'=>K .aC st',rt:=K} (a7 j4 ds) st:=by
 rintro ds st K ⟨R,rfl,hl,hw,k⟩;refine⟨rfl,?_⟩;refine vS rfl (by decide) ?_;refine qA Ge ?_;refine i7 ⟨bP (by rw[List.length_map];exact hl),?_⟩;refine comp_map (g:=fun _=> .bl true) trivial _ (fun d hd K' q=>?_) ?_
 . obtain⟨r,hr,rfl⟩:=List.mem_map.mp hd;have:=hw r hr;refine⟨_,rfl,vS rfl (by decide) ?_⟩;refine i7 ⟨bP (by rw[List.length_map];omega),?_⟩;refine comp_map (g:=fun _=> .bl true) trivial _ (fun d hd K' q=>?_) ?_
   . obtain⟨i,_,rfl⟩:=List.mem_map.mp hd;exact⟨_,rfl,vS rfl (by decide) q⟩
   refine AM (sA _) ?_;rw[DB];exact q
 refine AM (sA _) ?_;rw[DB];exact k
abbrev C2:cq:=AH Hq
def uB:List Str:=["_law_script","_law_k","_law_source_here","_law_leads_here","_law_form_here","_law_lacks","_law_rows","_law_one","_law_other","_law_handed","_law_found","_law_many","_law_lead"]
def IW:DS:=(aO (gq (dA (af (dC (.int 2)) ak)) (bo 1) (aO (a9 2 (aV kQ (af (ae 0) (af (ae 1) ak))))
 (aO (a9 3 (aV ik (af (ae 2) ak)))
 (aO (a9 4 (aV mJ (af (ae 2) (af (ae 3) ak))))
 (aO (a9 5 (uq (aE kD (aV a6 (af (ae 2) (af (dC (.int 5)) ak))) (dC (.int 3))) (aE k_ (bQ dZ (af (ae 3) ak)) (dC (.int 1)))))
 (aO (dG (bL (ae 5)) (fu (g8 la (ae 4) (af (aV a6 (af (ae 2) (af (bQ dZ (af (ae 4) ak)) ak))) ak))) dw)
 (aO (a9 6 (aV ky (af (ae 2) (af (ae 4) ak))))
 (aO (dG (j7 (bL (aE kD (aV a6 (af (ae 2) (af (dC (.int 3)) ak))) (dC (.int 1)))) (bL (aE oz (bQ dZ (af (ae 6) ak)) (dC (.int 8))))) (aO (Ci 7 8 (af (aE bM (ae 6) (dC (.int 0))) (af (aE bM (ae 6) (aV a6 (af (ae 2) (af (bQ dZ (af (ae 6) ak)) ak)))) ak)))
 (a9 6 (aE dm (ae 6) (kU (af (bQ dM (af (cU (wz (af (ae 7) (af (ae 8) ak))) [none,none] (kb 0 1) bT (aE dm (ae 0) (ae 1))) ak)) ak))))) dw)
 (aO (a9 9 (cU (cW (ae 6)) [none] (bo 0) bT (bQ jx (af (ae 0) ak))))
 (aO (a9 10 (aV qT (af (ae 9) ak)))
 (aO (dG (bL (aE nF (ae 9) (cU (cW (ae 6)) [none] (bo 0) bT (bQ jx (af (ae 0) ak))))) (cj (dC (.bl false))) dw)
 (aO (a9 11 (dC (.int 1)))
 (aO (gq (cW (ae 3)) (bo 12) (a9 11 (aE dn (ae 11) (ae 12))))
 (aO (dG (j7 (bL (ae 5)) (bL (aE o8 (ae 10) (dC .aC)))) (cj (dC (.bl false))) dw)
 (aO (dG (j7 (oY (bL (ae 5))) (j7 (bL (aE k_ (ae 11) (dC (.int 300)))) (bL (aE nF (ae 10) (dC (.str "many")))))) (cj (dC (.bl false))) dw)
 (aO (dG (j7 (oY (bL (ae 5))) (j7 (bL (aE oz (ae 11) (dC (.int 301)))) (oY (bL (aV mE (af (ae 10) (af (aV nW (af (ae 3) ak)) ak))))))) (cj (dC (.bl false))) dw)
 (dG (bL (aE o8 (aV (yO jq) (af (kU (af (aE dn (kU (af (dC (.int 0)) ak)) (bQ dZ (af (ae 3) ak))) ak)) ak)) (dC .aC))) (cj (dC (.bl false))) dw)))))))))))))))))
 (cj (dC (.bl true))))
theorem yX{w:Nat}(w8:w<=8):uV [List.replicate w 0] 1 w [] 0 fun _=>0:=by
 have z:∀k q,k<1->Mx.g [List.replicate w 0] k q=0:=fun k q hk=>by
  have:k=0:=by omega
  subst this;exact Mx.cY _ _
 refine⟨⟨rfl,fun r hr=>?_⟩,⟨rfl,fun r hr=>by cases hr⟩,⟨fun i hi=>absurd hi (Nat.not_lt_zero _),fun i j _ hj=>absurd hj (Nat.not_lt_zero _)⟩,fun i j _ hj=>absurd hj (Nat.not_lt_zero _),⟨fun k hk=>Mx.bF.zero fun q _=>z k q hk,fun k hk=>absurd hk (Nat.not_lt_zero _)⟩,fun i q _ hi=>by rw[z i q hi];exact Nat.zero_le _,Nat.le_refl _,by decide,w8⟩;have:r=List.replicate w 0:=by simpa using hr
 rw[this,List.length_replicate]
theorem EF{ls:List Int}(h:∀x∈ls,1<=x):aq ls=e8 (ls.map Int.toNat):=by
 unfold e8 aq;rw[List.map_map];refine List.map_congr_left fun x hx=>?_;have:=h x hx;show D.int x=D.int ((x.toNat:Nat):Int);congr 1;omega
theorem Ey{ls:List Int}{w:Nat}{G:List (List Int)}(hl:ls.length=w)(h1:∀x∈ls,1<=x)(hG:G.length=w)(hU:∀k,k<w->Mx.UR ls w k (G.getD k [])):∃zs:List (Nat×List Int),G=zs.map (·.2)/\Mx.Zs ls w zs/\zs.length=w/\∀i,i<w->Mx.g (zs.map (·.2)) i i=ls.getD i 0:=by
 have e:G=((List.range w).map fun i=>(i,G.getD i [])).map (·.2):=by
  rw[List.map_map];refine List.ext_getElem (by simp[hG]) fun i h1 h2=>?_;rw[List.getElem_map,List.getElem_range];show G[i]=G.getD i [];rw[Mx.aU h1]
 refine⟨(List.range w).map fun i=>(i,G.getD i []),e,⟨fun z hz=>?_,?_,h1,hl⟩,by simp,fun i hi=>?_⟩
 . obtain⟨i,hi,rfl⟩:=List.mem_map.mp hz;rw[List.mem_range]at hi;exact⟨hi,hU i hi⟩
 . rw[List.pairwise_map];exact List.pairwise_lt_range
 . rw[<-e];exact(hU i hi).at'
theorem Ef{T F:List (List Int)}{m w j:Nat}{ld:Nat->Nat}(fr:uV T m w F m ld)(hj:j<m)(m8:m<8)(hT:∀r∈T,∀x∈r,x.natAbs<=200000000*8^6):uV (T++[Mx.ck (T.getD 0 []) 1 (T.getD j [])]) (m+1) w F m ld:=by
 have lT:=fr.isA.len;have r0:=fr.isA.row (i:=0) (by omega);have rj:=fr.isA.row hj;have ls:(Mx.ck (T.getD 0 []) 1 (T.getD j [])).length=w:=by rw[Mx.pV (by omega)];exact r0
 have gl:∀i q,i<m->Mx.g (T++[Mx.ck (T.getD 0 []) 1 (T.getD j [])]) i q=Mx.g T i q:=fun i q hi=>by
  have e:(T++[Mx.ck (T.getD 0 []) 1 (T.getD j [])]).getD i []=T.getD i []:=by rw[List.getD_eq_getElem?_getD,List.getElem?_append_left (by omega),<-List.getD_eq_getElem?_getD]
  unfold Mx.g;rw[e]
 have gm:∀q,q<w->Mx.g (T++[Mx.ck (T.getD 0 []) 1 (T.getD j [])]) m q=Mx.g T 0 q+1*Mx.g T j q:=fun q hq=>by
  unfold Mx.g
  have e:(T++[Mx.ck (T.getD 0 []) 1 (T.getD j [])]).getD m []=Mx.ck (T.getD 0 []) 1 (T.getD j []):=by
   rw[List.getD_eq_getElem?_getD,List.getElem?_append_right (by omega),lT,Nat.sub_self];rfl
  rw[e,Mx.oQ (by omega)]
 have isA:Mx.bZ (m+1) w (T++[Mx.ck (T.getD 0 []) 1 (T.getD j [])]):=⟨by rw[List.length_append,lT];rfl,fun r hr=>by
  rcases List.mem_append.mp hr with h|h
  . exact fr.isA.nG r h
  . rw[List.mem_singleton.mp h];exact ls⟩
 have s:Mx.cD T m (T++[Mx.ck (T.getD 0 []) 1 (T.getD j [])]) (m+1) w:=Mx.cD.ins (k:=m) (Nat.le_refl _) ((Mx.bF.yh 1 (Mx.bF.row (by omega)) (Mx.bF.row hj)).eq gm) (fun i q hi _=>gl i q hi) fun i q h1 h2=>absurd h2 (by omega);refine⟨isA,fr.DJ,fr.st,fr.rd,s.symm.trans fr.sm,Mx.AS isA fun r hr x hx=>?_,by omega,by omega,fr.w8⟩;have big:200000000*8^6+200000000*8^6<=2^48:=by decide
 rcases List.mem_append.mp hr with h|h
 . have:=hT r h x hx;omega
 . rw[List.mem_singleton.mp h]at hx;obtain⟨c,hc,rfl⟩:=List.mem_iff_getElem.mp hx;have e3:(Mx.ck (T.getD 0 []) 1 (T.getD j []))[c]=(Mx.ck (T.getD 0 []) 1 (T.getD j [])).getD c 0:=(Mx.aU hc).symm;rw[e3,Mx.oQ (by omega)];have b1:=hT _ (show T.getD 0 []∈T by rw[Mx.aU (by omega)];exact List.getElem_mem _) _ (getD_mem (r:=T.getD 0 []) (k:=c) (by omega));have b2:=hT _ (show T.getD j []∈T by rw[Mx.aU (by omega)];exact List.getElem_mem _) _ (getD_mem (r:=T.getD j []) (k:=c) (by omega));have b4:=Int.natAbs_add_le ((T.getD 0 []).getD c 0) (1*(T.getD j []).getD c 0);rw[Int.one_mul]at b4⊢;omega
theorem KU{σ:a_}{st:ag}{K:DK}{n:Nat}{xs:List D}{to:DE}{ta:DA}(ho:∀K',K' (.ref n) st->to σ st K')(e:st[n]?=some (.lst xs))(ha:ta σ st fun ds st2=>(∃ys,st2[n]?=some (.lst ys))/\la n ds st2 K):g8 la to ta σ st K:=by
 unfold g8;refine ho _ ?_;simp only[e];exact ha
theorem K0{st2:ag}{K:DK}{n:Nat}{ys:List D}{i:Int}{j:Nat}{d:D}(e2:st2[n]?=some (.lst ys))(h63: -(2^63)<=i/\i<2^63)(ej:jG ys.length i=some j)(ed:ys[j]?=some d)(k:K d (st2.set n (.lst (ys.eraseIdx j)))):(∃ys,st2[n]?=some (.lst ys))/\la n [.int i] st2 K:=by
 refine⟨⟨ys,e2⟩,?_⟩;unfold la;simp only[e2,ej,ed];exact⟨h63,k⟩
theorem xM{A:List (List Int)}{k:Nat}(h:k<A.length):c_ (A.map bg) (k:Int)=some (bg (A.getD k [])):=fS (by rw[List.getElem?_map,List.getElem?_eq_getElem h,Mx.aU h];rfl)
theorem GN{n:Nat}{R:List (List Int)}:pl (n+2) (.lst (R.map aQ))=true:=by
 unfold pl;refine List.all_eq_true.mpr fun d hd=>?_;obtain⟨r,_,rfl⟩:=List.mem_map.mp hd;unfold pl;refine List.all_eq_true.mpr fun d hd=>?_;obtain⟨i,_,rfl⟩:=List.mem_map.mp hd;cases n<;>rfl
theorem GW:∀ds st K,C2 ds st K->ds.length=1/\IW {nx:=fun _ st'=>K .aC st',rt:=K} (a7 uB ds) st:=by
 rintro ds st K ⟨ns,rfl,hl,hst,k⟩;have t0:st[0]?=some (eN false):=by rw[hst];rfl
 clear hst;refine⟨rfl,fD ⟨by decide,by decide⟩ ?_⟩;refine gj 2 (fun j σ st'=>(∃v1 v2 v3 v4 v5 v6 v7 v8 v9 v10 v11 v12:Option D,σ=[some (.lst (ns.map .int)),v1,v2,v3,v4,v5,v6,v7,v8,v9,v10,v11,v12])/\∃f,st'[0]?=some (eN f)) ?_ ?_ ⟨⟨none,none,none,none,none,none,none,none,none,none,none,none,rfl⟩,false,t0⟩
 . rintro σ st' _;exact k _
 clear t0;rintro j σ st0 rest hj ⟨⟨v1,v2,v3,v4,v5,v6,v7,v8,v9,v10,v11,v12,rfl⟩,f0,t0⟩ next
 have z0:=(List.getElem?_eq_some_iff.mp t0).1;refine⟨_,rfl,ns,j,rfl,by omega,hl,fun st1 B1 X1=>?_⟩;have t1:st1[0]?=some (eN f0):=(X1.same 0 z0).trans t0;have hn1:=B1.lt;have n0:(0:Nat)≠st0.length:=by omega
 generalize st0.length=n at*;refine⟨n,_,rfl,B1,by decide,fun dl ls st2 hL B2 X2=>?_⟩;have w1:=hL.len.1;have w8:=hL.len.2;have p1:∀x∈ls,1<=x:=fun x hx=>(hL.ok x hx).1;have hnat:=EF p1;have z1:=(List.getElem?_eq_some_iff.mp t1).1;have t2:st2[0]?=some (eN f0):=(X2.same 0 z1 n0).trans t1;have z2:=(List.getElem?_eq_some_iff.mp t2).1;have tab:∀st',XU st2 n st'->st'[0]?=some (eN f0):=fun st' X=>(X.same 0 z2 n0).trans t2;refine⟨n,dl,_,ls,ls.length,rfl,B2,by decide,hL.it,rfl,w8,fun x hx=>⟨p1 x hx,by have:=(hL.ok x hx).2;omega⟩,fun G st3 hG hU e3 B3 X3=>?_⟩;have hn2:=B2.lt;have fcn:st2.length≠n:=by omega
 obtain⟨zs,rfl,hz,lz,dg⟩:=Ey rfl p1 hG hU;obtain⟨fc,hfc⟩:∃fc,fc=st2.length:=⟨_,rfl⟩
 rw[<-hfc]at e3 fcn;have fc2:st2.length<=fc:=by omega
 rw[<-hfc];dsimp only;refine eO (A:=a9 _ _) (fun σ st'=>∃lk:Bool,σ=[some (.lst (ns.map .int)),some (.int (j:Int)),some (.ref n),some dl,some (.ref fc),some (.bl lk),v6,v7,v8,v9,v10,v11,v12]/\(lk=true->1<ls.length)/\st'[fc]?=some (.lst ((zs.map (·.2)).map bg))/\Bx st' n 5000/\XU st2 n st') (fun nx hnx=>?_) ?_
 . refine⟨n,5,_,rfl,B3,by decide,by decide,by decide,fun r st4 _ _ B4 U4=>?_⟩;have e4:=(U4.same fc fcn).trans e3;have X4:=X3.trans (XU.upd U4);have B4':=B4.mono (b':=5000) (by decide);by_cases h:r=3
   . refine eqT h (cP (hL.it _ X4) ?_);rw[List.length_map];by_cases h2:1<ls.length
     . exact FD (by omega) (hnx _ _ ⟨true,rfl,fun _=>h2,e4,B4',X4⟩)
     . exact HX (by omega) (hnx _ _ ⟨false,rfl,fun z=>(by cases z),e4,B4',X4⟩)
   . exact Ku h (hnx _ _ ⟨false,rfl,fun z=>(by cases z),e4,B4',X4⟩)
 clear B3 X3 e3 hU hG;rintro _ st4 ⟨lk,rfl,hlk,e4,B4,X4⟩;refine eO (A:=dG _ _ _) (fun σ st'=>∃zs:List (Nat×List Int),σ=[some (.lst (ns.map .int)),some (.int (j:Int)),some (.ref n),some dl,some (.ref fc),some (.bl lk),v6,v7,v8,v9,v10,v11,v12]/\Mx.Zs ls ls.length zs/\1<=zs.length/\zs.length<=ls.length/\(lk=true->zs.length<ls.length)/\(lk=false->zs.length=ls.length/\∀i,i<ls.length->Mx.g (zs.map (·.2)) i i=ls.getD i 0)/\st'[fc]?=some (.lst ((zs.map (·.2)).map bg))/\Bx st' n 5010/\XU st2 n st') (fun nx hnx=>?_) ?_
 . cases lk with
   |false=>exact hnx _ _ ⟨zs,rfl,hz,by omega,by omega,fun z=>(by cases z),fun _=>⟨lz,dg⟩,e4,B4.mono (by decide),X4⟩
   |true=>
    have h2:=hlk rfl;have lzz:((zs.map (·.2)).map bg).length=zs.length:=by rw[List.length_map,List.length_map]
    refine KU (fun K' q=>q) e4 (cP (aH e4) ⟨n,_,_,rfl,B4,by decide,by omega,by omega,fun r5 st5 c0 c1 B5 U5=>?_⟩);obtain⟨p,rfl⟩:=Int.eq_ofNat_of_zero_le c0;have hp5:p<zs.length:=by omega
    have e5:=(U5.same _ fcn).trans e4;have l5:=(List.getElem?_eq_some_iff.mp e5).1;refine K0 e5 (j:=p) ⟨by omega,by omega⟩ (by rw[kB (by omega) (by rw[lzz,Int.toNat_natCast];exact hp5),Int.toNat_natCast]) (List.getElem?_eq_getElem (by rw[lzz];exact hp5)) ?_;refine hnx _ _ ⟨zs.eraseIdx p,rfl,hz.erase,by rw[List.length_eraseIdx_of_lt hp5];omega,by rw[List.length_eraseIdx_of_lt hp5];omega,fun _=>by rw[List.length_eraseIdx_of_lt hp5];omega,fun z=>(by cases z),?_,(B5.cell (List.getElem?_set_ne fcn)).mono (by decide),(X4.trans (XU.upd U5)).set fc2⟩;rw[List.getElem?_set_self l5,Mx.oC,Mx.oC]
 clear B4 X4 e4 hz lz dg zs hlk;rintro _ st5 ⟨zs,rfl,hz,m1,mw,hlt,hful,e5,B5,X5⟩;have hsm:∀r∈zs.map (·.2),∀x∈r,0<=x/\x<=200000000:=fun r hr x hx=>hz.small (M:=200000000) (fun x hx=>(hL.ok x hx).2) (by decide) r hr x hx;refine⟨n,_,.ref fc,zs.map (·.2),zs.length,ls.length,200000000,rfl,B5,by decide,⟨_,aH e5,bC.tup⟩,hz.is,m1,by omega,w8,fun r hr x hx=>by have:=hsm r hr x hx;omega,fun T st6 M B6 X6=>?_⟩;have fr:uV T zs.length ls.length (zs.map (·.2)) zs.length (Mx.nV zs):=⟨M.is,hz.is,hz.qJ,hz.red,M.same.symm,Mx.AS M.is fun r hr x hx=>Nat.le_trans (M.bd r hr x hx) (by decide),m1,by omega,w8⟩
 have lT:=M.is.len;have X6':=X5.trans X6;clear e5 B5 X5 X6 hsm st5;dsimp only;refine eO (A:=dG _ _ _) (fun σ st'=>∃(T:List (List Int)) (N:Nat) (v7 v8:Option D),σ=[some (.lst (ns.map .int)),some (.int (j:Int)),some (.ref n),some dl,some (.ref fc),some (.bl lk),some (d3 T),v7,v8,v9,v10,v11,v12]/\uV T N ls.length (zs.map (·.2)) zs.length (Mx.nV zs)/\XU st2 n st') (fun nx hnx=>?_) ?_
 . refine⟨n,3,_,rfl,B6,by decide,by decide,by decide,fun r st7 _ _ B7 U7=>?_⟩;have X7:=X6'.trans (XU.upd U7);refine eq2 (fun _=>ib ?_) fun _=>hnx _ _ ⟨T,_,v7,v8,rfl,fr,X7⟩;refine cP rfl ?_;rw[List.length_map,lT];refine FE (fun h8=>ib ?_) fun _=>hnx _ _ ⟨T,_,v7,v8,rfl,fr,X7⟩;refine aX rfl (show c_ (T.map bg) 0=some (bg (T.getD 0 []))from xM (k:=0) (by omega)) (cP rfl ?_);rw[List.length_map,lT];refine⟨n,_,_,rfl,B7,by decide,by omega,by omega,fun r2 st8 c0 c1 B8 U8=>?_⟩;obtain⟨q,rfl⟩:=Int.eq_ofNat_of_zero_le c0;have r0:=M.is.row (i:=0) (by omega);have rq:=M.is.row (i:=q) (by omega);refine aX rfl (show c_ (T.map bg) (q:Int)=some (bg (T.getD q []))from xM (by omega)) ?_;refine vk rfl rfl fun ok aB=>⟨bP (by rw[mF,List.length_map,List.length_map];omega),?_⟩
   refine comp_map (g:=fun d=>match d with| .tup [.int a,.int b]=> .int (a+1*b)|_=> .aC) (aB _ rfl rfl) _ (fun d hd K' t=>?_) ?_
   . obtain⟨x,y,_,_,rfl⟩:=qg hd;have t':K' (.int (x+1*y)) st8:=t;rw[Int.one_mul]at t';exact⟨_,rfl,dR t'⟩
   have ea:(jd (aq (T.getD 0 [])) (aq (T.getD q []))).map (fun d=>match d with| .tup [.int a,.int b]=> .int (a+1*b)|_=> .aC)=aq (Mx.ck (T.getD 0 []) 1 (T.getD q [])):=lB (T.getD 0 []) (T.getD q []);rw[ea];refine dD rfl ⟨Nat.le_of_ble_eq_true rfl,xO (bP (by rw[List.length_map];simp;omega)) ?_⟩;have et:T.map bg++[bg (Mx.ck (T.getD 0 []) 1 (T.getD q []))]=(T++[Mx.ck (T.getD 0 []) 1 (T.getD q [])]).map bg:=(vo ..)
   rw[show(D.tup (T.map bg++[D.tup (aq (Mx.ck (T.getD 0 []) 1 (T.getD q [])))]))=d3 (T++[Mx.ck (T.getD 0 []) 1 (T.getD q [])])from congrArg D.tup et];exact hnx _ _ ⟨_,_,_,_,rfl,Ef fr (by omega) (by omega) M.bd,X7.trans (XU.upd U8)⟩
 clear fr lT X6' B6 M T;rintro _ st7 ⟨T,N,v7,v8,rfl,fr,X7⟩;have lT:=fr.isA.len;have n8:=fr.n8;refine i7 ⟨bP (by rw[List.length_map];omega),?_⟩;refine eU aQ trivial bC.tup (fun d q _ he K' t=>⟨_,rfl,kg he t⟩) ?_
 have hbs:∀x∈ls.map Int.toNat,1<=x/\x<2^62:=fun x hx=>by
  obtain⟨y,hy,rfl⟩:=List.mem_map.mp hx;have:=hL.ok y hy;omega
 dsimp only;refine eO (A:=a9 _ _) (fun σ st'=>∃found:D,σ=[some (.lst (ns.map .int)),some (.int (j:Int)),some (.ref n),some dl,some (.ref fc),some (.bl lk),some (d3 T),v7,v8,some (.lst (T.map aQ)),some found,v11,v12]/\Bk st7 st'/\(lk=true/\found= .aC\/lk=false/\300<fO (ls.map Int.toNat)/\found= .str "many"\/lk=false/\fO (ls.map Int.toNat)<=300/\found= .tup ((jN (ls.map Int.toNat)).map bg))) (fun nx hnx=>?_) ?_
 . refine⟨_,rfl,.lst (T.map aQ),T,zs.map (·.2),N,ls.length,zs.length,Mx.nV zs,f0,ls.map Int.toNat,rfl,fun st=>⟨_,rfl,bC.lst⟩,fr,tab _ X7,mw,fun hm=>?_,fun st' Bb=>?_⟩
   . have hl0:lk=false:=by
      cases lk with
      |false=>rfl
      |true=>exact absurd hm (Nat.ne_of_lt (hlt rfl))
     refine⟨by rw[List.length_map],hbs,fun i hi=>?_⟩;rw[(hful hl0).2 i hi,List.getD_eq_getElem?_getD,List.getD_eq_getElem?_getD,List.getElem?_map,List.getElem?_eq_getElem hi];have:=p1 _ (List.getElem_mem hi);show ls[i]=((ls[i].toNat:Nat):Int)
     omega
   . cases lk with
     |true=>
      rw[if_pos (hlt rfl)];exact hnx _ _ ⟨_,rfl,Bb,.inl ⟨rfl,rfl⟩⟩
     |false=>
      rw[if_neg (by have:=(hful rfl).1;omega)];by_cases h:300<fO (ls.map Int.toNat)
      . rw[if_pos h];exact⟨rfl,hnx _ _ ⟨_,rfl,Bb,.inr (.inl ⟨rfl,h,rfl⟩)⟩⟩
      . rw[if_neg h];exact hnx _ _ ⟨_,rfl,Bb,.inr (.inr ⟨rfl,by omega,rfl⟩)⟩
 rintro _ st8 ⟨found,rfl,B8,hf⟩;have hi8:items? st8 dl=some (e8 (ls.map Int.toNat)):=by rw[<-hnat];exact hL.bk _ _ X7 B8
 obtain⟨f8,t8⟩:=B8.tb;clear B8 X7 hful hlt hz;refine i7 ⟨bP (by rw[List.length_map];omega),?_⟩;refine eU aQ trivial bC.tup (fun d q _ he K' t=>⟨_,rfl,kg he t⟩) (qA GN ?_);dsimp only;refine o3 hi8 fun ok aB=>?_;have lb:(ls.map Int.toNat).length=ls.length:=List.length_map _;generalize ls.map Int.toNat=bs at*;refine fP (fun rest σ st'=>st8=st'/\∃(i:Nat) (v12:Option D),i<=bs.length/\rest=(e8 bs).drop i/\σ=[some (.lst (ns.map .int)),some (.int (j:Int)),some (.ref n),some dl,some (.ref fc),some (.bl lk),some (d3 T),v7,v8,some (.lst (T.map aQ)),some found,some (.int ((fO (bs.take i):Nat):Int)),v12]) ?_ ?_ _ _ _ ⟨rfl,0,v12,Nat.zero_le _,rfl,rfl⟩;rotate_left
 . rintro x rest σ st' ⟨rfl,i,v12,hi,hrest,rfl⟩ next2;obtain⟨hil,rfl,rfl⟩:=lu hrest;have hx:=hbs _ (show bs.getD i 0∈bs by rw[List.getD_eq_getElem?_getD,List.getElem?_eq_getElem hil];exact List.getElem_mem _);refine⟨aB _ hi8,_,rfl,eZ (kh (by omega) (by omega)) (next2 _ _ ⟨rfl,i+1,some (.int ((bs.getD i 0:Nat):Int)),hil,rfl,?_⟩)⟩;rw[mZ hil,Int.natCast_mul];rfl
 rintro σ st' ⟨rfl,i,v12,hi,hrest,rfl⟩;refine⟨aB _ hi8,?_⟩;rw[List.take_of_length_le (m6 hrest)];clear hrest hi i aB ok;dsimp only;refine eO (A:=dG _ _ _) (fun σ st'=>σ=[some (.lst (ns.map .int)),some (.int (j:Int)),some (.ref n),some dl,some (.ref fc),some (.bl lk),some (d3 T),v7,v8,some (.lst (T.map aQ)),some found,some (.int ((fO bs:Nat):Int)),v12]/\st8=st') (fun nx hnx=>?_) ?_
 . rcases hf with⟨rfl,rfl⟩|⟨rfl,_,rfl⟩|⟨rfl,_,rfl⟩
   . exact AK rfl (hnx _ _ ⟨rfl,rfl⟩)
   . exact hnx _ _ ⟨rfl,rfl⟩
   . exact hnx _ _ ⟨rfl,rfl⟩
 rintro _ _ ⟨rfl,rfl⟩;refine eO (A:=dG _ _ _) (fun σ st'=>σ=[some (.lst (ns.map .int)),some (.int (j:Int)),some (.ref n),some dl,some (.ref fc),some (.bl lk),some (d3 T),v7,v8,some (.lst (T.map aQ)),some found,some (.int ((fO bs:Nat):Int)),v12]/\st8=st') (fun nx hnx=>?_) ?_
 . rcases hf with⟨rfl,rfl⟩|⟨rfl,h,rfl⟩|⟨rfl,h,rfl⟩
   . exact hnx _ _ ⟨rfl,rfl⟩
   . exact FD (by omega) (qA rfl (hnx _ _ ⟨rfl,rfl⟩))
   . exact HX (by omega) (hnx _ _ ⟨rfl,rfl⟩)
 rintro _ _ ⟨rfl,rfl⟩;refine eO (A:=dG _ _ _) (fun σ st'=>σ=[some (.lst (ns.map .int)),some (.int (j:Int)),some (.ref n),some dl,some (.ref fc),some (.bl lk),some (d3 T),v7,v8,some (.lst (T.map aQ)),some found,some (.int ((fO bs:Nat):Int)),v12]/\Ext st8 st') (fun nx hnx=>?_) ?_
 . rcases hf with⟨rfl,rfl⟩|⟨rfl,h,rfl⟩|⟨rfl,h,rfl⟩
   . exact hnx _ _ ⟨rfl,Ext.refl⟩
   . exact J0 (by omega) (hnx _ _ ⟨rfl,Ext.refl⟩)
   . refine Kr (by omega) ⟨dl,bs,rfl,hi8,by omega,fun x hx=>(hbs x hx).1,h,fun st9 X9=>?_⟩;refine⟨jN bs,rfl,by rw[si];omega,fun r hr=>by rw[rR bs r hr];omega,?_⟩;exact hnx _ _ ⟨rfl,X9⟩
 rintro _ st9 ⟨rfl,X9⟩;have z8:=(List.getElem?_eq_some_iff.mp t8).1;refine⟨Nat.le_of_ble_eq_true rfl,cP (X9.items hi8) (El ⟨by omega,by rw[List.length_map];omega,bP (by rw[List.length_map];simp;omega)⟩ ?_)⟩;rw[List.length_map,lb,Int.toNat_natCast,uI];refine⟨Nat.le_of_ble_eq_true rfl,d3 [List.replicate ls.length 0],[List.replicate ls.length 0],[],1,ls.length,0,fun _=>0,f8,[],rfl,fun st=>Fl,yX w8,(X9.same 0 z8).trans t8,Nat.zero_le _,fun h=>absurd h (by omega),fun st10 B10=>?_⟩;rw[if_pos (by omega)];obtain⟨f10,t10⟩:=B10.tb;exact AK rfl (next _ _ ⟨⟨_,_,_,_,_,_,_,_,_,_,_,_,rfl⟩,f10,t10⟩)
end Prog
namespace Row
open PySem L2 L3 Prog
open PySem.Spec hiding items?
open PyProof.Rows hiding St
theorem cR:(("tuple":Str))≠"__name__":=by decide+kernel
theorem iZ:(("list":Str))≠"__name__":=by decide+kernel
theorem cN:(("len":Str))≠"__name__":=by decide+kernel
theorem F3:(("abs":Str))≠"__name__":=by decide+kernel
theorem GP:(("int":Str))≠"__name__":=by decide+kernel
theorem FO:(("max":Str))≠"__name__":=by decide+kernel
theorem Hb:(("min":Str))≠"__name__":=by decide+kernel
theorem jP:(("isinstance":Str))≠"__name__":=by decide+kernel
theorem EZ:(("bool":Str))≠"__name__":=by decide+kernel
theorem AF:(("all":Str))≠"__name__":=by decide+kernel
structure Bl(mg:Str->Option Value):Prop where
 dz:mg "tuple"=none
 yU:mg "zip"=none
 d8:mg "range"=none
 kJ:mg "list"=none
 dq:mg "len"=none
 JH:mg "abs"=none
 BF:mg "sorted"=none
 wU:mg "enumerate"=none
 IS:mg "int"=none
 Iq:mg "max"=none
 Ie:mg "min"=none
 fB:mg "isinstance"=none
 vT:mg "ValueError"=none
 G8:mg "bool"=none
 Dk:mg "all"=none
structure Kl(K:PySem.W.Frag)(mg:Str->Option Value):Prop where
 aR:ClsAt K mg "Bench" ay
 bA:eW K ay "body"
 cV:eW K ay "turn"
 bJ:eW K ay "back_columns"
structure Yl(K:PySem.W.Frag)(mg:Str->Option Value):Prop where
 r8:mq K i4 [(.type "ValueError"),(.type "Exception"),(.type "BaseException"),(.type "object")]=true
 sS:mg "LatticeError"=some (.ref i4)
 Kg:mq K nJ [(.ref 139),(.type "ValueError"),(.type "Exception"),(.type "BaseException"),(.type "object")]=true
 AG:mg "NoSteps"=some (.ref nJ)
 td:mq K iE [(.ref 139),(.type "ValueError"),(.type "Exception"),(.type "BaseException"),(.type "object")]=true
 tH:mg "TooMany"=some (.ref iE)
 A4:mg "NoSheet"=some (.ref tw)
structure Zl(mg:Str->Option Value):Prop where
 uF:mg "MOST_RESTS"=some (.int (300) 425)
theorem nK:VS (ai gu) lH ["tuple"]:=⟨by decide+kernel⟩
theorem yC:aY lH ["rows"] (ai gu):=⟨rfl,rfl,rfl,by decide+kernel,rfl,by decide+kernel,by decide+kernel⟩
theorem sH:VS (ai i_) o4 ["zip"]:=⟨by decide+kernel⟩
theorem Cn:aY o4 ["row","times","other"] (ai i_):=⟨rfl,rfl,rfl,by decide+kernel,rfl,by decide+kernel,by decide+kernel⟩
theorem p9:VS (ai hO) mW ["tuple"]:=⟨by decide+kernel⟩
theorem Aq:aY mW ["rows","place"] (ai hO):=⟨rfl,rfl,rfl,by decide+kernel,rfl,by decide+kernel,by decide+kernel⟩
theorem g6:VS (ai dH) g7 ["range","tuple"]:=⟨by decide+kernel⟩
theorem sf:aY g7 ["rows","wide"] (ai dH):=⟨rfl,rfl,rfl,by decide+kernel,rfl,by decide+kernel,by decide+kernel⟩
theorem j_:VS (ai fL) j6 ["range","tuple"]:=⟨by decide+kernel⟩
theorem wM:aY j6 ["n","place"] (ai fL):=⟨rfl,rfl,rfl,by decide+kernel,rfl,by decide+kernel,by decide+kernel⟩
theorem jo:VS (ai fe) jt ["range","tuple"]:=⟨by decide+kernel⟩
theorem wD:aY jt ["n"] (ai fe):=⟨rfl,rfl,rfl,by decide+kernel,rfl,by decide+kernel,by decide+kernel⟩
theorem gy:VS (ai cO) e7 []:=⟨by decide+kernel⟩
theorem fW:aY e7 ["top","bottom"] (ai cO):=⟨rfl,rfl,rfl,by decide+kernel,rfl,by decide+kernel,by decide+kernel⟩
theorem b_:VS (ai fV) ji ["list"]:=⟨by decide+kernel⟩
theorem nH:aY ji ["rows","k","other"] (ai fV):=⟨rfl,rfl,rfl,by decide+kernel,rfl,by decide+kernel,by decide+kernel⟩
theorem Ab:VS (ai gv) lj []:=⟨by decide+kernel⟩
theorem yi:aY lj ["row"] (ai gv):=⟨rfl,rfl,rfl,by decide+kernel,rfl,by decide+kernel,by decide+kernel⟩
theorem ba:VS (ai bY) fG ["len","unit_rows"]:=⟨by decide+kernel⟩
theorem pq:aY fG ["self","rows"] (ai bY):=⟨rfl,rfl,rfl,by decide+kernel,rfl,by decide+kernel,by decide+kernel⟩
theorem aP:VS (ai fw) iJ ["added"]:=⟨by decide+kernel⟩
theorem t9:aY iJ ["self","k","times","other"] (ai fw):=⟨rfl,rfl,rfl,by decide+kernel,rfl,by decide+kernel,by decide+kernel⟩
theorem aT:VS (ai dc) fN ["exchanged"]:=⟨by decide+kernel⟩
theorem pD:aY fN ["self","k","other"] (ai dc):=⟨rfl,rfl,rfl,by decide+kernel,rfl,by decide+kernel,by decide+kernel⟩
theorem aN:VS (ai cF) eJ ["negated"]:=⟨by decide+kernel⟩
theorem mQ:aY eJ ["self","k"] (ai cF):=⟨rfl,rfl,rfl,by decide+kernel,rfl,by decide+kernel,by decide+kernel⟩
theorem cf:VS (ai cg) fk ["len","range","sorted"]:=⟨by decide+kernel⟩
theorem jD:aY fk ["self","top","place"] (ai cg):=⟨rfl,rfl,rfl,by decide+kernel,rfl,by decide+kernel,by decide+kernel⟩
theorem aw:VS (ai d9) gE ["len","nearest_quotient"]:=⟨by decide+kernel⟩
theorem eR:aY gE ["self","top","place"] (ai d9):=⟨rfl,rfl,rfl,by decide+kernel,rfl,by decide+kernel,by decide+kernel⟩
theorem br:VS (ai cE) eF ["range"]:=⟨by decide+kernel⟩
theorem dX:aY eF ["self","top","place"] (ai cE):=⟨rfl,rfl,rfl,by decide+kernel,rfl,by decide+kernel,by decide+kernel⟩
theorem aS:VS (ai gQ) j5 ["Bench","len","range","turned_over","as_rows"]:=⟨by decide+kernel⟩
theorem fT:aY j5 ["rows"] (ai gQ):=⟨rfl,rfl,rfl,by decide+kernel,rfl,by decide+kernel,by decide+kernel⟩
theorem om:VS (ai iB) k9 ["standing"]:=⟨by decide+kernel⟩
theorem yd:aY k9 ["rows"] (ai iB):=⟨rfl,rfl,rfl,by decide+kernel,rfl,by decide+kernel,by decide+kernel⟩
theorem du:VS (ai cT) gc ["range"]:=⟨by decide+kernel⟩
theorem hV:aY gc ["rows","bound"] (ai cT):=⟨rfl,rfl,rfl,by decide+kernel,rfl,by decide+kernel,by decide+kernel⟩
theorem aM:VS (ai fi) jj ["form_of","len","enumerate","MOST_RESTS","TooMany","longer_by_one","tuple"]:=⟨by decide+kernel⟩
theorem cZ:aY jj ["rows"] (ai fi):=⟨rfl,rfl,rfl,by decide+kernel,rfl,by decide+kernel,by decide+kernel⟩
theorem bH:VS (ai fv) iI ["len","int"]:=⟨by decide+kernel⟩
theorem jO:aY iI ["_law_script","_law_k"] (ai fv):=⟨rfl,rfl,rfl,by decide+kernel,rfl,by decide+kernel,by decide+kernel⟩
theorem bK:VS (ai gD) ka []:=⟨by decide+kernel⟩
theorem jv:aY ka ["_law_source_here","_law_many"] (ai gD):=⟨rfl,rfl,rfl,by decide+kernel,rfl,by decide+kernel,by decide+kernel⟩
theorem ao:VS (ai cJ) iS ["_law_take","range","len","zip","tuple"]:=⟨by decide+kernel⟩
theorem dF:aY iS ["_law_source_here","_law_rows"] (ai cJ):=⟨rfl,rfl,rfl,by decide+kernel,rfl,by decide+kernel,by decide+kernel⟩
theorem aZ:VS (ai gO) jX ["len","range","_law_take","tuple"]:=⟨by decide+kernel⟩
theorem g0:aY jX ["_law_source_here","_law_leads_here"] (ai gO):=⟨rfl,rfl,rfl,by decide+kernel,rfl,by decide+kernel,by decide+kernel⟩
theorem aD:VS (ai fQ) js ["_law_take","range","max","min"]:=⟨by decide+kernel⟩
theorem cK:aY js ["_law_source_here","_law_most"] (ai fQ):=⟨rfl,rfl,rfl,by decide+kernel,rfl,by decide+kernel,by decide+kernel⟩
theorem ax:VS (ai de) fI ["_law_take","_law_leads"]:=⟨by decide+kernel⟩
theorem gW:aY fI ["_law_source_here"] (ai de):=⟨rfl,rfl,rfl,by decide+kernel,rfl,by decide+kernel,by decide+kernel⟩
theorem c5:VS (ai gd) kW ["range","tuple"]:=⟨by decide+kernel⟩
theorem gM:aY kW ["_law_leads_here"] (ai gd):=⟨rfl,rfl,rfl,by decide+kernel,rfl,by decide+kernel,by decide+kernel⟩
theorem cS:VS (ai gN) rN ["all_rests","LatticeError","isinstance","TooMany","ValueError","NoSteps","NoSheet"]:=⟨by decide+kernel⟩
theorem jn:aY rN ["_law_rows"] (ai gN):=⟨rfl,rfl,rfl,by decide+kernel,rfl,by decide+kernel,by decide+kernel⟩
theorem dh:VS (ai fM) j4 ["tuple","isinstance","all"]:=⟨by decide+kernel⟩
theorem wV:aY j4 ["_law_found","_law_due_here"] (ai fM):=⟨rfl,rfl,rfl,by decide+kernel,rfl,by decide+kernel,by decide+kernel⟩
theorem aF:VS (ai gK) uB ["range","_law_source","_law_some_leads","_law_form","_law_take","len","_law_turned","zip","tuple","_law_told","_law_due","_law_same","all_rests"]:=⟨by decide+kernel⟩
theorem eV:aY uB ["_law_script"] (ai gK):=⟨rfl,rfl,rfl,by decide+kernel,rfl,by decide+kernel,by decide+kernel⟩
structure Ev(w:World)(mg:Str->Option Value)(h:Heap):Prop where
 X:(KX w.params).In h
 G:h.Ns mainGlobals mg
section
variable {w:World}{mg:Str->Option Value}{h base:Heap}(e:Ev w mg h)
include e
theorem Bt:Bl mg:=⟨PySem.W.mg_none_of e.X e.G (by kernel_rfl),PySem.W.mg_none_of e.X e.G (by kernel_rfl),PySem.W.mg_none_of e.X e.G (by kernel_rfl),PySem.W.mg_none_of e.X e.G (by kernel_rfl),PySem.W.mg_none_of e.X e.G (by kernel_rfl),PySem.W.mg_none_of e.X e.G (by kernel_rfl),PySem.W.mg_none_of e.X e.G (by kernel_rfl),PySem.W.mg_none_of e.X e.G (by kernel_rfl),PySem.W.mg_none_of e.X e.G (by kernel_rfl),PySem.W.mg_none_of e.X e.G (by kernel_rfl),PySem.W.mg_none_of e.X e.G (by kernel_rfl),PySem.W.mg_none_of e.X e.G (by kernel_rfl),PySem.W.mg_none_of e.X e.G (by kernel_rfl),PySem.W.mg_none_of e.X e.G (by kernel_rfl),PySem.W.mg_none_of e.X e.G (by kernel_rfl)⟩
theorem Qt:Kl (KX w.params) mg:=⟨⟨⟨by kernel_rfl,by kernel_rfl,by kernel_rfl,by kernel_rfl⟩,PySem.W.mg_of e.X e.G (by kernel_rfl),by kernel_rfl,by kernel_rfl⟩,Hd.na (by kernel_rfl),Hd.na (by kernel_rfl),Hd.na (by kernel_rfl)⟩
theorem Yt:Yl (KX w.params) mg:=⟨by kernel_rfl,PySem.W.mg_of e.X e.G (by kernel_rfl),by kernel_rfl,PySem.W.mg_of e.X e.G (by kernel_rfl),by kernel_rfl,PySem.W.mg_of e.X e.G (by kernel_rfl),PySem.W.mg_of e.X e.G (by kernel_rfl)⟩
theorem Zt:Zl mg:=⟨PySem.W.mg_of e.X e.G (by kernel_rfl)⟩
theorem nX:cm (KX w.params) mg "as_rows" "as_rows" gu ["rows"] 19 (Hd.fd gu "as_rows" "as_rows" iX 18):=Hd.pF e.X e.G (by kernel_rfl) fun _ _ _ _ _ _ _=>rfl
theorem tK:bf PW w (KX w.params) mg base cz 1 19 (Hd.fd gu "as_rows" "as_rows" iX 18) ["rows"] (cH ll):=by
 have B:=Bt e;have Q:=Qt e;exact cw (N:=lH) (nX e).fn yC (fun cdv A outer s H E hr=>(aJ (bD (fA eQ (aa (dJ (Nc:=["row"]) (a5.look (ai gu) ["rows"] (by decide+kernel)) (dB (nK.nm 0)) (fun _ _ _ _=>(cB (show(["row"]:List Str).Nodup by decide+kernel) (by first|exact Or.inl rfl|exact Or.inr rfl) (by first|exact .inl rfl|exact .inr rfl))) (fun _ _ _ _=>bV) (fun _ _ _ _=>(fA eQ (aa cL aj) B.dz rfl cR (by decide+kernel) rfl)) bX) aj) B.dz rfl cR (nK.d 0) (nK.g 0))))) yY
theorem oU:cm (KX w.params) mg "added" "added" i_ ["row","times","other"] 24 (Hd.fd i_ "added" "added" iX 23):=Hd.Kc e.X e.G (by kernel_rfl) fun _ _ _ _ _ _ _ _ _=>rfl
theorem sx:bf PW w (KX w.params) mg base cz 1 24 (Hd.fd i_ "added" "added" iX 23) ["row","times","other"] (cH lZ):=by
 have B:=Bt e;have Q:=Qt e;exact cw (N:=o4) (oU e).fn Cn (fun cdv A outer s H E hr=>(aJ (bD (dJ (Nc:=["one","two","times"]) (a5.look (ai i_) ["row","times","other"] (by decide+kernel)) (zc (sH.g 0) B.yU (aa (sH.nm 0) (aa (sH.nm 2) aj))) (fun _ _ _ _=>(um rfl (show(["one","two","times"]:List Str).Nodup by decide+kernel) (by first|exact Or.inl rfl|exact Or.inr rfl) (by first|exact .inl rfl|exact .inr rfl) (by first|exact Or.inl rfl|exact Or.inr rfl) (by first|exact .inl rfl|exact .inr rfl))) (fun _ _ _ _=>bV) (fun _ _ _ _=>(bB dU cL (bB ft cL cL))) o9)))) BC
theorem u_:cm (KX w.params) mg "column" "column" hO ["rows","place"] 29 (Hd.fd hO "column" "column" iX 28):=Hd.nZ e.X e.G (by kernel_rfl) fun _ _ _ _ _ _ _ _=>rfl
theorem Bz:bf PW w (KX w.params) mg base cz 1 29 (Hd.fd hO "column" "column" iX 28) ["rows","place"] (cH qp):=by
 have B:=Bt e;have Q:=Qt e;exact cw (N:=mW) (u_ e).fn Aq (fun cdv A outer s H E hr=>(aJ (bD (fA eQ (aa (dJ (Nc:=["row","place"]) (a5.look (ai hO) ["rows","place"] (by decide+kernel)) (dB (p9.nm 0)) (fun _ _ _ _=>(cB (show(["row","place"]:List Str).Nodup by decide+kernel) (by first|exact Or.inl rfl|exact Or.inr rfl) (by first|exact .inl rfl|exact .inr rfl))) (fun _ _ _ _=>bV) (fun _ _ _ _=>(bx cL cL)) bX) aj) B.dz rfl cR (p9.d 0) (p9.g 0))))) AX
theorem nj:cm (KX w.params) mg "turned_over" "turned_over" dH ["rows","wide"] 34 (Hd.fd dH "turned_over" "turned_over" iX 33):=Hd.nZ e.X e.G (by kernel_rfl) fun _ _ _ _ _ _ _ _=>rfl
theorem uc:bf PW w (KX w.params) mg base cz 2 34 (Hd.fd dH "turned_over" "turned_over" iX 33) ["rows","wide"] (cH jQ):=by
 have B:=Bt e;have Q:=Qt e;exact cw (N:=g7) (nj e).fn sf (fun cdv A outer s H E hr=>(aJ (bD (fA eQ (aa (dJ (Nc:=["place","rows"]) (a5.look (ai dH) ["rows","wide"] (by decide+kernel)) (eD (g6.g 0) B.d8 (aa (g6.nm 1) aj)) (fun _ _ _ _=>(cB (show(["place","rows"]:List Str).Nodup by decide+kernel) (by first|exact Or.inl rfl|exact Or.inr rfl) (by first|exact .inl rfl|exact .inr rfl))) (fun _ _ _ _=>bV) (fun _ _ _ _=>(bE (u_ e) (Bz e) (hr.mono (by decide)) (aa cL (aa cL aj)) (by decide+kernel) rfl)) bX) aj) B.dz rfl cR (g6.d 1) (g6.g 1))))) sE
theorem rP:cm (KX w.params) mg "unit_row" "unit_row" fL ["n","place"] 39 (Hd.fd fL "unit_row" "unit_row" iX 38):=Hd.nZ e.X e.G (by kernel_rfl) fun _ _ _ _ _ _ _ _=>rfl
theorem yH:bf PW w (KX w.params) mg base cz 1 39 (Hd.fd fL "unit_row" "unit_row" iX 38) ["n","place"] (cH nc):=by
 have B:=Bt e;have Q:=Qt e;exact cw (N:=j6) (rP e).fn wM (fun cdv A outer s H E hr=>(aJ (bD (fA eQ (aa (dJ (Nc:=["k","place"]) (a5.look (ai fL) ["n","place"] (by decide+kernel)) (eD (j_.g 0) B.d8 (aa (j_.nm 0) aj)) (fun _ _ _ _=>(cB (show(["k","place"]:List Str).Nodup by decide+kernel) (by first|exact Or.inl rfl|exact Or.inr rfl) (by first|exact .inl rfl|exact .inr rfl))) (fun _ _ _ _=>bV) (fun _ _ _ _=>(Ia (cy (qj hr) (bS _) cL cL) au au)) bX) aj) B.dz rfl cR (j_.d 1) (j_.g 1))))) wW
theorem lW:cm (KX w.params) mg "unit_rows" "unit_rows" fe ["n"] 44 (Hd.fd fe "unit_rows" "unit_rows" iX 43):=Hd.pF e.X e.G (by kernel_rfl) fun _ _ _ _ _ _ _=>rfl
theorem pG:bf PW w (KX w.params) mg base cz 2 44 (Hd.fd fe "unit_rows" "unit_rows" iX 43) ["n"] (cH jw):=by
 have B:=Bt e;have Q:=Qt e;exact cw (N:=jt) (lW e).fn wD (fun cdv A outer s H E hr=>(aJ (bD (fA eQ (aa (dJ (Nc:=["place","n"]) (a5.look (ai fe) ["n"] (by decide+kernel)) (eD (jo.g 0) B.d8 (aa (jo.nm 0) aj)) (fun _ _ _ _=>(cB (show(["place","n"]:List Str).Nodup by decide+kernel) (by first|exact Or.inl rfl|exact Or.inr rfl) (by first|exact .inl rfl|exact .inr rfl))) (fun _ _ _ _=>bV) (fun _ _ _ _=>(bE (rP e) (yH e) (hr.mono (by decide)) (aa cL (aa cL aj)) (by decide+kernel) rfl)) bX) aj) B.dz rfl cR (jo.d 1) (jo.g 1))))) uH
theorem jC:cm (KX w.params) mg "nearest_quotient" "nearest_quotient" cO ["top","bottom"] 51 (Hd.fd cO "nearest_quotient" "nearest_quotient" dQ 50):=Hd.nZ e.X e.G (by kernel_rfl) fun _ _ _ _ _ _ _ _=>rfl
theorem nC:bf PW w (KX w.params) mg base cz 1 51 (Hd.fd cO "nearest_quotient" "nearest_quotient" dQ 50) ["top","bottom"] (cH gf):=by
 have B:=Bt e;have Q:=Qt e;exact cw (N:=e7) (jC e).fn fW (fun cdv A outer s H E hr=>(aJ (bD (bB (xm hr rfl fW.gen fW.co) (bB dU (bB ft au (gy.nm 0)) (gy.nm 1)) (bB ft au (gy.nm 1)))))) nu
theorem jr:cm (KX w.params) mg "exchanged" "exchanged" fV ["rows","k","other"] 58 (Hd.fd fV "exchanged" "exchanged" dQ 57):=Hd.Kc e.X e.G (by kernel_rfl) fun _ _ _ _ _ _ _ _ _=>rfl
theorem lV:bf PW w (KX w.params) mg base cz 1 58 (Hd.fd fV "exchanged" "exchanged" dQ 57) ["rows","k","other"] (cH g4):=by
 have B:=Bt e;have Q:=Qt e
 exact cw (N:=ji) (jr e).fn nH (fun cdv A outer s H E hr=>(av (aW nH.nd (b_.l 3) (fA Fh (aa (b_.nm 0) aj) B.kJ rfl iZ (b_.d 0) (b_.g 0)))
  (av (eB (bx (b_.nm 0) (b_.nm 2)) (b_.nm 3) (b_.nm 1))
  (av (eB (bx (b_.nm 0) (b_.nm 1)) (b_.nm 3) (b_.nm 2))
  (aJ (bD (b_.nm 3))))))) uP
theorem kZ:cm (KX w.params) mg "negated" "negated" gv ["row"] 63 (Hd.fd gv "negated" "negated" dQ 62):=Hd.pF e.X e.G (by kernel_rfl) fun _ _ _ _ _ _ _=>rfl
theorem nO:bf PW w (KX w.params) mg base cz 1 63 (Hd.fd gv "negated" "negated" dQ 62) ["row"] (cH jA):=by
 have B:=Bt e;have Q:=Qt e;exact cw (N:=lj) (kZ e).fn yi (fun cdv A outer s H E hr=>(aJ (bD (dJ (Nc:=["number"]) (a5.look (ai gv) ["row"] (by decide+kernel)) (dB (Ab.nm 0)) (fun _ _ _ _=>(cB (show(["number"]:List Str).Nodup by decide+kernel) (by first|exact Or.inl rfl|exact Or.inr rfl) (by first|exact .inl rfl|exact .inr rfl))) (fun _ _ _ _=>bV) (fun _ _ _ _=>(kX cL)) bX)))) x_
theorem fK:MethAt (KX w.params) ay "__init__" "Bench.__init__" bY ["self","rows"] 75 (Hd.fd bY "__init__" "Bench.__init__" dQ 74):=Hd.Kq (by kernel_rfl) fun _ _ _ _ _ _ _ _=>rfl
theorem qo:bf PW w (KX w.params) mg base cz 3 75 (Hd.fd bY "__init__" "Bench.__init__" dQ 74) ["self","rows"] (cH hW):=by
 have B:=Bt e;have Q:=Qt e
 exact cw (N:=fG) (fK e).fn pq (fun cdv A outer s H E hr=>(av (kc Q.aR.cl Q.bA (ba.nm 0) (sU (Nc:=["row"]) (a5.look (ai bY) ["self","rows"] (by decide+kernel)) (dB (ba.nm 1)) (fun _ _ _ _=>(cB (show(["row"]:List Str).Nodup by decide+kernel) (by first|exact Or.inl rfl|exact Or.inr rfl) (by first|exact .inl rfl|exact .inr rfl))) (fun _ _ _ _=>bV) (fun _ _ _ _=>(fA my (aa cL aj) B.kJ rfl iZ (by decide+kernel) rfl)) bX))
  (av (kc Q.aR.cl Q.cV (ba.nm 0) (sU (Nc:=["row"]) (a5.look (ai bY) ["self","rows"] (by decide+kernel)) (dB (bE (lW e) (pG e) (hr.mono (by decide)) (aa (c8 dy (aa (ba.nm 1) aj) B.dq rfl cN (ba.d 0) (ba.g 0)) aj) (ba.d 1) (ba.g 1))) (fun _ _ _ _=>(cB (show(["row"]:List Str).Nodup by decide+kernel) (by first|exact Or.inl rfl|exact Or.inr rfl) (by first|exact .inl rfl|exact .inr rfl))) (fun _ _ _ _=>bV) (fun _ _ _ _=>(fA my (aa cL aj) B.kJ rfl iZ (by decide+kernel) rfl)) bX))
  (aJ (kc Q.aR.cl Q.bJ (ba.nm 0) (sU (Nc:=["row"]) (a5.look (ai bY) ["self","rows"] (by decide+kernel)) (dB (bE (lW e) (pG e) (hr.mono (by decide)) (aa (c8 dy (aa (ba.nm 1) aj) B.dq rfl cN (ba.d 0) (ba.g 0)) aj) (ba.d 1) (ba.g 1))) (fun _ _ _ _=>(cB (show(["row"]:List Str).Nodup by decide+kernel) (by first|exact Or.inl rfl|exact Or.inr rfl) (by first|exact .inl rfl|exact .inr rfl))) (fun _ _ _ _=>bV) (fun _ _ _ _=>(fA my (aa cL aj) B.kJ rfl iZ (by decide+kernel) rfl)) bX)))))) pw
theorem gg:MethAt (KX w.params) ay "take" "Bench.take" fw ["self","k","times","other"] 82 (Hd.fd fw "take" "Bench.take" dQ 81):=Hd.Lk (by kernel_rfl) fun _ _ _ _ _ _ _ _ _ _=>rfl
theorem oj:bf PW w (KX w.params) mg base cz 2 82 (Hd.fd fw "take" "Bench.take" dQ 81) ["self","k","times","other"] (cH iK):=by
 have B:=Bt e;have Q:=Qt e
 exact cw (N:=iJ) (gg e).fn t9 (fun cdv A outer s H E hr=>(av (eB (bE (oU e) (sx e) (hr.mono (by decide)) (aa (bx (cn Q.aR.cl Q.bA (aP.nm 0)) (aP.nm 1)) (aa (kX (aP.nm 2)) (aa (bx (cn Q.aR.cl Q.bA (aP.nm 0)) (aP.nm 3)) aj))) (aP.d 0) (aP.g 0)) (cn Q.aR.cl Q.bA (aP.nm 0)) (aP.nm 1))
  (av (eB (bE (oU e) (sx e) (hr.mono (by decide)) (aa (bx (cn Q.aR.cl Q.cV (aP.nm 0)) (aP.nm 1)) (aa (kX (aP.nm 2)) (aa (bx (cn Q.aR.cl Q.cV (aP.nm 0)) (aP.nm 3)) aj))) (aP.d 0) (aP.g 0)) (cn Q.aR.cl Q.cV (aP.nm 0)) (aP.nm 1))
  (aJ (eB (bE (oU e) (sx e) (hr.mono (by decide)) (aa (bx (cn Q.aR.cl Q.bJ (aP.nm 0)) (aP.nm 3)) (aa (aP.nm 2) (aa (bx (cn Q.aR.cl Q.bJ (aP.nm 0)) (aP.nm 1)) aj))) (aP.d 0) (aP.g 0)) (cn Q.aR.cl Q.bJ (aP.nm 0)) (aP.nm 3)))))) ud
theorem h9:MethAt (KX w.params) ay "exchange" "Bench.exchange" dc ["self","k","other"] 89 (Hd.fd dc "exchange" "Bench.exchange" dQ 88):=Hd.CQ (by kernel_rfl) fun _ _ _ _ _ _ _ _ _=>rfl
theorem pY:bf PW w (KX w.params) mg base cz 2 89 (Hd.fd dc "exchange" "Bench.exchange" dQ 88) ["self","k","other"] (cH ip):=by
 have B:=Bt e;have Q:=Qt e
 exact cw (N:=fN) (h9 e).fn pD (fun cdv A outer s H E hr=>(av (kc Q.aR.cl Q.bA (aT.nm 0) (bE (jr e) (lV e) (hr.mono (by decide)) (aa (cn Q.aR.cl Q.bA (aT.nm 0)) (aa (aT.nm 1) (aa (aT.nm 2) aj))) (aT.d 0) (aT.g 0)))
  (av (kc Q.aR.cl Q.cV (aT.nm 0) (bE (jr e) (lV e) (hr.mono (by decide)) (aa (cn Q.aR.cl Q.cV (aT.nm 0)) (aa (aT.nm 1) (aa (aT.nm 2) aj))) (aT.d 0) (aT.g 0)))
  (aJ (kc Q.aR.cl Q.bJ (aT.nm 0) (bE (jr e) (lV e) (hr.mono (by decide)) (aa (cn Q.aR.cl Q.bJ (aT.nm 0)) (aa (aT.nm 1) (aa (aT.nm 2) aj))) (aT.d 0) (aT.g 0))))))) pk
theorem f9:MethAt (KX w.params) ay "change_sign" "Bench.change_sign" cF ["self","k"] 96 (Hd.fd cF "change_sign" "Bench.change_sign" dQ 95):=Hd.Kq (by kernel_rfl) fun _ _ _ _ _ _ _ _=>rfl
theorem nv:bf PW w (KX w.params) mg base cz 2 96 (Hd.fd cF "change_sign" "Bench.change_sign" dQ 95) ["self","k"] (cH fX):=by
 have B:=Bt e;have Q:=Qt e
 exact cw (N:=eJ) (f9 e).fn mQ (fun cdv A outer s H E hr=>(av (eB (bE (kZ e) (nO e) (hr.mono (by decide)) (aa (bx (cn Q.aR.cl Q.bA (aN.nm 0)) (aN.nm 1)) aj) (aN.d 0) (aN.g 0)) (cn Q.aR.cl Q.bA (aN.nm 0)) (aN.nm 1))
  (av (eB (bE (kZ e) (nO e) (hr.mono (by decide)) (aa (bx (cn Q.aR.cl Q.cV (aN.nm 0)) (aN.nm 1)) aj) (aN.d 0) (aN.g 0)) (cn Q.aR.cl Q.cV (aN.nm 0)) (aN.nm 1))
  (aJ (eB (bE (kZ e) (nO e) (hr.mono (by decide)) (aa (bx (cn Q.aR.cl Q.bJ (aN.nm 0)) (aN.nm 1)) aj) (aN.d 0) (aN.g 0)) (cn Q.aR.cl Q.bJ (aN.nm 0)) (aN.nm 1)))))) m7
theorem fo:MethAt (KX w.params) ay "live_rows" "Bench.live_rows" cg ["self","top","place"] 101 (Hd.fd cg "live_rows" "Bench.live_rows" dQ 100):=Hd.CQ (by kernel_rfl) fun _ _ _ _ _ _ _ _ _=>rfl
theorem jV:bf PW w (KX w.params) mg base cz 3 101 (Hd.fd cg "live_rows" "Bench.live_rows" dQ 100) ["self","top","place"] (cH fm):=by
 have B:=Bt e;have Q:=Qt e;have hC:PySem.W.codeHdIn (KX w.params) 100 98=true:=by kernel_rfl
 exact GX (N:=fk) (Hd.fc (by kernel_rfl)) jD (fun A outer s H E hr=>(av (sv jD.nd (cf.l 3) (Nc:=["k","self","place"]) (a5.look (ai cg) ["self","top","place","live"] (by decide+kernel)) (wF (cf.g 1) B.d8 (aa (cf.nm 1) (aa (c8 dy (aa (cn Q.aR.cl Q.bA (cf.nm 0)) aj) B.dq rfl cN (cf.d 0) (cf.g 0)) aj))) (fun _ _ _ _=>(cB (show(["k","self","place"]:List Str).Nodup by decide+kernel) (by first|exact Or.inl rfl|exact Or.inr rfl) (by first|exact .inl rfl|exact .inr rfl))) (fun _ _ _ _=>(Gx (cy K9 (bS _) (bx (bx (cn Q.aR.cl Q.bA cL) cL) cL) au))) (fun _ _ _ _=>cL) bX)
  (aJ (bD (D3 (c0:=100) (jW.look (Nc:=["k","self","place"]) (fr:=[none,some 0,some 2]) (p:="k") (a5.look (ai cg) ["self","top","place","live"] (by decide+kernel))) rfl hr rfl hC (fun _ _ _ _=>(c8 Iw (aa (bx (bx (cn Q.aR.cl Q.bA cL) cL) cL) aj) B.JH rfl F3 (by decide+kernel) rfl)) (cf.nm 3) (cf.g 2) B.BF))))) nM
theorem jb:MethAt (KX w.params) ay "gather" "Bench.gather" d9 ["self","top","place"] 108 (Hd.fd d9 "gather" "Bench.gather" dQ 107):=Hd.CQ (by kernel_rfl) fun _ _ _ _ _ _ _ _ _=>rfl
theorem sJ:bf PW w (KX w.params) mg base cz 4 108 (Hd.fd d9 "gather" "Bench.gather" dQ 107) ["self","top","place"] (cH iY):=by
 have B:=Bt e;have Q:=Qt e
 exact cw (N:=gE) (jb e).fn eR (fun cdv A outer s H E hr=>(av (aW eR.nd (aw.l 3) (jE (aw.nm 0) Q.aR.cl (fo e).me (jV e) (hr.mono (by decide)) (fo e).bd (aa (aw.nm 1) (aa (aw.nm 2) aj))))
  (av (Bi (cy qi (bS _) (c8 dy (aa (aw.nm 3) aj) B.dq rfl cN (aw.d 0) (aw.g 0)) au) (av (aW eR.nd (aw.l 4) (bx (aw.nm 3) (kX au)))
  (av (aW eR.nd (aw.l 5) (bx (aw.nm 3) (kX au)))
  (av (d6 (jE (aw.nm 0) Q.aR.cl (gg e).me (oj e) (hr.mono (by decide)) (gg e).bd (aa (aw.nm 4) (aa (bE (jC e) (nC e) (hr.mono (by decide)) (aa (bx (bx (cn Q.aR.cl Q.bA (aw.nm 0)) (aw.nm 4)) (aw.nm 2)) (aa (bx (bx (cn Q.aR.cl Q.bA (aw.nm 0)) (aw.nm 5)) (aw.nm 2)) aj)) (aw.d 1) (aw.g 1)) (aa (aw.nm 5) aj)))))
  (aJ (aW eR.nd (aw.l 3) (jE (aw.nm 0) Q.aR.cl (fo e).me (jV e) (hr.mono (by decide)) (fo e).bd (aa (aw.nm 1) (aa (aw.nm 2) aj)))))))))
  (av (eH (cy (qj hr) (bS _) (c8 dy (aa (aw.nm 3) aj) B.dq rfl cN (aw.d 0) (aw.g 0)) au) (aJ (bD mG)) dO)
  (av (d6 (jE (aw.nm 0) Q.aR.cl (h9 e).me (pY e) (hr.mono (by decide)) (h9 e).bd (aa (aw.nm 1) (aa (bx (aw.nm 3) au) aj))))
  (av (eH (cy zr (bS _) (bx (bx (cn Q.aR.cl Q.bA (aw.nm 0)) (aw.nm 1)) (aw.nm 2)) au) (aJ (d6 (jE (aw.nm 0) Q.aR.cl (f9 e).me (nv e) (hr.mono (by decide)) (f9 e).bd (aa (aw.nm 1) aj)))) dO)
  (aJ (bD mG)))))))) qS
theorem fZ:MethAt (KX w.params) ay "lower_above" "Bench.lower_above" cE ["self","top","place"] 115 (Hd.fd cE "lower_above" "Bench.lower_above" dQ 114):=Hd.CQ (by kernel_rfl) fun _ _ _ _ _ _ _ _ _=>rfl
theorem nt:bf PW w (KX w.params) mg base cz 3 115 (Hd.fd cE "lower_above" "Bench.lower_above" dQ 114) ["self","top","place"] (cH fY):=by
 have B:=Bt e;have Q:=Qt e;exact cw (N:=eF) (fZ e).fn dX (fun cdv A outer s H E hr=>(aJ (e_ (eD (br.g 0) B.d8 (aa (br.nm 1) aj)) (cB dX.nd (by first|exact Or.inl rfl|exact Or.inr rfl) (by first|exact .inl rfl|exact .inr rfl)) (aJ (d6 (jE (br.nm 0) Q.aR.cl (gg e).me (oj e) (hr.mono (by decide)) (gg e).bd (aa (br.nm 3) (aa (bB (xm hr rfl dX.gen dX.co) (bx (bx (cn Q.aR.cl Q.bA (br.nm 0)) (br.nm 3)) (br.nm 2)) (bx (bx (cn Q.aR.cl Q.bA (br.nm 0)) (br.nm 1)) (br.nm 2))) (aa (br.nm 1) aj))))))))) mI
theorem q_:cm (KX w.params) mg "standing" "standing" gQ ["rows"] 129 (Hd.fd gQ "standing" "standing" dQ 128):=Hd.pF e.X e.G (by kernel_rfl) fun _ _ _ _ _ _ _=>rfl
theorem xY:bf PW w (KX w.params) mg base cz 5 129 (Hd.fd gQ "standing" "standing" dQ 128) ["rows"] (cH mM):=by
 have B:=Bt e;have Q:=Qt e
 exact cw (N:=j5) (q_ e).fn fT (fun cdv A outer s H E hr=>(av (aW fT.nd (aS.l 1) (Hw ⟨Q.aR.Ly,(fK e).me.at_,(fK e).me.fn,Q.aR.kp⟩ (qo e) (hr.mono (by decide)) (aS.g 0) Q.aR.mg (fK e).bd (aa (aS.nm 0) aj) (aS.d 0)))
  (av (aW fT.nd (aS.l 2) au)
  (av (e_ (eD (aS.g 2) B.d8 (aa (c8 dy (aa (bx (aS.nm 0) au) aj) B.dq rfl cN (aS.d 1) (aS.g 1)) aj)) (cB fT.nd (by first|exact Or.inl rfl|exact Or.inr rfl) (by first|exact .inl rfl|exact .inr rfl)) (aJ (eH (kO (jE (aS.nm 1) Q.aR.cl (jb e).me (sJ e) (hr.mono (by decide)) (jb e).bd (aa (aS.nm 2) (aa (aS.nm 3) aj)))) (av (d6 (jE (aS.nm 1) Q.aR.cl (fZ e).me (nt e) (hr.mono (by decide)) (fZ e).bd (aa (aS.nm 2) (aa (aS.nm 3) aj))))
  (aJ (HE fT.nd (aS.l 2) au GK))) dO)))
  (av (aW fT.nd (aS.l 4) (bE (nj e) (uc e) (hr.mono (by decide)) (aa (cn Q.aR.cl Q.bJ (aS.nm 1)) (aa (c8 dy (aa (aS.nm 0) aj) B.dq rfl cN (aS.d 1) (aS.g 1)) aj)) (aS.d 3) (aS.g 3)))
  (aJ (bD (j8 (aa (bE (nX e) (tK e) (hr.mono (by decide)) (aa (Fq (cn Q.aR.cl Q.bA (aS.nm 1)) D5 (Fm (aS.nm 2))) aj) (aS.d 4) (aS.g 4)) (aa (bE (nX e) (tK e) (hr.mono (by decide)) (aa (cn Q.aR.cl Q.cV (aS.nm 1)) aj) (aS.d 4) (aS.g 4)) (aa (aS.nm 4) aj))))))))))) wX
theorem s_:cm (KX w.params) mg "form_of" "form_of" iB ["rows"] 192 (Hd.fd iB "form_of" "form_of" qZ 191):=Hd.pF e.X e.G (by kernel_rfl) fun _ _ _ _ _ _ _=>rfl
theorem Ad:bf PW w (KX w.params) mg base cz 6 192 (Hd.fd iB "form_of" "form_of" qZ 191) ["rows"] (cH ot):=by
 have B:=Bt e;have Q:=Qt e;exact cw (N:=k9) (s_ e).fn yd (fun cdv A outer s H E hr=>(aJ (bD (bx (bE (q_ e) (xY e) (hr.mono (by decide)) (aa (om.nm 0) aj) (om.d 0) (om.g 0)) au)))) yQ
theorem lE:cm (KX w.params) mg "longer_by_one" "longer_by_one" cT ["rows","bound"] 197 (Hd.fd cT "longer_by_one" "longer_by_one" qZ 196):=Hd.nZ e.X e.G (by kernel_rfl) fun _ _ _ _ _ _ _ _=>rfl
theorem rm:bf PW w (KX w.params) mg base cz 1 197 (Hd.fd cT "longer_by_one" "longer_by_one" qZ 196) ["rows","bound"] (cH iR):=by
 have B:=Bt e;have Q:=Qt e
 exact cw (N:=gc) (lE e).fn hV (fun cdv A outer s H E hr=>(av (aW hV.nd (du.l 2) (qO aj))
  (av (e_ (dB (du.nm 0)) (cB hV.nd (by first|exact Or.inl rfl|exact Or.inr rfl) (by first|exact .inl rfl|exact .inr rfl)) (aJ (d6 (Di (du.nm 2) (dJ (Nc:=["number","row"]) (a5.look (ai cT) ["rows","bound","longer","row"] (by decide+kernel)) (eD (du.g 0) B.d8 (aa (du.nm 1) aj)) (fun _ _ _ _=>(cB (show(["number","row"]:List Str).Nodup by decide+kernel) (by first|exact Or.inl rfl|exact Or.inr rfl) (by first|exact .inl rfl|exact .inr rfl))) (fun _ _ _ _=>bV) (fun _ _ _ _=>(bB dU cL (j8 (aa cL aj)))) bX)))))
  (aJ (bD (du.nm 2)))))) qk
theorem gY:cm (KX w.params) mg "all_rests" "all_rests" fi ["rows"] 202 (Hd.fd fi "all_rests" "all_rests" qZ 201):=Hd.pF e.X e.G (by kernel_rfl) fun _ _ _ _ _ _ _=>rfl
theorem pK:bf PW w (KX w.params) mg base (iP PW w) 7 202 (Hd.fd fi "all_rests" "all_rests" qZ 201) ["rows"] (vW jq):=by
 have B:=Bt e;have Q:=Qt e;have Y:=Yt e;have Z:=Zt e
 exact Hr (N:=jj) (gY e).fn cZ (fun cdv A outer s H E hr=>(gh (lG (aW cZ.nd (aM.l 1) (bE (s_ e) (Ad e) (hr.mono (by decide)) (aa (aM.nm 0) aj) (aM.d 0) (aM.g 0))))
  (gh (lG (eH (cy zr (bS _) (c8 dy (aa (aM.nm 1) aj) B.dq rfl cN (aM.d 1) (aM.g 1)) (c8 dy (aa (bx (aM.nm 0) au) aj) B.dq rfl cN (aM.d 1) (aM.g 1))) (aJ (bD xZ)) dO))
  (gh (lG (sv cZ.nd (aM.l 2) (Nc:=["k","row"]) (a5.look (ai fi) ["rows","form","bounds","count","bound","rests"] (by decide+kernel)) (HL (aM.g 2) B.wU (aa (aM.nm 1) aj)) (fun _ _ _ _=>(um rfl (show(["k","row"]:List Str).Nodup by decide+kernel) (by first|exact Or.inl rfl|exact Or.inr rfl) (by first|exact .inl rfl|exact .inr rfl) (by first|exact Or.inl rfl|exact Or.inr rfl) (by first|exact .inl rfl|exact .inr rfl))) (fun _ _ _ _=>bV) (fun _ _ _ _=>(bx cL cL)) o9))
  (gh (lG (aW cZ.nd (aM.l 3) au))
  (gh (lG (e_ (dB (aM.nm 2)) (cB cZ.nd (by first|exact Or.inl rfl|exact Or.inr rfl) (by first|exact .inl rfl|exact .inr rfl)) (aJ (aW cZ.nd (aM.l 3) (bB ft (aM.nm 3) (aM.nm 4))))))
  (gh (IF (cy qi (bS _) (aM.nm 3) (Fd Z.uF (aM.d 3) (aM.g 3))) (xr (BZ Y.td Y.tH (aa CK aj) (aM.d 4) (aM.g 4))) E9)
  (gh (lG (aW cZ.nd (aM.l 5) (dW (aa (j8 aj) aj))))
  (gh (lG (e_ (dB (aM.nm 2)) (cB cZ.nd (by first|exact Or.inl rfl|exact Or.inr rfl) (by first|exact .inl rfl|exact .inr rfl)) (aJ (aW cZ.nd (aM.l 5) (bE (lE e) (rm e) (hr.mono (by decide)) (aa (aM.nm 5) (aa (aM.nm 4) aj)) (aM.d 5) (aM.g 5))))))
  (xr (lG (bD (fA eQ (aa (aM.nm 5) aj) B.dz rfl cR (aM.d 6) (aM.g 6)))))))))))))) uK
theorem oG:cm (KX w.params) mg "_law_source" "_law_source" fv ["_law_script","_law_k"] 209 (Hd.fd fv "_law_source" "_law_source" eC 208):=Hd.nZ e.X e.G (by kernel_rfl) fun _ _ _ _ _ _ _ _=>rfl
theorem vO:bf PW w (KX w.params) mg base cz 1 209 (Hd.fd fv "_law_source" "_law_source" eC 208) ["_law_script","_law_k"] (cH kQ):=by
 have B:=Bt e;have Q:=Qt e
 exact cw (N:=iI) (oG e).fn jO (fun cdv A outer s H E hr=>(av (aW jO.nd (bH.l 2) au)
  (av (eH (cy qi (bS _) (c8 dy (aa (bH.nm 0) aj) B.dq rfl cN (bH.d 0) (bH.g 0)) au) (aJ (aW jO.nd (bH.l 2) (bx (bH.nm 0) (bB m4 (bH.nm 1) (c8 dy (aa (bH.nm 0) aj) B.dq rfl cN (bH.d 0) (bH.g 0)))))) dO)
  (aJ (bD (qO (aa (bB ft (bH.nm 2) (fA Ic (aa (zu KQ (bS _) (bH.nm 2) (bB x8 au au)) aj) B.IS rfl GP (bH.d 1) (bH.g 1))) (aa (bH.nm 2) (aa (bB ft au (bH.nm 1)) aj))))))))) ug
theorem bb:cm (KX w.params) mg "_law_take" "_law_take" gD ["_law_source_here","_law_many"] 216 (Hd.fd gD "_law_take" "_law_take" eC 215):=Hd.nZ e.X e.G (by kernel_rfl) fun _ _ _ _ _ _ _ _=>rfl
theorem bq:bf PW w (KX w.params) mg base cz 1 216 (Hd.fd gD "_law_take" "_law_take" eC 215) ["_law_source_here","_law_many"] (cH a6):=by
 have B:=Bt e;have Q:=Qt e
 exact cw (N:=ka) (bb e).fn jv (fun cdv A outer s H E hr=>(av (eH (cy qi (bS _) (bx (bK.nm 0) au) au) (av (aW jv.nd (bK.l 2) (bB m4 (bx (bK.nm 0) au) (bK.nm 1)))
  (av (eB (bB u0 (bx (bK.nm 0) au) (bK.nm 1)) (bK.nm 0) au)
  (aJ (bD (bK.nm 2))))) dO)
  (av (eB (bB dU (bx (bK.nm 0) au) au) (bK.nm 0) au)
  (av (aW jv.nd (bK.l 3) (bB m4 (bB ft (bB dU (bB dU (bB m4 (bx (bK.nm 0) au) au) (bB ft au (bx (bK.nm 0) au))) au) au) au))
  (av (aW jv.nd (bK.l 3) (bB dU (bB m4 (bB ft (bK.nm 3) (bK.nm 3)) au) (bB ft au (bx (bK.nm 0) au))))
  (aJ (bD (bB m4 (bB u0 (bB m4 (bB ft (bK.nm 3) au) au) au) (bK.nm 1))))))))) wY
theorem oF:cm (KX w.params) mg "_law_turned" "_law_turned" cJ ["_law_source_here","_law_rows"] 221 (Hd.fd cJ "_law_turned" "_law_turned" eC 220):=Hd.nZ e.X e.G (by kernel_rfl) fun _ _ _ _ _ _ _ _=>rfl
theorem vn:bf PW w (KX w.params) mg base cz 2 221 (Hd.fd cJ "_law_turned" "_law_turned" eC 220) ["_law_source_here","_law_rows"] (cH ky):=by
 have B:=Bt e;have Q:=Qt e
 exact cw (N:=iS) (oF e).fn dF (fun cdv A outer s H E hr=>(av (Bq dF.nd (ao.l 2) (Nc:=["_law_row"]) (a5.look (ai cJ) ["_law_source_here","_law_rows","_law_made","_law_k","_law_i","_law_j","_law_how","_law_by"] (by decide+kernel)) (dB (ao.nm 1)) (fun _ _ _ _=>(cB (show(["_law_row"]:List Str).Nodup by decide+kernel) (by first|exact Or.inl rfl|exact Or.inr rfl) (by first|exact .inl rfl|exact .inr rfl))) (fun _ _ _ _=>bV) (fun _ _ _ _=>(fA my (aa cL aj) B.kJ rfl iZ (by decide+kernel) rfl)) bX)
  (av (e_ (eD (ao.g 1) B.d8 (aa (bE (bb e) (bq e) (hr.mono (by decide)) (aa (ao.nm 0) (aa au aj)) (ao.d 0) (ao.g 0)) aj)) (cB dF.nd (by first|exact Or.inl rfl|exact Or.inr rfl) (by first|exact .inl rfl|exact .inr rfl)) (av (aW dF.nd (ao.l 4) (bE (bb e) (bq e) (hr.mono (by decide)) (aa (ao.nm 0) (aa (c8 dy (aa (ao.nm 2) aj) B.dq rfl cN (ao.d 2) (ao.g 2)) aj)) (ao.d 0) (ao.g 0)))
  (av (aW dF.nd (ao.l 5) (bE (bb e) (bq e) (hr.mono (by decide)) (aa (ao.nm 0) (aa (c8 dy (aa (ao.nm 2) aj) B.dq rfl cN (ao.d 2) (ao.g 2)) aj)) (ao.d 0) (ao.g 0)))
  (av (aW dF.nd (ao.l 6) (bE (bb e) (bq e) (hr.mono (by decide)) (aa (ao.nm 0) (aa au aj)) (ao.d 0) (ao.g 0)))
  (aJ (eH (cy (qj hr) (bS _) (ao.nm 4) (ao.nm 5)) (aJ (tx (dJ (Nc:=["_law_one"]) (a5.look (ai cJ) ["_law_source_here","_law_rows","_law_made","_law_k","_law_i","_law_j","_law_how","_law_by"] (by decide+kernel)) (dB (bx (ao.nm 2) (ao.nm 4))) (fun _ _ _ _=>(cB (show(["_law_one"]:List Str).Nodup by decide+kernel) (by first|exact Or.inl rfl|exact Or.inr rfl) (by first|exact .inl rfl|exact .inr rfl))) (fun _ _ _ _=>bV) (fun _ _ _ _=>(kX cL)) bX) (ao.nm 2) (ao.nm 4))) (aJ (eH (cy (qj hr) (bS _) (ao.nm 6) au) (aJ (Eu (ao.nm 2) (ao.nm 4) (ao.nm 2) (ao.nm 5) (j8 (aa (bx (ao.nm 2) (ao.nm 5)) (aa (bx (ao.nm 2) (ao.nm 4)) aj))))) (av (aW dF.nd (ao.l 7) (bx (dW (aa au (aa (kX au) (aa au (aa (kX au) aj))))) (bE (bb e) (bq e) (hr.mono (by decide)) (aa (ao.nm 0) (aa au aj)) (ao.d 0) (ao.g 0))))
  (aJ (tx (dJ (Nc:=["_law_one","_law_other","_law_by"]) (a5.look (ai cJ) ["_law_source_here","_law_rows","_law_made","_law_k","_law_i","_law_j","_law_how","_law_by"] (by decide+kernel)) (zc (ao.g 3) B.yU (aa (bx (ao.nm 2) (ao.nm 4)) (aa (bx (ao.nm 2) (ao.nm 5)) aj))) (fun _ _ _ _=>(um rfl (show(["_law_one","_law_other","_law_by"]:List Str).Nodup by decide+kernel) (by first|exact Or.inl rfl|exact Or.inr rfl) (by first|exact .inl rfl|exact .inr rfl) (by first|exact Or.inl rfl|exact Or.inr rfl) (by first|exact .inl rfl|exact .inr rfl))) (fun _ _ _ _=>bV) (fun _ _ _ _=>(bB dU cL (bB ft cL cL))) o9) (ao.nm 2) (ao.nm 4))))))))))))
  (aJ (bD (fA eQ (aa (dJ (Nc:=["_law_row"]) (a5.look (ai cJ) ["_law_source_here","_law_rows","_law_made","_law_k","_law_i","_law_j","_law_how","_law_by"] (by decide+kernel)) (dB (ao.nm 2)) (fun _ _ _ _=>(cB (show(["_law_row"]:List Str).Nodup by decide+kernel) (by first|exact Or.inl rfl|exact Or.inr rfl) (by first|exact .inl rfl|exact .inr rfl))) (fun _ _ _ _=>bV) (fun _ _ _ _=>(fA eQ (aa cL aj) B.dz rfl cR (by decide+kernel) rfl)) bX) aj) B.dz rfl cR (ao.d 4) (ao.g 4))))))) ue
theorem rO:cm (KX w.params) mg "_law_form" "_law_form" gO ["_law_source_here","_law_leads_here"] 228 (Hd.fd gO "_law_form" "_law_form" eC 227):=Hd.nZ e.X e.G (by kernel_rfl) fun _ _ _ _ _ _ _ _=>rfl
theorem y9:bf PW w (KX w.params) mg base cz 2 228 (Hd.fd gO "_law_form" "_law_form" eC 227) ["_law_source_here","_law_leads_here"] (cH mJ):=by
 have B:=Bt e;have Q:=Qt e
 exact cw (N:=jX) (rO e).fn g0 (fun cdv A outer s H E hr=>(av (aW g0.nd (aZ.l 2) (qO aj))
  (av (e_ (eD (aZ.g 1) B.d8 (aa (c8 dy (aa (aZ.nm 1) aj) B.dq rfl cN (aZ.d 0) (aZ.g 0)) aj)) (cB g0.nd (by first|exact Or.inl rfl|exact Or.inr rfl) (by first|exact .inl rfl|exact .inr rfl)) (av (aW g0.nd (aZ.l 4) (bB FQ (bB ft (dW (aa au aj)) (aZ.nm 3)) (dW (aa (bx (aZ.nm 1) (aZ.nm 3)) aj))))
  (av (e_ (wF (aZ.g 1) B.d8 (aa (bB dU (aZ.nm 3) au) (aa (c8 dy (aa (aZ.nm 1) aj) B.dq rfl cN (aZ.d 0) (aZ.g 0)) aj))) (cB g0.nd (by first|exact Or.inl rfl|exact Or.inr rfl) (by first|exact .inl rfl|exact .inr rfl)) (aJ (d6 (jM (aZ.nm 4) (bE (bb e) (bq e) (hr.mono (by decide)) (aa (aZ.nm 0) (aa (bx (aZ.nm 1) (aZ.nm 5)) aj)) (aZ.d 2) (aZ.g 2))))))
  (aJ (d6 (jM (aZ.nm 2) (fA eQ (aa (aZ.nm 4) aj) B.dz rfl cR (aZ.d 3) (aZ.g 3))))))))
  (aJ (bD (aZ.nm 2)))))) wZ
theorem pJ:cm (KX w.params) mg "_law_leads" "_law_leads" fQ ["_law_source_here","_law_most"] 235 (Hd.fd fQ "_law_leads" "_law_leads" eC 234):=Hd.nZ e.X e.G (by kernel_rfl) fun _ _ _ _ _ _ _ _=>rfl
theorem wO:bf PW w (KX w.params) mg base cz 2 235 (Hd.fd fQ "_law_leads" "_law_leads" eC 234) ["_law_source_here","_law_most"] (cH lP):=by
 have B:=Bt e;have Q:=Qt e
 exact cw (N:=js) (pJ e).fn cK (fun cdv A outer s H E hr=>(av (aW cK.nd (aD.l 2) (bB dU au (bE (bb e) (bq e) (hr.mono (by decide)) (aa (aD.nm 0) (aa au aj)) (aD.d 0) (aD.g 0))))
  (av (eH (cy (qj hr) (bS _) (bE (bb e) (bq e) (hr.mono (by decide)) (aa (aD.nm 0) (aa au aj)) (aD.d 0) (aD.g 0)) au) (aJ (aW cK.nd (aD.l 2) (bB dU au (bE (bb e) (bq e) (hr.mono (by decide)) (aa (aD.nm 0) (aa au aj)) (aD.d 0) (aD.g 0))))) dO)
  (av (aW cK.nd (aD.l 3) (bB Hn (dW (aa au aj)) (aD.nm 2)))
  (av (e_ (eD (aD.g 1) B.d8 (aa au aj)) (cB cK.nd (by first|exact Or.inl rfl|exact Or.inr rfl) (by first|exact .inl rfl|exact .inr rfl)) (av (aW cK.nd (aD.l 5) (bE (bb e) (bq e) (hr.mono (by decide)) (aa (aD.nm 0) (aa (aD.nm 2) aj)) (aD.d 0) (aD.g 0)))
  (av (aW cK.nd (aD.l 6) (bB dU au (bE (bb e) (bq e) (hr.mono (by decide)) (aa (aD.nm 0) (aa au aj)) (aD.d 0) (aD.g 0))))
  (av (aW cK.nd (aD.l 7) (aD.nm 1))
  (av (e_ (dB (aD.nm 3)) (cB cK.nd (by first|exact Or.inl rfl|exact Or.inr rfl) (by first|exact .inl rfl|exact .inr rfl)) (aJ (aW cK.nd (aD.l 7) (bB u0 (aD.nm 7) (aD.nm 8)))))
  (aJ (eB (bB ft (bx (aD.nm 3) (aD.nm 5)) (c8 (ID rfl) (aa (aD.nm 6) (aa (c8 (IC rfl) (aa au (aa (aD.nm 7) aj)) B.Iq rfl FO (aD.d 2) (aD.g 2)) aj)) B.Ie rfl Hb (aD.d 3) (aD.g 3))) (aD.nm 3) (aD.nm 5))))))))
  (aJ (bD (aD.nm 3)))))))) v_
theorem kC:cm (KX w.params) mg "_law_some_leads" "_law_some_leads" de ["_law_source_here"] 242 (Hd.fd de "_law_some_leads" "_law_some_leads" eC 241):=Hd.pF e.X e.G (by kernel_rfl) fun _ _ _ _ _ _ _=>rfl
theorem qv:bf PW w (KX w.params) mg base cz 3 242 (Hd.fd de "_law_some_leads" "_law_some_leads" eC 241) ["_law_source_here"] (cH ik):=by
 have B:=Bt e;have Q:=Qt e
 exact cw (N:=fI) (kC e).fn gW (fun cdv A outer s H E hr=>(av (aW gW.nd (ax.l 1) (bE (bb e) (bq e) (hr.mono (by decide)) (aa (ax.nm 0) (aa au aj)) (ax.d 0) (ax.g 0)))
  (av (eH (cy qi (bS _) (ax.nm 1) au) (aJ (bD (bE (pJ e) (wO e) (hr.mono (by decide)) (aa (ax.nm 0) (aa au aj)) (ax.d 1) (ax.g 1)))) dO)
  (av (aW gW.nd (ax.l 2) (qO (aa (bx (dW (aa (dW (aa au aj)) (aa (dW (aa au (aa au aj))) (aa (dW (aa au (aa au (aa au aj)))) (aa (dW (aa au (aa au (aa au aj)))) (aa (dW (aa au (aa au (aa au (aa au (aa au (aa au (aa au aj)))))))) aj)))))) (bE (bb e) (bq e) (hr.mono (by decide)) (aa (ax.nm 0) (aa au aj)) (ax.d 0) (ax.g 0))) aj)))
  (av (d6 (jM (ax.nm 2) (bx (dW (aa (dW (aa au aj)) (aa (dW (aa au (aa au aj))) (aa (dW (aa au (aa au aj))) (aa (dW (aa au (aa au (aa au aj)))) aj))))) (bE (bb e) (bq e) (hr.mono (by decide)) (aa (ax.nm 0) (aa au aj)) (ax.d 0) (ax.g 0)))))
  (av (d6 (jM (ax.nm 2) (dW (aa (bB dU au (bE (bb e) (bq e) (hr.mono (by decide)) (aa (ax.nm 0) (aa au aj)) (ax.d 0) (ax.g 0))) (aa (bB dU au (bE (bb e) (bq e) (hr.mono (by decide)) (aa (ax.nm 0) (aa au aj)) (ax.d 0) (ax.g 0))) (aa (bB dU au (bE (bb e) (bq e) (hr.mono (by decide)) (aa (ax.nm 0) (aa au aj)) (ax.d 0) (ax.g 0))) aj))))))
  (av (d6 (jM (ax.nm 2) (dW (aa au (aa (bB dU (bB x8 au au) (bE (bb e) (bq e) (hr.mono (by decide)) (aa (ax.nm 0) (aa (bB x8 au au) aj)) (ax.d 0) (ax.g 0))) aj)))))
  (aJ (bD (bx (ax.nm 2) (ax.nm 1))))))))))) pA
theorem sZ:cm (KX w.params) mg "_law_due" "_law_due" gd ["_law_leads_here"] 247 (Hd.fd gd "_law_due" "_law_due" eC 246):=Hd.pF e.X e.G (by kernel_rfl) fun _ _ _ _ _ _ _=>rfl
theorem zJ:bf PW w (KX w.params) mg base cz 1 247 (Hd.fd gd "_law_due" "_law_due" eC 246) ["_law_leads_here"] (cH nW):=by
 have B:=Bt e;have Q:=Qt e
 exact cw (N:=kW) (sZ e).fn gM (fun cdv A outer s H E hr=>(av (aW gM.nd (c5.l 1) (dW (aa (j8 aj) aj)))
  (av (e_ (dB (c5.nm 0)) (cB gM.nd (by first|exact Or.inl rfl|exact Or.inr rfl) (by first|exact .inl rfl|exact .inr rfl)) (av (aW gM.nd (c5.l 3) (qO aj))
  (av (e_ (dB (c5.nm 1)) (cB gM.nd (by first|exact Or.inl rfl|exact Or.inr rfl) (by first|exact .inl rfl|exact .inr rfl)) (aJ (d6 (Di (c5.nm 3) (dJ (Nc:=["_law_number","_law_rest"]) (a5.look (ai gd) ["_law_leads_here","_law_rests","_law_lead","_law_longer","_law_rest"] (by decide+kernel)) (eD (c5.g 0) B.d8 (aa (c5.nm 2) aj)) (fun _ _ _ _=>(cB (show(["_law_number","_law_rest"]:List Str).Nodup by decide+kernel) (by first|exact Or.inl rfl|exact Or.inr rfl) (by first|exact .inl rfl|exact .inr rfl))) (fun _ _ _ _=>bV) (fun _ _ _ _=>(bB dU cL (j8 (aa cL aj)))) bX)))))
  (aJ (aW gM.nd (c5.l 1) (c5.nm 3))))))
  (aJ (bD (fA eQ (aa (c5.nm 1) aj) B.dz rfl cR (c5.d 1) (c5.g 1))))))) yj
theorem qR:cm (KX w.params) mg "_law_told" "_law_told" gN ["_law_rows"] 254 (Hd.fd gN "_law_told" "_law_told" eC 253):=Hd.pF e.X e.G (by kernel_rfl) fun _ _ _ _ _ _ _=>rfl
theorem yp:bf PW w (KX w.params) mg base cz 8 254 (Hd.fd gN "_law_told" "_law_told" eC 253) ["_law_rows"] (cH qT):=by
 have B:=Bt e;have Y:=Yt e;refine(qR e).fn.ok jn (fun vs H Q E h=>?_) fun cdv A outer s H vs Q E hr h=>⟨_,?_,E3 (K:=KX w.params) (L:=i4) (T:=iE) (c2:=nJ) (c3:=tw) Y.td (by kernel_rfl) (by kernel_rfl) (by kernel_rfl) (by kernel_rfl) (by kernel_rfl) h rfl⟩
 . obtain⟨α,ds,st,K,G,F,P,r,S,⟨d,rfl,q⟩,k⟩:=h;rw[<-r.length];rfl
 . refine ia (qD jn.nd rfl (.inl rfl) vA) (ia (qD jn.nd rfl (.inl rfl) vA) (ia (HJ jn.nd rfl rfl (pK e) (hr.mono (by decide)) (cS.g 0) (gY e).mg (gY e).fn.kp (gY e).bd (fU (pv 0) md) Y.r8 (cS.g 1) Y.sS rfl rfl rfl rfl rfl rfl (cS.d 0) (cS.d 1)) (ia (uy (Gp (Fv (pv 2))) (l7 (rD (pv 1))) rV)
    (ia (uy (PW.pt (pw_or (vh (qV (m_ ye (cS.g 2) B.fB rfl (fU (pv 2) (fU (o7 (cS.g 3) Y.tH rfl) md)))))
      (pw_or (vh (qV (m_ ye (cS.g 2) B.fB rfl (fU (pv 2) (fU (xJ (cS.g 4) B.vT rfl rfl) md)))))
        (pw_or1 (qV (m_ ye (cS.g 2) B.fB rfl (fU (pv 2) (fU (A3 (fU (o7 (cS.g 5) Y.AG rfl) (fU (o7 (cS.g 6) Y.A4 rfl) md))) md))))))))
      (l7 (rD wm)) rV) (l7 (rD wm))))))
theorem rl:cm (KX w.params) mg "_law_same" "_law_same" fM ["_law_found","_law_due_here"] 259 (Hd.fd fM "_law_same" "_law_same" eC 258):=Hd.nZ e.X e.G (by kernel_rfl) fun _ _ _ _ _ _ _ _=>rfl
theorem yb:bf PW w (KX w.params) mg base cz 1 259 (Hd.fd fM "_law_same" "_law_same" eC 258) ["_law_found","_law_due_here"] (cH mE):=by
 have B:=Bt e;have Q:=Qt e
 exact cw (N:=j4) (rl e).fn wV (fun cdv A outer s H E hr=>(av (eH (qU (Jp (rK (kO (c8 zo (aa (dh.nm 0) (aa (BD B.dz rfl cR (dh.d 0) (dh.g 0)) aj)) B.fB rfl jP (dh.d 1) (dh.g 1)))) (FF (cy (yc hr) (bS _) (dh.nm 0) (dh.nm 1))))) (aJ (bD mG)) dO)
  (aJ (bD (c8 (C1 rfl) (aa (dJ (Nc:=["_law_row"]) (a5.look (ai fM) ["_law_found","_law_due_here"] (by decide+kernel)) (dB (dh.nm 0)) (fun _ _ _ _=>(cB (show(["_law_row"]:List Str).Nodup by decide+kernel) (by first|exact Or.inl rfl|exact Or.inr rfl) (by first|exact .inl rfl|exact .inr rfl))) (fun _ _ _ _=>bV) (fun _ _ _ _=>(C5 (c8 zo (aa cL (aa (BD B.dz rfl cR (by decide+kernel) rfl) aj)) B.fB rfl jP (by decide+kernel) rfl) (CL (c8 (C1 rfl) (aa (dJ (Nc:=["_law_one"]) (a5.Jv (by decide+kernel)) (dB cL) (fun _ _ _ _=>(cB (show(["_law_one"]:List Str).Nodup by decide+kernel) (by first|exact Or.inl rfl|exact Or.inr rfl) (by first|exact .inl rfl|exact .inr rfl))) (fun _ _ _ _=>bV) (fun _ _ _ _=>(IK (c8 zo (aa cL (aa (BD B.G8 rfl EZ (by decide+kernel) rfl) aj)) B.fB rfl jP (by decide+kernel) rfl))) bX) aj) B.Dk rfl AF (by decide+kernel) rfl)))) bX) aj) B.Dk rfl AF (dh.d 2) (dh.g 2)))))) wI
theorem Ip:cm (KX w.params) mg "law" "law" gK ["_law_script"] 264 (Hd.fd gK "law" "law" eC 263):=Hd.pF e.X e.G (by kernel_rfl) fun _ _ _ _ _ _ _=>rfl
theorem Jc:bf PW w (KX w.params) mg base cz 9 264 (Hd.fd gK "law" "law" eC 263) ["_law_script"] (cH C2):=by
 have B:=Bt e;have Q:=Qt e
 exact cw (N:=uB) (Ip e).fn eV (fun cdv A outer s H E hr=>(av (e_ (eD (aF.g 0) B.d8 (aa au aj)) (cB eV.nd (by first|exact Or.inl rfl|exact Or.inr rfl) (by first|exact .inl rfl|exact .inr rfl)) (av (aW eV.nd (aF.l 2) (bE (oG e) (vO e) (hr.mono (by decide)) (aa (aF.nm 0) (aa (aF.nm 1) aj)) (aF.d 1) (aF.g 1)))
  (av (aW eV.nd (aF.l 3) (bE (kC e) (qv e) (hr.mono (by decide)) (aa (aF.nm 2) aj) (aF.d 2) (aF.g 2)))
  (av (aW eV.nd (aF.l 4) (bE (rO e) (y9 e) (hr.mono (by decide)) (aa (aF.nm 2) (aa (aF.nm 3) aj)) (aF.d 3) (aF.g 3)))
  (av (aW eV.nd (aF.l 5) (C5 (zu (qj hr) (bS _) (bE (bb e) (bq e) (hr.mono (by decide)) (aa (aF.nm 2) (aa au aj)) (aF.d 4) (aF.g 4)) au) (CL (zu qi (bS _) (c8 dy (aa (aF.nm 3) aj) B.dq rfl cN (aF.d 5) (aF.g 5)) au))))
  (av (eH (kO (aF.nm 5)) (aJ (d6 (F7 (aF.nm 4) (bE (bb e) (bq e) (hr.mono (by decide)) (aa (aF.nm 2) (aa (c8 dy (aa (aF.nm 4) aj) B.dq rfl cN (aF.d 5) (aF.g 5)) aj)) (aF.d 4) (aF.g 4))))) dO)
  (av (aW eV.nd (aF.l 6) (bE (oF e) (vn e) (hr.mono (by decide)) (aa (aF.nm 2) (aa (aF.nm 4) aj)) (aF.d 6) (aF.g 6)))
  (av (eH (qU (mj (cy (qj hr) (bS _) (bE (bb e) (bq e) (hr.mono (by decide)) (aa (aF.nm 2) (aa au aj)) (aF.d 4) (aF.g 4)) au) (oR (cy zr (bS _) (c8 dy (aa (aF.nm 6) aj) B.dq rfl cN (aF.d 5) (aF.g 5)) au)))) (av (Gk eV.nd (by decide) (show(ai gK).names.lookup ("_law_one":Str)=some .local by decide+kernel) (show(ai gK).names.lookup ("_law_other":Str)=some .local by decide+kernel) (aa (bx (aF.nm 6) au) (aa (bx (aF.nm 6) (bE (bb e) (bq e) (hr.mono (by decide)) (aa (aF.nm 2) (aa (c8 dy (aa (aF.nm 6) aj) B.dq rfl cN (aF.d 5) (aF.g 5)) aj)) (aF.d 4) (aF.g 4))) aj)))
  (aJ (aW eV.nd (aF.l 6) (bB dU (aF.nm 6) (j8 (aa (fA eQ (aa (dJ (Nc:=["_law_a","_law_b"]) (a5.look (ai gK) ["_law_script","_law_k","_law_source_here","_law_leads_here","_law_form_here","_law_lacks","_law_rows","_law_one","_law_other","_law_handed","_law_found","_law_many","_law_lead"] (by decide+kernel)) (zc (aF.g 7) B.yU (aa (aF.nm 7) (aa (aF.nm 8) aj))) (fun _ _ _ _=>(um rfl (show(["_law_a","_law_b"]:List Str).Nodup by decide+kernel) (by first|exact Or.inl rfl|exact Or.inr rfl) (by first|exact .inl rfl|exact .inr rfl) (by first|exact Or.inl rfl|exact Or.inr rfl) (by first|exact .inl rfl|exact .inr rfl))) (fun _ _ _ _=>bV) (fun _ _ _ _=>(bB dU cL cL)) o9) aj) B.dz rfl cR (aF.d 8) (aF.g 8)) aj)))))) dO)
  (av (sv eV.nd (aF.l 9) (Nc:=["_law_row"]) (a5.look (ai gK) ["_law_script","_law_k","_law_source_here","_law_leads_here","_law_form_here","_law_lacks","_law_rows","_law_one","_law_other","_law_handed","_law_found","_law_many","_law_lead"] (by decide+kernel)) (dB (aF.nm 6)) (fun _ _ _ _=>(cB (show(["_law_row"]:List Str).Nodup by decide+kernel) (by first|exact Or.inl rfl|exact Or.inr rfl) (by first|exact .inl rfl|exact .inr rfl))) (fun _ _ _ _=>bV) (fun _ _ _ _=>(fA my (aa cL aj) B.kJ rfl iZ (by decide+kernel) rfl)) bX)
  (av (aW eV.nd (aF.l 10) (bE (qR e) (yp e) (hr.mono (by decide)) (aa (aF.nm 9) aj) (aF.d 9) (aF.g 9)))
  (av (eH (cy (yc hr) (bS _) (aF.nm 9) (dJ (Nc:=["_law_row"]) (a5.look (ai gK) ["_law_script","_law_k","_law_source_here","_law_leads_here","_law_form_here","_law_lacks","_law_rows","_law_one","_law_other","_law_handed","_law_found","_law_many","_law_lead"] (by decide+kernel)) (dB (aF.nm 6)) (fun _ _ _ _=>(cB (show(["_law_row"]:List Str).Nodup by decide+kernel) (by first|exact Or.inl rfl|exact Or.inr rfl) (by first|exact .inl rfl|exact .inr rfl))) (fun _ _ _ _=>bV) (fun _ _ _ _=>(fA my (aa cL aj) B.kJ rfl iZ (by decide+kernel) rfl)) bX)) (aJ (bD mG)) dO)
  (av (aW eV.nd (aF.l 11) au)
  (av (e_ (dB (aF.nm 3)) (cB eV.nd (by first|exact Or.inl rfl|exact Or.inr rfl) (by first|exact .inl rfl|exact .inr rfl)) (aJ (aW eV.nd (aF.l 11) (bB ft (aF.nm 11) (aF.nm 12)))))
  (av (eH (qU (mj (kO (aF.nm 5)) (oR (cy A_ (bS _) (aF.nm 10) xZ)))) (aJ (bD mG)) dO)
  (av (eH (qU (mj (rK (kO (aF.nm 5))) (mj (cy qi (bS _) (aF.nm 11) au) (oR (cy (yc hr) (bS _) (aF.nm 10) CK))))) (aJ (bD mG)) dO)
  (av (eH (qU (mj (rK (kO (aF.nm 5))) (mj (cy zr (bS _) (aF.nm 11) au) (oR (rK (kO (bE (rl e) (yb e) (hr.mono (by decide)) (aa (aF.nm 10) (aa (bE (sZ e) (zJ e) (hr.mono (by decide)) (aa (aF.nm 3) aj) (aF.d 10) (aF.g 10)) aj)) (aF.d 11) (aF.g 11)))))))) (aJ (bD mG)) dO)
  (aJ (eH (cy A_ (bS _) (bE (gY e) (Ei (pK e)) (hr.mono (by decide)) (aa (j8 (aa (bB ft (j8 (aa au aj)) (c8 dy (aa (aF.nm 3) aj) B.dq rfl cN (aF.d 5) (aF.g 5))) aj)) aj) (aF.d 12) (aF.g 12)) xZ) (aJ (bD mG)) dO))))))))))))))))))
  (aJ (bD mG)))) GW
end
def dL:DefRec:=match gK with
 | .FunctionDef n a b _ _ _ sc _ _ pos=>⟨n,a,b,sc,pos⟩
 |_=>⟨"",L2.iC (.Pass ⟨0,0,0,0⟩),[],L2.ai (.Pass ⟨0,0,0,0⟩),⟨0,0,0,0⟩⟩
theorem Be:PySem.Challenge.rw_latticeworks_k26_all_the_rests.wellSaid=true:=by decide+kernel
end Row
open PySem PySem.W PyProof.Rows
set_option maxRecDepth 100000 in
set_option maxHeartbeats 0 in
theorem PySem.Challenge.cw_latticeworks_k26_all_the_rests_holds : PySem.Challenge.rw_latticeworks_k26_all_the_rests.Holds := by
 refine PySem.W.holds_law Row.Be fun Be=>?_;refine PySem.W.holds_open (r:=PySem.Challenge.rw_latticeworks_k26_all_the_rests.row) (q:=PySem.W.view Row.PW [1,2,3,4,5,6,8,9,10,11,12,14,15,16,17,19,20,21,22,24,25,26,27,28,29,30,31,32,33]) (loose:=[]) (Xt:=fun _=>true) (XP:=fun _ _=>True) (YP:=(PySem.W.kmHook Row.KX Row.KA (fun _=>rfl) [98]).says) (d:=Row.dL) (kwd:=[]) Row.left ((PySem.W.kmHook Row.KX Row.KA (fun _=>rfl) [98]).of) ((PySem.W.kmHook Row.KX Row.KA (fun _=>rfl) [98]).keeps) (fun _ _=>trivial) (fun _ _ _ _ _=>trivial) (by kernel_rfl) (by kernel_rfl) (by kernel_rfl) (fun s _=>PySem.W.recFacts_of (R:=[]) rfl) (by kernel_rfl) Be (by decide+kernel) ⟨rfl,rfl,rfl,rfl,rfl,by decide+kernel⟩ ?hw ?hc;case hw=>w_witness2
 refine L2.Ih (n:=63) (k:=9) (x:="_law_script") (ts:=[(100,98)]) (K:=Row.KX) (sp:=fun w=>L3.zF (Row.KX w.params) [(100,98)]) rfl (by decide) (by kernel_rfl) ⟨rfl,by decide,by decide⟩ (by kernel_rfl) rfl (fun w h Y=>⟨PySem.W.km_in_of Y,⟨(fun q hq=>by rcases List.mem_cons.mp hq with rfl|hq;kernel_rfl;cases hq),(fun q hq=>by rcases List.mem_cons.mp hq with rfl|hq;kernel_rfl;cases hq),fun q hq=>PySem.W.km_tabs_of Y _ (List.mem_map_of_mem (f:=Prod.snd) hq)⟩⟩) ?F fun _ _ a ns hl hE=>⟨a,ns,rfl,hE,hl,fun _=>rfl⟩
 intro w mg fa h X G hmg;have e2:=hmg.symm.trans (PySem.W.mg_of (v:= .ref 264) X G (by kernel_rfl));cases e2;exact⟨Hd.fd Row.gK "law" "law" Row.eC 263,fun s v=> .of_eq rfl,fun base _ _=>(Row.Jc ⟨X,G⟩).imp fun vs H Q E h=>L3.zI (tl:=[(98,⟨48,32,48,66⟩,"Bench.live_rows.<locals>.<lambda>")]) (by kernel_rfl) rfl (by decide) h⟩
